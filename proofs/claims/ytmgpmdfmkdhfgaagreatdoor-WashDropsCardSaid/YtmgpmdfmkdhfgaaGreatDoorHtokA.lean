import Derived.Test.YtmgpmdfmkdhfgaaGreatDoorHtokC
import Derived.Test.YtmgpmdfmkdhfgaaGreatDoorBaseN
import Derived.Test.YtmgpmdfmkdhfgaaGreatDoorBaseS
namespace Go.Proofs.YtmgpmdfmkdhfgaaGreatDoor
open Go.RowKit
set_option linter.unusedVariables false
set_option linter.unusedSimpArgs false
set_option maxRecDepth 100000
theorem trimW_left (s:ByteArray) (w:World) :
  Calls Tryz.prog 118 #[.string s,.string ⟨#[32,9,10,12,13]⟩] w fun e w'=>e = .returned (.string (str (s.data.toList.dropWhile whB))) /\ Below w.heap.size w w':=by
 refine (Any.strings_TrimLeft_laid Tryz.lays161 (by kernel_rfl) s ⟨#[32,9,10,12,13]⟩ w (by decide) (ascii_of_all (by decide))).mono ?_;rintro e w1 ⟨rfl,hb⟩;refine ⟨?_,hb⟩
 have:(fun b=>(⟨#[32,9,10,12,13]⟩:ByteArray).data.toList.contains b) = whB:=funext fun c=>by
  show ([32,9,10,12,13]:List UInt8).contains c = whB c
  unfold whB;simp only [List.contains_cons,List.contains_nil,Bool.or_false]
 unfold Lib.trimLeftS;rw [this];rfl
theorem trimS_left (s:ByteArray) (w:World) :
  Calls Tryz.prog 118 #[.string s,.string ⟨#[32,9,10,12,13,47]⟩] w fun e w'=>e = .returned (.string (str (s.data.toList.dropWhile whs))) /\ Below w.heap.size w w':=by
 refine (Any.strings_TrimLeft_laid Tryz.lays161 (by kernel_rfl) s ⟨#[32,9,10,12,13,47]⟩ w (by decide) (ascii_of_all (by decide))).mono ?_;rintro e w1 ⟨rfl,hb⟩;refine ⟨?_,hb⟩
 have:(fun b=>(⟨#[32,9,10,12,13,47]⟩:ByteArray).data.toList.contains b) = whs:=funext fun c=>by
  show ([32,9,10,12,13,47]:List UInt8).contains c = whs c
  unfold whs whB;simp only [List.contains_cons,List.contains_nil,Bool.or_false,Bool.or_assoc]
 unfold Lib.trimLeftS;rw [this];rfl
def ACell (w:World) (b:Nat) (x y:ByteArray):Prop:=w.heap[b]? = some (.cells #[.string x,.string y] 47 (0,0))
theorem ACell.cell0 {w:World} {b:Nat} {x y:ByteArray} (h:ACell w b x y):w.cell? ⟨b,0,none⟩ = some (.string x):=by rw [Lib.cell_of_heap h];rfl
theorem ACell.cell1 {w:World} {b:Nat} {x y:ByteArray} (h:ACell w b x y):w.cell? ⟨b,1,none⟩ = some (.string y):=by rw [Lib.cell_of_heap h];rfl
theorem ACell.free {w:World} {b:Nat} {x y:ByteArray} (h:ACell w b x y) (i:Nat):w.frozen? ⟨b,i,none⟩ = false:=Lib.frozen_of_heap h i
theorem ACell.kept {w w':World} {b:Nat} {x y:ByteArray} (h:ACell w b x y) (hb:Below w.heap.size w w'):ACell w' b x y:=(hb.block b (lt_of_block h)).trans h
theorem ACell.put0 {w:World} {b:Nat} {x y:ByteArray} (h:ACell w b x y) (u:ByteArray):ACell (w.setCell ⟨b,0,none⟩ (.string u)) b u y:=heap_put (j:=0) _ h
theorem ACell.put1 {w:World} {b:Nat} {x y:ByteArray} (h:ACell w b x y) (u:ByteArray):ACell (w.setCell ⟨b,1,none⟩ (.string u)) b x u:=heap_put (j:=1) _ h
theorem ACell.far {w:World} {b g j:Nat} {x y:ByteArray} (h:ACell w b x y) (hne:b ≠ g) (u:Value):ACell (w.setCell ⟨g,j,none⟩ u) b x y:=(Below.heap_setCell _ _ _ b (fun e=>hne (by rw [e]))).trans h
theorem acell_new (w:World):ACell (w.alloc (.cells #[.string ⟨#[]⟩,.string ⟨#[]⟩] 47)) w.heap.size ⟨#[]⟩ ⟨#[]⟩:=by
 show (w.heap.push _)[w.heap.size]? = _
 exact Array.getElem?_push_size
theorem acell_of (w:World) (x y:ByteArray):ACell (w.alloc (.cells #[.string x,.string y] 47)) w.heap.size x y:=by
 show (w.heap.push _)[w.heap.size]? = _
 exact Array.getElem?_push_size
theorem ACell.alloc {w:World} {b:Nat} {x y:ByteArray} (h:ACell w b x y) (o:Obj):ACell (w.alloc o) b x y:=h.kept ((Below.refl _ _).alloc (Nat.le_refl _) o)
theorem attrEnd_has (c:UInt8):(⟨#[32,9,10,12,13,47,62,61]⟩:ByteArray).data.toList.contains c = attrEndB c:=by
 show ([32,9,10,12,13,47,62,61]:List UInt8).contains c = attrEndB c
 unfold attrEndB nameEndB whB;simp only [List.contains_cons,List.contains_nil,Bool.or_false,Bool.or_assoc]
theorem nameEnd_has (c:UInt8):(⟨#[32,9,10,12,13,47,62]⟩:ByteArray).data.toList.contains c = nameEndB c:=by
 show ([32,9,10,12,13,47,62]:List UInt8).contains c = nameEndB c
 unfold nameEndB whB;simp only [List.contains_cons,List.contains_nil,Bool.or_false,Bool.or_assoc]
def attrV (x:AtL × List UInt8):Value:=.tuple #[.agg #[.string (str x.1.1),.string (str x.1.2)],.string (str x.2)]
theorem attrL_no {dec:List UInt8 -> List UInt8} {c:UInt8} {r:List UInt8} (h:((upL attrEndB r).2.dropWhile whB).head? ≠ some 61):attrL dec (c :: r) = ((lowL (c :: (upL attrEndB r).1),[]),(upL attrEndB r).2):=by
 unfold attrL;simp only;split
 ·rename_i b e;rw [e] at h;exact absurd rfl h
 ·rfl
theorem attrL_yes {dec:List UInt8 -> List UInt8} {c:UInt8} {r b:List UInt8} (h:(upL attrEndB r).2.dropWhile whB = 61 :: b):attrL dec (c :: r) = ((lowL (c :: (upL attrEndB r).1),dec (valueL (b.dropWhile whB)).1),(valueL (b.dropWhile whB)).2):=by
 unfold attrL;simp only;rw [h];rfl
theorem valueL_len2 (l:List UInt8):(valueL l).1.length <= l.length:=by
 unfold valueL;cases l with
 | nil=>exact Nat.le_refl _
 | cons c r =>
  simp only;split
  ·exact Nat.le_trans (List.takeWhile_sublist _).length_le (Nat.le_succ _)
  ·split
   ·exact Nat.le_trans (List.takeWhile_sublist _).length_le (Nat.le_succ _)
   ·exact (List.takeWhile_sublist _).length_le
set_option maxHeartbeats 4000000 in
theorem readAttr_any (s:ByteArray) (w:World) (hs:s.size <= 16777216) (h0:0 < s.size) (hE:EnvE w) :
  Calls Tryz.prog 119 #[.string s] w fun e w'=>e = .returned (attrV (attrL decE s.data.toList)) /\ Below w.heap.size w w':=by
 have hlen:=toList_length s
 obtain ⟨c,r,hl⟩:∃ c r,s.data.toList = c :: r:=by
  cases h:s.data.toList with
  | nil=>rw [h] at hlen;simp at hlen;omega
  | cons c r=>exact ⟨c,r,rfl⟩
 have hU:=fun w2=>upTo1_any s ⟨#[32,9,10,12,13,47,62,61]⟩ attrEndB w2 attrEnd_has hs (by omega) (by decide) (by decide) (by decide)
 rw [hl] at hU;have hu2:=upL_len attrEndB r;rw [hl,List.length_cons] at hlen;have hup:up1L attrEndB (c :: r) = (c :: (upL attrEndB r).1,(upL attrEndB r).2):=rfl;rw [hup] at hU;obtain ⟨N,hN⟩:∃ N,N = c :: (upL attrEndB r).1:=⟨_,rfl⟩
 obtain ⟨R,hR⟩:∃ R,R = (upL attrEndB r).2:=⟨_,rfl⟩
 have hNl:N.length <= 16777216:=by rw [hN,List.length_cons];omega
 have hRl:R.length <= 16777216:=by rw [hR];omega
 rw [<- hN,<- hR] at hU;have hLOW:=fun w2=>lower_any (str N) w2 (by rw [str_size];omega)
 have hTW:=fun w2=>trimW_left (str R) w2
 rw [str_toList] at hLOW hTW;have HU:=hide hU;have HLOW:=hide hLOW;have HTW:=hide hTW;clear hU hLOW hTW;rcases quote_cut 61 (R.dropWhile whB) with ⟨hp,b,hb,htr⟩ | ⟨hp,hno⟩
 ·obtain ⟨T,hT⟩:∃ T:ByteArray,T = str b:=⟨_,rfl⟩
  have HT:Hid ((⟨(Lib.trimPrefix (str (R.dropWhile whB)).data.toList (⟨#[61]⟩:ByteArray).data.toList).toArray⟩:ByteArray) = T):=hide (by
   rw [hT,str_toList];exact congrArg str htr)
  have HP:Hid (Lib.hasPrefix (str (R.dropWhile whB)).data.toList (⟨#[61]⟩:ByteArray).data.toList = true):=hide (by rw [str_toList];exact hp)
  have hbl:b.length <= 16777216:=by
   have h1:=drop_len whB R;rw [hb,List.length_cons] at h1;omega
  have hTl:T.data.toList = b:=by rw [hT,str_toList]
  have HTT:=hide (fun w2=>trimW_left T w2);rw [hTl] at HTT;have hvl:(b.dropWhile whB).length <= 16777216:=Nat.le_trans (drop_len whB b) hbl;obtain ⟨V,hV⟩:∃ V,V = b.dropWhile whB:=⟨_,rfl⟩
  rw [<- hV] at HTT hvl;have hRV:=fun w2=>readValue_any (str V) w2 (by rw [str_size];exact hvl)
  rw [str_toList] at hRV;have hX:=valueL_len2 V;obtain ⟨X,hXe⟩:∃ X,X = (valueL V).1:=⟨_,rfl⟩
  obtain ⟨Y,hYe⟩:∃ Y,Y = (valueL V).2:=⟨_,rfl⟩
  have hRV2:∀ w2,Calls Tryz.prog 147 #[.string (str V)] w2 fun e w'=>e = .returned (upV (X,Y)) /\ Below w2.heap.size w2 w':=by
   rw [hXe,hYe];exact hRV
  have HRV:=hide hRV2;have HDEC:=hide (fun w2 h=>entDecode_any (str X) w2 (by rw [str_size,hXe];omega) h);rw [str_toList] at HDEC;have HV:Hid (attrL decE s.data.toList = ((lowL N,decE X),Y)):=hide (by rw [hl,attrL_yes (by rw [<- hR];exact hb),<- hN,<- hV,<- hXe,<- hYe]);have HE:=hide hE;clear hE hb htr hT hbl hTl hvl hV hRV hX hXe hYe hRV2;clear hp hN hR hl hlen hu2 hup;go_enter Tryz.func119,Tryz.ntmps119;go_wp2_with fail;refine (HU.out _).mono ?_;rintro e w1 ⟨rfl,hb1⟩;have b1:=acell_new w;have HA1:=hide (b1.kept hb1);have HB1:=hide (((Below.refl w.heap.size w).alloc (Nat.le_refl _) (.cells #[.string ⟨#[]⟩,.string ⟨#[]⟩] 47)).trans (hb1.mono (by rw [World.size_alloc];exact Nat.le_succ _)));clear hb1 b1;unfold upV;go_wp2_with fail;refine (HLOW.out _).mono ?_;rintro e w2 ⟨rfl,hb2⟩;have HA2:=hide (HA1.out.kept hb2);have HB2:=hide (HB1.out.trans (hb2.mono HB1.out.size));have hlt2:w.heap.size < w2.heap.size:=lt_of_block HA2.out;clear hb2;go_wp2_with fail;refine (HTW.out _).mono ?_;rintro e w3 ⟨rfl,hb3⟩;have A3:=(HA2.out.alloc _).kept hb3;have C3:=(acell_of w2 (str (lowL N)) ⟨#[]⟩).kept hb3;have HB3:=hide ((HB2.out.alloc HB2.out.size _).trans (hb3.mono (HB2.out.alloc HB2.out.size _).size));clear hb3;have HA3:=hide A3;have HC3:=hide C3;clear A3 C3;go_wp2_with fail;refine (Tryz.strings_CutPrefix _ _ _).mono ?_;rintro e w4 ⟨rfl,hw⟩;subst hw;rw [HP.out,HT.out]
  go_wp2_with fail;refine (HTT.out _).mono ?_;rintro e w5 ⟨rfl,hb5⟩;have HA5:=hide (HA3.out.kept hb5);have HC5:=hide (HC3.out.kept hb5);have HB5:=hide (HB3.out.trans (hb5.mono HB3.out.size));clear hb5;go_wp2_with fail;refine (HRV.out _).mono ?_;rintro e w6 ⟨rfl,hb6⟩;have HA6:=hide (HA5.out.kept hb6);have HC6:=hide (HC5.out.kept hb6);have HB6:=hide (HB5.out.trans (hb6.mono HB5.out.size));clear hb6;unfold upV;go_wp2_with fail;refine (HDEC.out _ (HE.out.kept HB6.out)).mono ?_;rintro e w7 ⟨rfl,hb7⟩;have A7:=HA6.out.kept hb7;have C7:=HC6.out.kept hb7;have HB7:=hide (HB6.out.trans (hb7.mono HB6.out.size));clear hb7;have g1:=C7.free 1;have g1':=C7.cell1;have C8:=C7.put1 (str (decE X));have A8:=A7.far (j:=1) (Nat.ne_of_lt hlt2) (.string (str (decE X)));have k0:=C8.cell0;have k1:=C8.cell1;have f0:=A8.free 0;have f0':=A8.cell0;have A9:=A8.put0 (str (lowL N));have f1:=A9.free 1;have f1':=A9.cell1;have A10:=A9.put1 (str (decE X));have hfa:=A10.cell0;have hfb:=A10.cell1;have HBF:=hide (((HB7.out.setCell (p:=⟨w2.heap.size,1,none⟩) (Nat.le_of_lt hlt2) (.string (str (decE X)))).setCell (p:=⟨w.heap.size,0,none⟩) (Nat.le_refl _) (.string (str (lowL N)))).setCell (p:=⟨w.heap.size,1,none⟩) (Nat.le_refl _) (.string (str (decE X))));clear A7 C7 C8 A8 A9 A10;go_wp2_with fail;refine bodyPost_ret (v:=.tuple #[.agg #[.string (str (lowL N)),.string (str (decE X))],.string (str Y)]) (by simp [results,Tryz.f119,go_sem,hfa,hfb]) rfl ?_
  exact ⟨by rw [HV.out];rfl,HBF.out⟩
 ·have HV:Hid (attrL decE s.data.toList = ((lowL N,[]),R)):=hide (by rw [hl,attrL_no (by rw [<- hR];exact hno),<- hN,<- hR]);have HP:Hid (Lib.hasPrefix (str (R.dropWhile whB)).data.toList (⟨#[61]⟩:ByteArray).data.toList = false):=hide (by rw [str_toList];exact hp);clear hp hno hN hR hl hlen hu2 hup;go_enter Tryz.func119,Tryz.ntmps119;go_wp2_with fail;refine (HU.out _).mono ?_;rintro e w1 ⟨rfl,hb1⟩;have b1:=acell_new w;have HA1:=hide (b1.kept hb1);have HB1:=hide (((Below.refl w.heap.size w).alloc (Nat.le_refl _) (.cells #[.string ⟨#[]⟩,.string ⟨#[]⟩] 47)).trans (hb1.mono (by rw [World.size_alloc];exact Nat.le_succ _)));clear hb1 b1;unfold upV;go_wp2_with fail;refine (HLOW.out _).mono ?_;rintro e w2 ⟨rfl,hb2⟩;have HA2:=hide (HA1.out.kept hb2);have HB2:=hide (HB1.out.trans (hb2.mono HB1.out.size));have hlt2:w.heap.size < w2.heap.size:=lt_of_block HA2.out;clear hb2;go_wp2_with fail;refine (HTW.out _).mono ?_;rintro e w3 ⟨rfl,hb3⟩;have A3:=(HA2.out.alloc _).kept hb3;have C3:=(acell_of w2 (str (lowL N)) ⟨#[]⟩).kept hb3;have HB3:=hide ((HB2.out.alloc HB2.out.size _).trans (hb3.mono (HB2.out.alloc HB2.out.size _).size));clear hb3;have f0:=A3.free 0;have f0':=A3.cell0;have k0:=C3.cell0;have k1:=C3.cell1;have A4:=A3.put0 (str (lowL N));have f1:=A4.free 1;have f1':=A4.cell1;have A5:=A4.put1 ⟨#[]⟩;have hfa:=A5.cell0;have hfb:=A5.cell1
  have HBF:=hide ((HB3.out.setCell (p:=⟨w.heap.size,0,none⟩) (Nat.le_refl _) (.string (str (lowL N)))).setCell (p:=⟨w.heap.size,1,none⟩) (Nat.le_refl _) (.string ⟨#[]⟩));clear A3 C3 A4 A5;go_wp2_with fail;refine (Tryz.strings_CutPrefix _ _ _).mono ?_;rintro e w4 ⟨rfl,hw⟩;subst hw;rw [HP.out];go_wp2_with fail;refine bodyPost_ret (v:=.tuple #[.agg #[.string (str (lowL N)),.string ⟨#[]⟩],.string (str R)]) (by simp [results,Tryz.f119,go_sem,hfa,hfb]) rfl ?_;exact ⟨by rw [HV.out];rfl,HBF.out⟩
end Go.Proofs.YtmgpmdfmkdhfgaaGreatDoor
