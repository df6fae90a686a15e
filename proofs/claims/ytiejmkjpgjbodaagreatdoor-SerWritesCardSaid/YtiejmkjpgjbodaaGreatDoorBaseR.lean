/- More of the first texts of this claim in one: each with its own head. No statement is proved here. -/
import Derived.Test.YtiejmkjpgjbodaaGreatDoorBaseQ
import Derived.Test.YtiejmkjpgjbodaaGreatDoorBaseN
import Derived.Test.YtiejmkjpgjbodaaGreatDoorBaseP
import Derived.Deep.LoopGhost
import Derived.Test.YtiejmkjpgjbodaaGreatDoorBaseM
import Derived.StillTailTactics
import Derived.Deep.RegionHeld3
namespace Go.Proofs.YtiejmkjpgjbodaaGreatDoor
open Go.RowKit
set_option linter.unusedVariables false
set_option linter.unusedSimpArgs false
set_option maxRecDepth 100000
set_option maxHeartbeats 16000000
theorem at_form {w:World} {B:Nat} {v:Value} {l:List AtL} (h:w.ownsRow B 43 2 v l.length (atVals l)):∃ A c,v = .slice A l.length c:=by
 rcases h.2 with ⟨rfl,h0⟩ | ⟨g,cap,cur,rfl,_⟩
 ·rw [h0];exact ⟨_,_,rfl⟩
 ·exact ⟨_,_,rfl⟩
theorem at_cells {w:World} {B:Nat} {A:Option Addr} {n cap:Nat} {l:List AtL} (h:w.ownsRow B 43 2 (.slice A n cap) l.length (atVals l)) (k:Nat) (f:AtL) (hk:l[k]? = some f) :
  ∃ a,A = some a /\ w.cell? (a.add (k * 2)) = some (.string (str f.1)) /\ w.cell? { block:=(a.add (k * 2)).block,off:=(a.add (k * 2)).off + 1 } = some (.string (str f.2)):=by
 rcases h.2 with ⟨_,h0⟩ | ⟨g,cap',cur,hv,hr⟩
 ·rw [List.eq_nil_of_length_eq_zero h0] at hk;simp at hk
 ·obtain ⟨a1,a2⟩:=atVals_at hk;rw [hv] at h;have hA:A = some ⟨g,0,none⟩:=by injection hv
  refine ⟨⟨g,0,none⟩,hA,h.cells (g:=g) rfl _ _ a1,?_⟩;have e3:({ block:=((⟨g,0,none⟩:Addr).add (k * 2)).block,off:=((⟨g,0,none⟩:Addr).add (k * 2)).off + 1 }:Addr) = (⟨g,0,none⟩:Addr).add (k * 2 + 1):=by rw [<- Addr.add_add];rfl
  rw [e3];exact h.cells (g:=g) rfl _ _ a2
theorem row_kept {w w':World} {B:Nat} {e:TypeId} {sz n:Nat} {v:Value} {xs:List Value} (h:w.ownsRow B e sz v n xs) (hb:Below w.heap.size w w'):w'.ownsRow B e sz v n xs :=
 h.kept (row:=none) ⟨hb.os,hb.tape,hb.output,hb.size,fun k hk _=>hb.block k hk⟩ (by cases hv:v.ownBlock <;> simp)
theorem box_kept {w w':World} {b:Nat} {t:TypeId} {v:Value} (h:Box w b t v) (hb:Below w.heap.size w w'):Box w' b t v:=(hb.block b (lt_of_block h)).trans h
theorem countsF_any (P1 P2 n:ByteArray) (b:Nat) (w:World) (hb:Box w b 9 (.string n)) :
  Calls Tryz.prog 204 #[.agg #[.string P1,.string P2],.pointer (some ⟨b,0,none⟩)] w fun e w'=>e = .returned (.bool (P1.toList == n.toList)) /\ Below w.heap.size w w':=by
 have hc:∀ o,(w.alloc o).cell? ⟨b,0,none⟩ = some (.string n):=fun o=>(box_kept hb ((Below.refl _ _).alloc (Nat.le_refl _) o)).cell
 have HB:=hide (fun o=>(Below.refl w.heap.size w).alloc (Nat.le_refl _) o);clear hb;go_enter Tryz.func204,Tryz.ntmps204;go_wp2_with fail;go_ret;exact ⟨rfl,HB.out _⟩
theorem indexAt_any (B:Nat) (v:Value) (l:List AtL) (n:ByteArray) (b:Nat) (w:World) (h:w.ownsRow B 43 2 v l.length (atVals l)) (hl:l.length <= 1000000) (hb:Box w b 9 (.string n)) :
  Calls Tryz.prog 235 #[v,.func (.func 204) #[] #[.pointer (some ⟨b,0,none⟩)]] w fun e w'=>∃ i:Int,e = .returned (.int .i64 i) /\ decide (0 <= i) = (l.any fun a=>a.1 == n.data.toList) /\ Below w.heap.size w w':=by
 obtain ⟨A,cap,rfl⟩:=at_form h;have H:=hide h;have HBX:=hide hb;clear h hb;go_enter Tryz.func235,Tryz.ntmps235;go_wp2_with fail;go_loopw [8] (fun iv wr=>∃ k:Nat,k <= l.length /\ iv = .int .i64 k /\ Hid (Below w.heap.size w wr) /\ Hid (((l.drop k).any fun a=>a.1 == n.data.toList) = (l.any fun a=>a.1 == n.data.toList))) (fun iv _=>l.length - (intOf iv).toNat)
 case atStart=>exact ⟨0,Nat.zero_le _,rfl,hide (Below.refl _ _),hide rfl⟩
 case round =>
  obtain ⟨k,hk,rfl,HB,HG⟩:=hrel;have hk6:k <= 1000000:=by omega
  by_cases hlt:k < l.length
  ·obtain ⟨a,rfl,c0,c1⟩:=at_cells (row_kept H.out HB.out) k _ (List.getElem?_eq_getElem hlt);have hdr:l.drop k = l[k] :: l.drop (k + 1):=List.drop_eq_getElem_cons hlt;have HG2:=HG.out;rw [hdr] at HG2;obtain ⟨p,hp⟩:∃ p,p = l[k]'hlt:=⟨_,rfl⟩
   rw [<- hp] at c0 c1 HG2;obtain ⟨P1,hP1⟩:∃ P1,P1 = str p.1:=⟨_,rfl⟩
   obtain ⟨P2,hP2⟩:∃ P2,P2 = str p.2:=⟨_,rfl⟩
   rw [<- hP1] at c0;rw [<- hP2] at c1;have HLT:=hide hlt;have HF:=hide (countsF_any P1 P2 n b wr (box_kept HBX.out HB.out));have t1:(P1.toList == n.toList) = (p.1 == n.data.toList):=by rw [hP1,str_list,bytes_list]
   rw [t1] at HF;cases he:(p.1 == n.data.toList) with
   | true =>
    rw [he] at HF
    have HV:Hid ((l.any fun a=>a.1 == n.data.toList) = true):=hide (by
     rw [<- HG2,List.any_cons,he,Bool.true_or])
    clear he hdr HG2 hp hP1 hP2 t1;go_wp2_with fail;refine HF.out.mono ?_;rintro e w1 ⟨rfl,hb⟩;have HB2:=hide (HB.out.trans (hb.mono HB.out.size));clear hb;go_wp2_with fail;go_ret;exact ⟨k,rfl,by rw [HV.out];exact decide_eq_true (by omega),HB2.out⟩
   | false =>
    rw [he] at HF
    have HGN:Hid (((l.drop (k + 1)).any fun a=>a.1 == n.data.toList) = (l.any fun a=>a.1 == n.data.toList)):=hide (by
     rw [<- HG2,List.any_cons,he,Bool.false_or])
    clear he hdr HG2 hp hP1 hP2 t1;go_wp2_with fail;refine HF.out.mono ?_;rintro e w1 ⟨rfl,hb⟩;have HB2:=hide (HB.out.trans (hb.mono HB.out.size));clear hb;go_wp2_with fail;go_roundw
    case rel=>exact ⟨k + 1,HLT.out,by go_num,HB2,HGN⟩
    case measure=>simp [intOf];have:=HLT.out;omega
  ·have HV:Hid ((l.any fun a=>a.1 == n.data.toList) = false):=hide (by
    rw [<- HG.out,List.drop_eq_nil_of_le (by omega)];rfl)
   go_wp2_with fail;go_ret;exact ⟨-1,rfl,by rw [HV.out];rfl,HB.out⟩
theorem containsAt_any (B:Nat) (v:Value) (l:List AtL) (n:ByteArray) (b:Nat) (w:World) (h:w.ownsRow B 43 2 v l.length (atVals l)) (hl:l.length <= 1000000) (hb:Box w b 9 (.string n)) :
  Calls Tryz.prog 203 #[v,.func (.func 204) #[] #[.pointer (some ⟨b,0,none⟩)]] w fun e w'=>e = .returned (.bool (l.any fun a=>a.1 == n.data.toList)) /\ Below w.heap.size w w':=by
 have HI:=hide (indexAt_any B v l n b w h hl hb);clear h hb;go_enter Tryz.func203,Tryz.ntmps203;go_wp2_with fail;refine HI.out.mono ?_;rintro e w1 ⟨i,rfl,hi,hb⟩;have HV:=hide hi;have HB:=hide hb;clear hi hb;go_wp2_with fail;go_ret;exact ⟨ret_bool HV.out,HB.out⟩
theorem counts_any (B:Nat) (v:Value) (l:List AtL) (n:ByteArray) (w:World) (h:w.ownsRow B 43 2 v l.length (atVals l)) (hl:l.length <= 1000000) :
  Calls Tryz.prog 177 #[v,.string n] w fun e w'=>e = .returned (.bool (countsB l n.data.toList)) /\ Below w.heap.size w w':=by
 have hk:=(Below.refl w.heap.size w).alloc (Nat.le_refl _) (.cells #[.string n] 9)
 have hbx:Box (w.alloc (.cells #[.string n] 9)) w.heap.size 9 (.string n):=by
  show (w.heap.push _)[w.heap.size]? = _
  exact Array.getElem?_push_size
 have HC:=hide (containsAt_any B v l n w.heap.size _ (row_kept h hk) hl hbx);obtain ⟨A,cap,rfl⟩:=at_form h;have HK:=hide hk;clear h hk hbx
 by_cases h30:l.length < 30
 ·have HR:Hid (countsB l n.data.toList = !(l.any fun a=>a.1 == n.data.toList)):=hide (by unfold countsB;rw [decide_eq_true h30,Bool.true_and]);go_enter Tryz.func177,Tryz.ntmps177;go_wp2_with fail
  all_goals first | (exact absurd h30 ‹_›) | skip
  refine HC.out.mono ?_;rintro e w1 ⟨rfl,hb⟩;have HB:=hide (HK.out.trans (hb.mono HK.out.size));clear hb;go_wp2_with fail;go_ret;exact ⟨ret_bool (by rw [HR.out]),HB.out⟩
 ·have HR:Hid (countsB l n.data.toList = false):=hide (by unfold countsB;rw [decide_eq_false h30,Bool.false_and]);go_enter Tryz.func177,Tryz.ntmps177;go_wp2_with fail
  all_goals first | (exact absurd ‹_› h30) | skip
  go_ret;exact ⟨ret_bool (by rw [HR.out]),HK.out⟩
theorem trimW_left (s:ByteArray) (w:World) :
  Calls Tryz.prog 174 #[.string s,.string ⟨#[32,9,10,12,13]⟩] w fun e w'=>e = .returned (.string (str (s.data.toList.dropWhile whB))) /\ Below w.heap.size w w':=by
 refine (Any.strings_TrimLeft_laid Tryz.lays161 (by kernel_rfl) s ⟨#[32,9,10,12,13]⟩ w (by decide) (ascii_of_all (by decide))).mono ?_;rintro e w1 ⟨rfl,hb⟩;refine ⟨?_,hb⟩
 have:(fun b=>(⟨#[32,9,10,12,13]⟩:ByteArray).data.toList.contains b) = whB:=funext fun c=>by
  show ([32,9,10,12,13]:List UInt8).contains c = whB c
  unfold whB;simp only [List.contains_cons,List.contains_nil,Bool.or_false]
 unfold Lib.trimLeftS;rw [this];rfl
theorem trimS_left (s:ByteArray) (w:World) :
  Calls Tryz.prog 174 #[.string s,.string ⟨#[32,9,10,12,13,47]⟩] w fun e w'=>e = .returned (.string (str (s.data.toList.dropWhile whs))) /\ Below w.heap.size w w':=by
 refine (Any.strings_TrimLeft_laid Tryz.lays161 (by kernel_rfl) s ⟨#[32,9,10,12,13,47]⟩ w (by decide) (ascii_of_all (by decide))).mono ?_;rintro e w1 ⟨rfl,hb⟩;refine ⟨?_,hb⟩
 have:(fun b=>(⟨#[32,9,10,12,13,47]⟩:ByteArray).data.toList.contains b) = whs:=funext fun c=>by
  show ([32,9,10,12,13,47]:List UInt8).contains c = whs c
  unfold whs whB;simp only [List.contains_cons,List.contains_nil,Bool.or_false,Bool.or_assoc]
 unfold Lib.trimLeftS;rw [this];rfl
def ACell (w:World) (b:Nat) (x y:ByteArray):Prop:=w.heap[b]? = some (.cells #[.string x,.string y] 43 (0,0))
theorem ACell.cell0 {w:World} {b:Nat} {x y:ByteArray} (h:ACell w b x y):w.cell? ⟨b,0,none⟩ = some (.string x):=by rw [Lib.cell_of_heap h];rfl
theorem ACell.cell1 {w:World} {b:Nat} {x y:ByteArray} (h:ACell w b x y):w.cell? ⟨b,1,none⟩ = some (.string y):=by rw [Lib.cell_of_heap h];rfl
theorem ACell.free {w:World} {b:Nat} {x y:ByteArray} (h:ACell w b x y) (i:Nat):w.frozen? ⟨b,i,none⟩ = false:=Lib.frozen_of_heap h i
theorem ACell.kept {w w':World} {b:Nat} {x y:ByteArray} (h:ACell w b x y) (hb:Below w.heap.size w w'):ACell w' b x y:=(hb.block b (lt_of_block h)).trans h
theorem ACell.put0 {w:World} {b:Nat} {x y:ByteArray} (h:ACell w b x y) (u:ByteArray):ACell (w.setCell ⟨b,0,none⟩ (.string u)) b u y:=heap_put (j:=0) _ h
theorem ACell.put1 {w:World} {b:Nat} {x y:ByteArray} (h:ACell w b x y) (u:ByteArray):ACell (w.setCell ⟨b,1,none⟩ (.string u)) b x u:=heap_put (j:=1) _ h
theorem ACell.far {w:World} {b g j:Nat} {x y:ByteArray} (h:ACell w b x y) (hne:b ≠ g) (u:Value):ACell (w.setCell ⟨g,j,none⟩ u) b x y:=(Below.heap_setCell _ _ _ b (fun e=>hne (by rw [e]))).trans h
theorem acell_new (w:World):ACell (w.alloc (.cells #[.string ⟨#[]⟩,.string ⟨#[]⟩] 43)) w.heap.size ⟨#[]⟩ ⟨#[]⟩:=by
 show (w.heap.push _)[w.heap.size]? = _
 exact Array.getElem?_push_size
theorem acell_of (w:World) (x y:ByteArray):ACell (w.alloc (.cells #[.string x,.string y] 43)) w.heap.size x y:=by
 show (w.heap.push _)[w.heap.size]? = _
 exact Array.getElem?_push_size
theorem ACell.alloc {w:World} {b:Nat} {x y:ByteArray} (h:ACell w b x y) (o:Obj):ACell (w.alloc o) b x y:=h.kept ((Below.refl _ _).alloc (Nat.le_refl _) o)
theorem attrEnd_has (c:UInt8):(⟨#[32,9,10,12,13,47,62,61]⟩:ByteArray).data.toList.contains c = attrEndB c:=by
 show ([32,9,10,12,13,47,62,61]:List UInt8).contains c = attrEndB c
 unfold attrEndB nameEndB whB;simp only [List.contains_cons,List.contains_nil,Bool.or_false,Bool.or_assoc]
theorem nameEnd_has (c:UInt8):(⟨#[32,9,10,12,13,47,62]⟩:ByteArray).data.toList.contains c = nameEndB c:=by
 show ([32,9,10,12,13,47,62]:List UInt8).contains c = nameEndB c
 unfold nameEndB whB;simp only [List.contains_cons,List.contains_nil,Bool.or_false,Bool.or_assoc]
def attrV (x:AtL × List UInt8):Value:=.tuple #[.agg #[.string (str x.1.1),.string (str x.1.2)],.string (str x.2)]
theorem attrL_no {dec:List UInt8 -> List UInt8} {c:UInt8} {r:List UInt8} (h:((upL attrEndB r).2.dropWhile whB).head? ≠ some 61):attrL dec (c :: r) = ((lowL (c :: (upL attrEndB r).1),[]),(upL attrEndB r).2):=by
 unfold attrL;simp only;split
 ·rename_i b e;rw [e] at h;exact absurd rfl h
 ·rfl
theorem attrL_yes {dec:List UInt8 -> List UInt8} {c:UInt8} {r b:List UInt8} (h:(upL attrEndB r).2.dropWhile whB = 61 :: b):attrL dec (c :: r) = ((lowL (c :: (upL attrEndB r).1),dec (valueL (b.dropWhile whB)).1),(valueL (b.dropWhile whB)).2):=by
 unfold attrL;simp only;rw [h];rfl
theorem valueL_len2 (l:List UInt8):(valueL l).1.length <= l.length:=by
 unfold valueL;cases l with
 | nil=>exact Nat.le_refl _
 | cons c r =>
  simp only;split
  ·exact Nat.le_trans (List.takeWhile_sublist _).length_le (Nat.le_succ _)
  ·split
   ·exact Nat.le_trans (List.takeWhile_sublist _).length_le (Nat.le_succ _)
   ·exact (List.takeWhile_sublist _).length_le
theorem readAttr_any (s:ByteArray) (w:World) (hs:s.size <= 16777216) (h0:0 < s.size) (hE:EnvE w) :
  Calls Tryz.prog 176 #[.string s] w fun e w'=>e = .returned (attrV (attrL decE s.data.toList)) /\ Below w.heap.size w w':=by
 have hlen:=toList_length s
 obtain ⟨c,r,hl⟩:∃ c r,s.data.toList = c :: r:=by
  cases h:s.data.toList with
  | nil=>rw [h] at hlen;simp at hlen;omega
  | cons c r=>exact ⟨c,r,rfl⟩
 have hU:=fun w2=>upTo1_any s ⟨#[32,9,10,12,13,47,62,61]⟩ attrEndB w2 attrEnd_has hs (by omega) (by decide) (by decide) (by decide)
 rw [hl] at hU;have hu2:=upL_len attrEndB r;rw [hl,List.length_cons] at hlen;have hup:up1L attrEndB (c :: r) = (c :: (upL attrEndB r).1,(upL attrEndB r).2):=rfl;rw [hup] at hU;obtain ⟨N,hN⟩:∃ N,N = c :: (upL attrEndB r).1:=⟨_,rfl⟩
 obtain ⟨R,hR⟩:∃ R,R = (upL attrEndB r).2:=⟨_,rfl⟩
 have hNl:N.length <= 16777216:=by rw [hN,List.length_cons];omega
 have hRl:R.length <= 16777216:=by rw [hR];omega
 rw [<- hN,<- hR] at hU;have hLOW:=fun w2=>lower_any (str N) w2 (by rw [str_size];omega)
 have hTW:=fun w2=>trimW_left (str R) w2
 rw [str_toList] at hLOW hTW;have HU:=hide hU;have HLOW:=hide hLOW;have HTW:=hide hTW;clear hU hLOW hTW;rcases quote_cut 61 (R.dropWhile whB) with ⟨hp,b,hb,htr⟩ | ⟨hp,hno⟩
 ·obtain ⟨T,hT⟩:∃ T:ByteArray,T = str b:=⟨_,rfl⟩
  have HT:Hid ((⟨(Lib.trimPrefix (str (R.dropWhile whB)).data.toList (⟨#[61]⟩:ByteArray).data.toList).toArray⟩:ByteArray) = T):=hide (by
   rw [hT,str_toList];exact congrArg str htr)
  have HP:Hid (Lib.hasPrefix (str (R.dropWhile whB)).data.toList (⟨#[61]⟩:ByteArray).data.toList = true):=hide (by rw [str_toList];exact hp)
  have hbl:b.length <= 16777216:=by
   have h1:=drop_len whB R;rw [hb,List.length_cons] at h1;omega
  have hTl:T.data.toList = b:=by rw [hT,str_toList]
  have HTT:=hide (fun w2=>trimW_left T w2);rw [hTl] at HTT;have hvl:(b.dropWhile whB).length <= 16777216:=Nat.le_trans (drop_len whB b) hbl;obtain ⟨V,hV⟩:∃ V,V = b.dropWhile whB:=⟨_,rfl⟩
  rw [<- hV] at HTT hvl;have hRV:=fun w2=>readValue_any (str V) w2 (by rw [str_size];exact hvl)
  rw [str_toList] at hRV;have hX:=valueL_len2 V;obtain ⟨X,hXe⟩:∃ X,X = (valueL V).1:=⟨_,rfl⟩
  obtain ⟨Y,hYe⟩:∃ Y,Y = (valueL V).2:=⟨_,rfl⟩
  have hRV2:∀ w2,Calls Tryz.prog 202 #[.string (str V)] w2 fun e w'=>e = .returned (upV (X,Y)) /\ Below w2.heap.size w2 w':=by
   rw [hXe,hYe];exact hRV
  have HRV:=hide hRV2;have HDEC:=hide (fun w2 h=>entDecode_any (str X) w2 (by rw [str_size,hXe];omega) h);rw [str_toList] at HDEC;have HV:Hid (attrL decE s.data.toList = ((lowL N,decE X),Y)):=hide (by rw [hl,attrL_yes (by rw [<- hR];exact hb),<- hN,<- hV,<- hXe,<- hYe]);have HE:=hide hE;clear hE hb htr hT hbl hTl hvl hV hRV hX hXe hYe hRV2;clear hp hN hR hl hlen hu2 hup;go_enter Tryz.func176,Tryz.ntmps176;go_wp2_with fail;refine (HU.out _).mono ?_;rintro e w1 ⟨rfl,hb1⟩;have b1:=acell_new w;have HA1:=hide (b1.kept hb1);have HB1:=hide (((Below.refl w.heap.size w).alloc (Nat.le_refl _) (.cells #[.string ⟨#[]⟩,.string ⟨#[]⟩] 43)).trans (hb1.mono (by rw [World.size_alloc];exact Nat.le_succ _)));clear hb1 b1;unfold upV;go_wp2_with fail;refine (HLOW.out _).mono ?_;rintro e w2 ⟨rfl,hb2⟩;have HA2:=hide (HA1.out.kept hb2);have HB2:=hide (HB1.out.trans (hb2.mono HB1.out.size));have hlt2:w.heap.size < w2.heap.size:=lt_of_block HA2.out;clear hb2;go_wp2_with fail;refine (HTW.out _).mono ?_;rintro e w3 ⟨rfl,hb3⟩;have A3:=(HA2.out.alloc _).kept hb3;have C3:=(acell_of w2 (str (lowL N)) ⟨#[]⟩).kept hb3;have HB3:=hide ((HB2.out.alloc HB2.out.size _).trans (hb3.mono (HB2.out.alloc HB2.out.size _).size));clear hb3;have HA3:=hide A3;have HC3:=hide C3;clear A3 C3;go_wp2_with fail;refine (Tryz.strings_CutPrefix _ _ _).mono ?_;rintro e w4 ⟨rfl,hw⟩;subst hw;rw [HP.out,HT.out]
  go_wp2_with fail;refine (HTT.out _).mono ?_;rintro e w5 ⟨rfl,hb5⟩;have HA5:=hide (HA3.out.kept hb5);have HC5:=hide (HC3.out.kept hb5);have HB5:=hide (HB3.out.trans (hb5.mono HB3.out.size));clear hb5;go_wp2_with fail;refine (HRV.out _).mono ?_;rintro e w6 ⟨rfl,hb6⟩;have HA6:=hide (HA5.out.kept hb6);have HC6:=hide (HC5.out.kept hb6);have HB6:=hide (HB5.out.trans (hb6.mono HB5.out.size));clear hb6;unfold upV;go_wp2_with fail;refine (HDEC.out _ (HE.out.kept HB6.out)).mono ?_;rintro e w7 ⟨rfl,hb7⟩;have A7:=HA6.out.kept hb7;have C7:=HC6.out.kept hb7;have HB7:=hide (HB6.out.trans (hb7.mono HB6.out.size));clear hb7;have g1:=C7.free 1;have g1':=C7.cell1;have C8:=C7.put1 (str (decE X));have A8:=A7.far (j:=1) (Nat.ne_of_lt hlt2) (.string (str (decE X)));have k0:=C8.cell0;have k1:=C8.cell1;have f0:=A8.free 0;have f0':=A8.cell0;have A9:=A8.put0 (str (lowL N));have f1:=A9.free 1;have f1':=A9.cell1;have A10:=A9.put1 (str (decE X));have hfa:=A10.cell0;have hfb:=A10.cell1;have HBF:=hide (((HB7.out.setCell (p:=⟨w2.heap.size,1,none⟩) (Nat.le_of_lt hlt2) (.string (str (decE X)))).setCell (p:=⟨w.heap.size,0,none⟩) (Nat.le_refl _) (.string (str (lowL N)))).setCell (p:=⟨w.heap.size,1,none⟩) (Nat.le_refl _) (.string (str (decE X))));clear A7 C7 C8 A8 A9 A10;go_wp2_with fail;refine bodyPost_ret (v:=.tuple #[.agg #[.string (str (lowL N)),.string (str (decE X))],.string (str Y)]) (by simp [results,Tryz.f176,go_sem,hfa,hfb]) rfl ?_
  exact ⟨by rw [HV.out];rfl,HBF.out⟩
 ·have HV:Hid (attrL decE s.data.toList = ((lowL N,[]),R)):=hide (by rw [hl,attrL_no (by rw [<- hR];exact hno),<- hN,<- hR]);have HP:Hid (Lib.hasPrefix (str (R.dropWhile whB)).data.toList (⟨#[61]⟩:ByteArray).data.toList = false):=hide (by rw [str_toList];exact hp);clear hp hno hN hR hl hlen hu2 hup;go_enter Tryz.func176,Tryz.ntmps176;go_wp2_with fail;refine (HU.out _).mono ?_;rintro e w1 ⟨rfl,hb1⟩;have b1:=acell_new w;have HA1:=hide (b1.kept hb1);have HB1:=hide (((Below.refl w.heap.size w).alloc (Nat.le_refl _) (.cells #[.string ⟨#[]⟩,.string ⟨#[]⟩] 43)).trans (hb1.mono (by rw [World.size_alloc];exact Nat.le_succ _)));clear hb1 b1;unfold upV;go_wp2_with fail;refine (HLOW.out _).mono ?_;rintro e w2 ⟨rfl,hb2⟩;have HA2:=hide (HA1.out.kept hb2);have HB2:=hide (HB1.out.trans (hb2.mono HB1.out.size));have hlt2:w.heap.size < w2.heap.size:=lt_of_block HA2.out;clear hb2;go_wp2_with fail;refine (HTW.out _).mono ?_;rintro e w3 ⟨rfl,hb3⟩;have A3:=(HA2.out.alloc _).kept hb3;have C3:=(acell_of w2 (str (lowL N)) ⟨#[]⟩).kept hb3;have HB3:=hide ((HB2.out.alloc HB2.out.size _).trans (hb3.mono (HB2.out.alloc HB2.out.size _).size));clear hb3;have f0:=A3.free 0;have f0':=A3.cell0;have k0:=C3.cell0;have k1:=C3.cell1;have A4:=A3.put0 (str (lowL N));have f1:=A4.free 1;have f1':=A4.cell1;have A5:=A4.put1 ⟨#[]⟩;have hfa:=A5.cell0;have hfb:=A5.cell1
  have HBF:=hide ((HB3.out.setCell (p:=⟨w.heap.size,0,none⟩) (Nat.le_refl _) (.string (str (lowL N)))).setCell (p:=⟨w.heap.size,1,none⟩) (Nat.le_refl _) (.string ⟨#[]⟩));clear A3 C3 A4 A5;go_wp2_with fail;refine (Tryz.strings_CutPrefix _ _ _).mono ?_;rintro e w4 ⟨rfl,hw⟩;subst hw;rw [HP.out];go_wp2_with fail;refine bodyPost_ret (v:=.tuple #[.agg #[.string (str (lowL N)),.string ⟨#[]⟩],.string (str R)]) (by simp [results,Tryz.f176,go_sem,hfa,hfb]) rfl ?_;exact ⟨by rw [HV.out];rfl,HBF.out⟩
def tagV (t:Option (List UInt8 × List AtL × List UInt8)) (v:Value):Value:=match t with
  | none=>.tuple #[.string ⟨#[]⟩,v,.string ⟨#[]⟩,.bool false]
  | some x=>.tuple #[.string (str x.1),v,.string (str x.2.2),.bool true]
def tagAts (t:Option (List UInt8 × List AtL × List UInt8)):List AtL:=match t with
  | none=>[]
  | some x=>x.2.1
theorem tagL_some {dec:List UInt8 -> List UInt8} {l:List UInt8} {A:List AtL} {b:List UInt8} (h:attrsLL dec [] (upL nameEndB l).2 = some (A,b)):tagL dec l = some (lowL (upL nameEndB l).1,A,b):=by
 unfold tagL;rw [h]
theorem tagL_none {dec:List UInt8 -> List UInt8} {l:List UInt8} (h:attrsLL dec [] (upL nameEndB l).2 = none):tagL dec l = none:=by
 unfold tagL;rw [h]
theorem counts_len {A:List AtL} {n:List UInt8} (h:countsB A n = true):A.length < 30:=by
 unfold countsB at h;rw [Bool.and_eq_true] at h;exact of_decide_eq_true h.1
def szStr:Value -> Nat
  | .string t=>t.size
  | _=>0
theorem own_ne {B:Nat} {v:Value} {l:List AtL} {W0 w:World} (h:ABuf B v l W0 w):v.ownBlock ≠ some w.heap.size:=fun e=>absurd (h.1.lt _ e).2 (Nat.lt_irrefl _)
theorem ABuf.set {B:Nat} {v:Value} {l:List AtL} {W0 w:World} {b:Nat} (h:ABuf B v l W0 w) (hB:B <= b) (hne:v.ownBlock ≠ some b) (j:Nat) (x:Value):ABuf B v l W0 (w.setCell ⟨b,j,none⟩ x) :=
 ⟨h.1.kept (row:=some b) ⟨rfl,rfl,rfl,by simp [World.setCell],fun k _ hk=>Below.heap_setCell _ _ _ k (fun e=>hk (by rw [e]))⟩ (.inr hne),h.2.1.setCell (p:=⟨b,j,none⟩) hB _,by simpa [World.setCell] using h.2.2⟩
theorem readTag_any (s:ByteArray) (w:World) (hs:s.size <= 16777216) (hE:EnvE w) :
  Calls Tryz.prog 148 #[.string s] w fun e w'=>∃ v,e = .returned (tagV (tagL decE s.data.toList) v) /\ w'.ownsRow w.heap.size 43 2 v (tagAts (tagL decE s.data.toList)).length (atVals (tagAts (tagL decE s.data.toList))) /\ Below w.heap.size w w':=by
 have hlen:=toList_length s;have hU:=fun w2=>upTo0_any s ⟨#[32,9,10,12,13,47,62]⟩ nameEndB w2 nameEnd_has hs (by decide) (by decide) (by decide)
 have hu2:=upL_len nameEndB s.data.toList;rw [hlen] at hu2;obtain ⟨N,hN⟩:∃ N,N = (upL nameEndB s.data.toList).1:=⟨_,rfl⟩
 obtain ⟨R,hR⟩:∃ R,R = (upL nameEndB s.data.toList).2:=⟨_,rfl⟩
 have hup:upL nameEndB s.data.toList = (N,R):=by rw [hN,hR]
 rw [hup] at hU;have hNl:N.length <= 16777216:=by rw [hN];omega
 have hRl:R.length <= 16777216:=by rw [hR];omega
 have hLOW:=fun w2=>lower_any (str N) w2 (by rw [str_size];omega)
 rw [str_toList] at hLOW
 have HSOME:Hid (∀ A b,attrsLL decE [] R = some (A,b) -> tagL decE s.data.toList = some (lowL N,A,b)):=hide (fun A b h=>by
  rw [hR] at h;rw [tagL_some h,<- hN])
 have HNONE:Hid (attrsLL decE [] R = none -> tagL decE s.data.toList = none):=hide (fun h=>by
  rw [hR] at h;exact tagL_none h)
 have HU:=hide hU;have HLOW:=hide hLOW;have HE:=hide hE;clear hE hU hLOW hN hR hup hu2 hlen;go_enter Tryz.func148,Tryz.ntmps148;go_wp2_with fail;refine (HU.out _).mono ?_;rintro e w1 ⟨rfl,hb1⟩;have HB1:=hide hb1;clear hb1;unfold upV;go_wp2_with fail;go_loopw [0,7] (fun sv v wr=>∃ (S:ByteArray) (A:List AtL),sv = .string S /\ S.size <= 16777216 /\ A.length <= 30 /\ Hid (ABuf w.heap.size v A w wr) /\ Hid (attrsLL decE A S.data.toList = attrsLL decE [] R)) (fun sv _ _=>szStr sv)
 case atStart=>exact ⟨_,[],rfl,by rw [str_size];exact hRl,by simp,hide (ABuf.nil HB1.out HB1.out.size),hide (by rw [str_toList])⟩
 case round =>
  obtain ⟨S,A,rfl,hS,hA,HB,HG⟩:=hrel;have hSl:=toList_length S;obtain ⟨D,hD⟩:∃ D,D = S.data.toList.dropWhile whs:=⟨_,rfl⟩
  have hDl:D.length <= S.size:=by rw [hD,<- hSl];exact drop_len whs _
  have hTR:=fun w2=>trimS_left S w2
  rw [<- hD] at hTR;have HTR:=hide hTR;clear hTR;rcases quote_cut 62 D with ⟨hp,b,hb,htr⟩ | ⟨hp,hno⟩
  ·obtain ⟨T,hT⟩:∃ T:ByteArray,T = str b:=⟨_,rfl⟩
   have HT:Hid ((⟨(Lib.trimPrefix (str D).data.toList (⟨#[62]⟩:ByteArray).data.toList).toArray⟩:ByteArray) = T):=hide (by
    rw [hT,str_toList];exact congrArg str htr)
   have HP:Hid (Lib.hasPrefix (str D).data.toList (⟨#[62]⟩:ByteArray).data.toList = true):=hide (by rw [str_toList];exact hp);have HV:Hid (tagL decE s.data.toList = some (lowL N,A,b)):=hide (HSOME.out A b (by rw [<- HG.out];exact attrsLL_end (by rw [<- hD];exact hb)));have HTE:=hide hT;clear hT hp hb htr hD hDl hSl;go_wp2_with fail;refine (HTR.out _).mono ?_;rintro e w2 ⟨rfl,hb2⟩;have HB2:=hide (HB.out.kept hb2);clear hb2;go_wp2_with fail;refine (Tryz.strings_CutPrefix _ _ _).mono ?_;rintro e w3 ⟨rfl,hw⟩;subst hw;rw [HP.out,HT.out];go_wp2_with fail;refine (HLOW.out _).mono ?_;rintro e w4 ⟨rfl,hb4⟩;have HB4:=hide (HB2.out.kept hb4);clear hb4;go_wp2_with fail;refine bodyPost_ret (v:=.tuple #[.string (str (lowL N)),u7,.string T,.bool true]) (by simp [results,Tryz.f148,go_sem]) rfl ?_;exact ⟨_,by rw [HV.out,HTE.out];rfl,by rw [HV.out];exact HB4.out.1,HB4.out.below⟩
  ·have HP:Hid (Lib.hasPrefix (str D).data.toList (⟨#[62]⟩:ByteArray).data.toList = false):=hide (by rw [str_toList];exact hp);obtain ⟨DS,hDS⟩:∃ DS:ByteArray,DS = str D:=⟨_,rfl⟩
   rw [<- hDS] at HTR HP;obtain ⟨X,hX⟩:∃ X:ByteArray,(⟨(Lib.trimPrefix DS.data.toList (⟨#[62]⟩:ByteArray).data.toList).toArray⟩:ByteArray) = X:=⟨_,rfl⟩
   have HX:=hide hX;clear hX;cases D with
   | nil =>
    have HV:Hid (tagL decE s.data.toList = none):=hide (HNONE.out (by rw [<- HG.out];exact attrsLL_nil hD.symm));have t0:DS.toList.isEmpty = true:=by rw [hDS,str_list];rfl
    have t1:DS.toList = []:=by rw [hDS,str_list]
    clear hDS hp hno hD hDl hSl;go_wp2_with fail;refine (HTR.out _).mono ?_;rintro e w2 ⟨rfl,hb2⟩;have HB2:=hide (HB.out.kept hb2);clear hb2;go_wp2_with fail;refine (Tryz.strings_CutPrefix _ _ _).mono ?_;rintro e w3 ⟨rfl,hw⟩;subst hw;rw [HP.out,HX.out];go_wp2_with fail;refine bodyPost_ret (v:=.tuple #[.string ⟨#[]⟩,.slice none 0 0,.string ⟨#[]⟩,.bool false]) (by simp [results,Tryz.f148,go_sem]) rfl ?_;exact ⟨_,by rw [HV.out];rfl,by rw [HV.out];exact World.ownsRow_nil _ _ _ 2,HB2.out.below⟩
   | cons c r =>
    have hc62:c ≠ 62:=by simpa using hno
    have t0:DS.toList.isEmpty = false:=by rw [hDS,str_list];rfl
    have hDz:DS.size = r.length + 1:=by rw [hDS,str_size];rfl
    have hRA:=fun w2 h=>readAttr_any DS w2 (by rw [hDz];simp at hDl;omega) (by omega) h
    have hstep:=attrsLL_go (dec:=decE) (A:=A) hD.symm hc62;have hxl:=attrL_len decE c r;rw [show DS.data.toList = c :: r from by rw [hDS,str_toList]] at hRA;obtain ⟨⟨⟨n,v⟩,q⟩,hx⟩:∃ x:AtL × List UInt8,attrL decE (c :: r) = x:=⟨_,rfl⟩
    rw [hx] at hRA hstep hxl;simp only [List.length_cons] at hDl;have hql:q.length < S.size:=by simp only at hxl;omega
    have HRA:=hide hRA;have HC:=hide (fun vv w2 h=>counts_any w.heap.size vv A (str n) w2 h (by omega));rw [str_toList] at HC;obtain ⟨NS,hNS⟩:∃ NS,NS = str n:=⟨_,rfl⟩
    obtain ⟨VS,hVS⟩:∃ VS,VS = str v:=⟨_,rfl⟩
    have HNS:=hide hNS;have HVS:=hide hVS;cases hcn:countsB A n with
    | true =>
     have hA30:=counts_len hcn;rw [hcn] at HC;simp only [hcn,if_true] at hstep;have HG2:Hid (attrsLL decE (A ++ [(n,v)]) (str q).data.toList = attrsLL decE [] R):=hide (by rw [str_toList,<- hstep];exact HG.out);unfold attrV at HRA;simp only [<- hNS,<- hVS] at HRA HC;clear hNS hVS hcn hx hxl hstep hDS hp hno hD hDl hSl hc62 hDz hRA;go_wp2_with fail;refine (HTR.out _).mono ?_;rintro e w2 ⟨rfl,hb2⟩;have B2:=HB.out.kept hb2;have hne:=own_ne B2;have HB2:=hide B2;clear hb2 B2;go_wp2_with fail;refine (Tryz.strings_CutPrefix _ _ _).mono ?_;rintro e w3 ⟨rfl,hw⟩;subst hw;rw [HP.out,HX.out];go_wp2_with fail;refine (HRA.out _ (HE.out.kept (HB2.out.alloc _).below)).mono ?_;rintro e w4 ⟨rfl,hb4⟩;have HB4:=hide ((HB2.out.alloc _).kept hb4);have A4:=(acell_new w3).kept hb4;have f0:=A4.free 0;have f0':=A4.cell0;have A5:=A4.put0 NS;have f1:=A5.free 1;have f1':=A5.cell1;have A6:=A5.put1 VS;have f2:=A6.free 0;have c0:=A6.cell0;have c1:=A6.cell1;have HA6:=hide A6;have HB6:=hide ((HB4.out.set HB2.out.2.2 hne 0 (.string NS)).set HB2.out.2.2 hne 1 (.string VS));clear hb4 A4 A5 A6;go_wp2_with fail;refine (HC.out _ _ HB6.out.1).mono ?_;rintro e w7 ⟨rfl,hb7⟩;have HB7:=hide (HB6.out.kept hb7);have A7:=HA6.out.kept hb7;have d0:=A7.cell0;have d1:=A7.cell1;clear hb7 A7;go_wp2_with (at_builtin;go_must (refine wpList_ats rfl _ _ rfl w.heap.size _ A rfl w (n,v) (HB7.out.alloc _) ⟨w7.heap.size,0,none⟩ rfl (by rw [Addr.add_lit,World.cell?_alloc_at _ _ _ _ rfl];show some (Value.string NS) = some (Value.string (str n));rw [HNS.out]) (by rw [Addr.add_lit,World.cell?_alloc_at _ _ _ _ rfl];show some (Value.string VS) = some (Value.string (str v));rw [HVS.out]) (by omega) ?_;intro v8 w8 hb8;have HB8:=hide hb8;clear hb8))
     go_roundw
     case rel=>exact ⟨str q,A ++ [(n,v)],rfl,by rw [str_size];omega,by rw [List.length_append];exact hA30,HB8,HG2⟩
     case measure=>show (str q).size < S.size;rw [str_size];exact hql
    | false =>
     rw [hcn] at HC;simp only [hcn,Bool.false_eq_true,if_false] at hstep;have HG2:Hid (attrsLL decE A (str q).data.toList = attrsLL decE [] R):=hide (by rw [str_toList,<- hstep];exact HG.out);unfold attrV at HRA;simp only [<- hNS,<- hVS] at HRA HC;clear hNS hVS hcn hx hxl hstep hDS hp hno hD hDl hSl hc62 hDz hRA;go_wp2_with fail;refine (HTR.out _).mono ?_;rintro e w2 ⟨rfl,hb2⟩;have B2:=HB.out.kept hb2;have hne:=own_ne B2;have HB2:=hide B2;clear hb2 B2;go_wp2_with fail;refine (Tryz.strings_CutPrefix _ _ _).mono ?_;rintro e w3 ⟨rfl,hw⟩;subst hw;rw [HP.out,HX.out];go_wp2_with fail;refine (HRA.out _ (HE.out.kept (HB2.out.alloc _).below)).mono ?_;rintro e w4 ⟨rfl,hb4⟩;have HB4:=hide ((HB2.out.alloc _).kept hb4);have A4:=(acell_new w3).kept hb4;have f0:=A4.free 0;have f0':=A4.cell0;have A5:=A4.put0 NS;have f1:=A5.free 1;have f1':=A5.cell1;have A6:=A5.put1 VS;have f2:=A6.free 0;have c0:=A6.cell0;have c1:=A6.cell1;have HA6:=hide A6;have HB6:=hide ((HB4.out.set HB2.out.2.2 hne 0 (.string NS)).set HB2.out.2.2 hne 1 (.string VS));clear hb4 A4 A5 A6;go_wp2_with fail;refine (HC.out _ _ HB6.out.1).mono ?_;rintro e w7 ⟨rfl,hb7⟩;have HB7:=hide (HB6.out.kept hb7);have A7:=HA6.out.kept hb7;have d0:=A7.cell0;have d1:=A7.cell1;clear hb7 A7;go_wp2_with fail;go_roundw
     case rel=>exact ⟨str q,A,rfl,by rw [str_size];omega,hA,HB7,HG2⟩
     case measure=>show (str q).size < S.size;rw [str_size];exact hql
def MarkP (B b:Nat) (vs:List TokV) (x:List UInt8) (W0:World) (m:MarkR) (w':World):Prop :=
  ∃ o' vs',Rdr B b o' vs' (addT (vs.map Prod.fst) x m).2 W0 w' /\ vs'.map Prod.fst = (addT (vs.map Prod.fst) x m).1 /\ vs'.length <= vs.length + 2
theorem MarkP.none {B b:Nat} {o:Value} {vs:List TokV} {x l:List UInt8} {W0 w:World} (h:Rdr B b o vs x W0 w):MarkP B b vs x W0 (none,[],l) w:=by
 refine ⟨o,vs,?_,rfl,Nat.le_add_right _ _⟩;show Rdr B b o vs (x ++ []) W0 w
 rw [List.append_nil];exact h
theorem endL_none {dec:List UInt8 -> List UInt8} {l:List UInt8} (h:tagL dec l = none):endL dec l = (none,[],[]):=by unfold endL;rw [h]
theorem endL_some {dec:List UInt8 -> List UInt8} {l n b:List UInt8} {A:List AtL} (h:tagL dec l = some (n,A,b)):endL dec l = (some (endT n),[],b):=by unfold endL;rw [h]
theorem end_any (B b:Nat) (o:Value) (vs:List TokV) (x:List UInt8) (W0 w:World) (s:ByteArray) (h:Rdr B b o vs x W0 w) (hn:vs.length <= 1099511627776) (hs:s.size <= 16777216) (hE:EnvE w) :
  Calls Tryz.prog 121 #[.pointer (some ⟨b,0,none⟩),.string s] w fun e w'=>e = .returned (.string (str (endL decE s.data.toList).2.2)) /\ MarkP B b vs x W0 (endL decE s.data.toList) w':=by
 have HT:=hide (readTag_any s w hs hE);have HH:=hide h;cases ht:tagL decE s.data.toList with
 | none =>
  rw [ht] at HT;have HV:=hide (endL_none ht);clear ht h hE;unfold tagV at HT;go_enter Tryz.func121,Tryz.ntmps121;go_wp2_with fail;refine HT.out.mono ?_;rintro e w1 ⟨v,rfl,hr,hb⟩;have HR:=hide (HH.out.kept hb);clear hr hb;go_wp2_with fail;go_ret;exact ⟨by rw [HV.out];rfl,by rw [HV.out];exact MarkP.none HR.out⟩
 | some p =>
  obtain ⟨n,A,q⟩:=p;rw [ht] at HT;have HV:=hide (endL_some ht);have HADD:=hide (fun w2 (h2:Rdr B b o vs x W0 w2)=>add_any B b o vs x W0 w2 h2 hn (endT n) (.slice none 0 0) (World.ownsRow_nil w2 B _ 2));clear ht h hE;unfold tagV at HT;go_enter Tryz.func121,Tryz.ntmps121;go_wp2_with fail;refine HT.out.mono ?_;rintro e w1 ⟨v,rfl,hr,hb⟩;have HR:=hide (HH.out.kept hb);clear hr hb;go_wp2_with fail;refine (HADD.out _ HR.out).mono ?_;rintro e w2 ⟨rfl,o2,vs2,r2,m2,l2⟩;have HR2:=hide r2;have HM2:=hide m2;have HL2:=hide l2;clear r2 m2 l2;go_wp2_with fail;go_ret;exact ⟨by rw [HV.out];rfl,by rw [HV.out];exact ⟨o2,vs2,HR2.out,HM2.out,HL2.out⟩⟩
theorem comment_any (B b:Nat) (o:Value) (vs:List TokV) (x:List UInt8) (W0 w:World) (s:ByteArray) (h:Rdr B b o vs x W0 w) (hn:vs.length <= 1099511627776) (hs:s.size <= 16777216) :
  Calls Tryz.prog 124 #[.pointer (some ⟨b,0,none⟩),.string s,.string ⟨#[62]⟩] w fun e w'=>e = .returned (.string (str (remL s.data.toList).2.2)) /\ MarkP B b vs x W0 (remL s.data.toList) w':=by
 have HC:=hide (strCut_any s 62 w (Nat.le_trans hs (by decide)));have HH:=hide h;have HADD:=hide (fun w2 (h2:Rdr B b o vs x W0 w2)=>add_any B b o vs x W0 w2 h2 hn (remT (beforeC 62 s.data.toList)) (.slice none 0 0) (World.ownsRow_nil w2 B _ 2));clear h;unfold cutV at HC;go_enter Tryz.func124,Tryz.ntmps124;go_wp2_with fail;refine HC.out.mono ?_;rintro e w1 ⟨rfl,hb⟩;have HR:=hide (HH.out.kept hb);clear hb;go_wp2_with fail;refine (HADD.out _ HR.out).mono ?_;rintro e w2 ⟨rfl,o2,vs2,r2,m2,l2⟩;have HR2:=hide r2;have HM2:=hide m2;have HL2:=hide l2;clear r2 m2 l2;go_wp2_with fail;go_ret;exact ⟨rfl,o2,vs2,HR2.out,HM2.out,HL2.out⟩
theorem index_cutAt (t:List UInt8) (ht:t ≠ []):∀ l:List UInt8,(Lib.index l t = -1 /\ cutAt t l = (l,[])) \/ ∃ o:Nat,Lib.index l t = o /\ o + t.length <= l.length /\ cutAt t l = (l.take o,l.drop (o + t.length))
 | []=>.inl ⟨by
   unfold Lib.index;rw [if_neg (by simpa using ht)],rfl⟩
 | c :: r=>by
  by_cases hp:t.isPrefixOf (c :: r) = true
  ·refine .inr ⟨0,by unfold Lib.index;rw [if_pos hp];rfl,?_,by unfold cutAt;rw [if_pos hp,Nat.zero_add];rfl⟩;obtain ⟨q,hq⟩:=List.isPrefixOf_iff_prefix.1 hp;rw [<- hq,List.length_append];omega
  ·rcases index_cutAt t ht r with ⟨h1,h2⟩ | ⟨o,h1,h2,h3⟩
   ·refine .inl ⟨?_,by unfold cutAt;rw [if_neg hp,h2]⟩;unfold Lib.index;rw [if_neg hp,h1];rfl
   ·refine .inr ⟨o + 1,?_,by rw [List.length_cons];omega,?_⟩
    ·unfold Lib.index;have hne:((o:Int) == -1) = false:=by rw [beq_eq_false_iff_ne];omega
     rw [if_neg hp,h1,hne];rfl
    ·unfold cutAt;rw [if_neg hp,h3,show o + 1 + t.length = (o + t.length) + 1 by omega];rfl
def cutLV (l:List UInt8) (f:Bool):Value:=.tuple #[.string (str (cutAt remEnd l).1),.string (str (cutAt remEnd l).2),.bool f]
theorem cutL_any (s:ByteArray) (m:Int) (w:World) (hs:s.size <= 16777216) (hm:w.cell? ⟨0,0,none⟩ = some (.int .i64 m)) :
  Calls Tryz.prog 143 #[.string s,.string ⟨#[45,45,62]⟩] w fun e w'=>∃ f,e = .returned (cutLV s.data.toList f) /\ Below w.heap.size w w':=by
 have hz:(⟨#[45,45,62]⟩:ByteArray).size = 3:=rfl;have HI:=hide (Tryz.stringslite_Index s ⟨#[45,45,62]⟩ m w (by omega) hm);clear hm;rcases index_cutAt remEnd (by decide) s.data.toList with ⟨i1,i2⟩ | ⟨o,i1,i2,i3⟩
 ·rw [show (⟨#[45,45,62]⟩:ByteArray).data.toList = remEnd from rfl,i1] at HI;have I2:=hide i2;clear i1 i2;go_enter Tryz.func143,Tryz.ntmps143;go_wp2_with fail;refine HI.out.mono ?_;rintro e w1 ⟨rfl,hw⟩;subst hw;go_wp2_with fail;go_ret3;exact ⟨false,ret_cut (by rw [I2.out];exact (str_of s).symm) (by rw [I2.out];rfl) rfl,Below.refl _ _⟩
 ·rw [show (⟨#[45,45,62]⟩:ByteArray).data.toList = remEnd from rfl,i1] at HI;have I3:=hide i3;rw [toList_length,show remEnd.length = 3 from rfl] at i2;have o1:(o:Int) + 3 <= s.size:=by omega
  have o0:(0:Int) <= o:=by omega
  have o2:(o:Int) <= s.size:=by omega
  have o3:(0:Int) <= (o:Int) + 3:=by omega
  have o4:((o:Int) + 3).toNat = o + 3:=by omega
  clear i1 i3;go_enter Tryz.func143,Tryz.ntmps143;go_wp2_with fail;refine HI.out.mono ?_;rintro e w1 ⟨rfl,hw⟩;subst hw;go_wp2_with fail;go_region
  all_goals (try go_wp2)
  all_goals
   go_ret3;exact ⟨true,ret_cut (ext_list (by rw [extract_list,List.drop_zero,str_toList,I3.out])) (ext_list (by rw [extract_end,str_toList,I3.out];rfl)) rfl,(Below.refl _ _).drew⟩
theorem strCutL_any (s:ByteArray) (m:Int) (w:World) (hs:s.size <= 16777216) (hm:w.cell? ⟨0,0,none⟩ = some (.int .i64 m)) :
  Calls Tryz.prog 113 #[.string s,.string ⟨#[45,45,62]⟩] w fun e w'=>∃ f,e = .returned (cutLV s.data.toList f) /\ Below w.heap.size w w':=by
 have HC:=hide (cutL_any s m w hs hm);clear hm;go_enter Tryz.func113,Tryz.ntmps113;go_wp2_with fail;refine HC.out.mono ?_;rintro e w1 ⟨f,rfl,hb⟩;unfold cutLV;go_wp2_with fail;go_ret3;exact ⟨f,rfl,hb⟩
def remLL (l:List UInt8):MarkR:=(some (remT (cutAt remEnd l).1),[],(cutAt remEnd l).2)
theorem commentL_any (B b:Nat) (o:Value) (vs:List TokV) (x:List UInt8) (W0 w:World) (s:ByteArray) (m:Int) (h:Rdr B b o vs x W0 w) (hn:vs.length <= 1099511627776) (hs:s.size <= 16777216) (hm:w.cell? ⟨0,0,none⟩ = some (.int .i64 m)) :
  Calls Tryz.prog 124 #[.pointer (some ⟨b,0,none⟩),.string s,.string ⟨#[45,45,62]⟩] w fun e w'=>e = .returned (.string (str (remLL s.data.toList).2.2)) /\ MarkP B b vs x W0 (remLL s.data.toList) w':=by
 have HC:=hide (strCutL_any s m w hs hm);have HH:=hide h;have HADD:=hide (fun w2 (h2:Rdr B b o vs x W0 w2)=>add_any B b o vs x W0 w2 h2 hn (remT (cutAt remEnd s.data.toList).1) (.slice none 0 0) (World.ownsRow_nil w2 B _ 2));clear h hm;unfold cutLV at HC;go_enter Tryz.func124,Tryz.ntmps124;go_wp2_with fail;refine HC.out.mono ?_;rintro e w1 ⟨f,rfl,hb⟩;have HR:=hide (HH.out.kept hb);clear hb;go_wp2_with fail;refine (HADD.out _ HR.out).mono ?_;rintro e w2 ⟨rfl,o2,vs2,r2,m2,l2⟩;have HR2:=hide r2;have HM2:=hide m2;have HL2:=hide l2;clear r2 m2 l2;go_wp2_with fail;go_ret;exact ⟨rfl,o2,vs2,HR2.out,HM2.out,HL2.out⟩
theorem idxL (k:Nat) (h:k < 2) (w:World):(Instr.index 163 (Value.agg #[.string ⟨#[62]⟩,.string ⟨#[45,62]⟩]) (.int .i64 k)).run Tryz.prog w = .ok (.string (if k = 0 then ⟨#[62]⟩ else ⟨#[45,62]⟩)) w:=by
 match k,h with
 | 0,_=>rfl
 | 1,_=>rfl
theorem longL_1 (r:List UInt8):longL (62 :: r) = (some (remT []),[],r):=rfl
theorem longL_2 (r:List UInt8):longL (45 :: 62 :: r) = (some (remT []),[],r):=rfl
theorem longL_no {l:List UInt8} (h1:l.head? ≠ some 62) (h2:Lib.hasPrefix l [45,62] = false):longL l = remLL l:=by
 unfold longL;split
 ·exact absurd rfl h1
 ·simp [Lib.hasPrefix] at h2
 ·rfl
theorem dash_yes {l:List UInt8} (h:Lib.hasPrefix l [45,62] = true):∃ r,l = 45 :: 62 :: r /\ Lib.trimPrefix l [45,62] = r:=by
 have h':=h;unfold Lib.hasPrefix at h;obtain ⟨r,hr⟩:=List.isPrefixOf_iff_prefix.1 h;refine ⟨r,hr.symm,?_⟩;unfold Lib.trimPrefix;rw [h',<- hr];rfl
theorem longComment_any (B b:Nat) (o:Value) (vs:List TokV) (x:List UInt8) (W0 w:World) (s:ByteArray) (m:Int) (h:Rdr B b o vs x W0 w) (hn:vs.length <= 1099511627776) (hs:s.size <= 16777216) (hm:w.cell? ⟨0,0,none⟩ = some (.int .i64 m)) :
  Calls Tryz.prog 123 #[.pointer (some ⟨b,0,none⟩),.string s] w fun e w'=>e = .returned (.string (str (longL s.data.toList).2.2)) /\ MarkP B b vs x W0 (longL s.data.toList) w':=by
 have i0:∀ w:World,(Instr.index 163 (Value.agg #[.string ⟨#[62]⟩,.string ⟨#[45,62]⟩]) (.int .i64 0)).run Tryz.prog w = .ok (.string ⟨#[62]⟩) w:=fun w=>idxL 0 (by omega) w
 have i1:∀ w:World,(Instr.index 163 (Value.agg #[.string ⟨#[62]⟩,.string ⟨#[45,62]⟩]) (.int .i64 1)).run Tryz.prog w = .ok (.string ⟨#[45,62]⟩) w:=fun w=>idxL 1 (by omega) w
 have HCL:=hide (commentL_any B b o vs x W0 w s m h hn hs hm);have HADD:=hide (add_any B b o vs x W0 w h hn (remT []) (.slice none 0 0) (World.ownsRow_nil w B _ 2));clear h hm;go_enter Tryz.func123,Tryz.ntmps123;go_wp2_with fail;go_loopw [10] (fun i wr=>∃ k:Nat,k <= 2 /\ i = .int .i64 k /\ Hid (1 <= k -> s.data.toList.head? ≠ some 62) /\ Hid (2 <= k -> Lib.hasPrefix s.data.toList [45,62] = false) /\ Hid (wr = w)) (fun i _=>2 - (intOf i).toNat)
 case atStart=>exact ⟨0,Nat.zero_le _,rfl,hide (fun h=>absurd h (by omega)),hide (fun h=>absurd h (by omega)),hide rfl⟩
 case round =>
  obtain ⟨k,hk,rfl,H1,H2,HW⟩:=hrel;obtain rfl:=HW.out
  match k,hk with
  | 0,_ =>
   rcases quote_cut 62 s.data.toList with ⟨hp,r,hr,htr⟩ | ⟨hp,hno⟩
   ·obtain ⟨T,hT⟩:∃ T:ByteArray,T = str r:=⟨_,rfl⟩
    have HP:Hid (Lib.hasPrefix s.data.toList (⟨#[62]⟩:ByteArray).data.toList = true):=hide hp
    have HT:Hid ((⟨(Lib.trimPrefix s.data.toList (⟨#[62]⟩:ByteArray).data.toList).toArray⟩:ByteArray) = T):=hide (by
     rw [hT];exact congrArg str htr)
    have HR:Hid (longL s.data.toList = (some (remT []),[],r)):=hide (by rw [hr];exact longL_1 r);have HTE:=hide hT;clear hp hr htr hT;go_wp2_with fail;refine (Tryz.strings_CutPrefix s _ _).mono ?_;rintro e w1 ⟨rfl,hw⟩;subst hw;rw [HP.out,HT.out];go_wp2_with fail;refine HADD.out.mono ?_;rintro e w2 ⟨rfl,o2,vs2,r2,m2,l2⟩;have HR2:=hide r2;have HM2:=hide m2;have HL2:=hide l2;clear r2 m2 l2;go_wp2_with fail;go_ret;exact ⟨by rw [HR.out,HTE.out];rfl,by rw [HR.out];exact ⟨o2,vs2,HR2.out,HM2.out,HL2.out⟩⟩
   ·have HP:Hid (Lib.hasPrefix s.data.toList (⟨#[62]⟩:ByteArray).data.toList = false):=hide hp;have HN:=hide hno;clear hp hno;go_wp2_with fail;refine (Tryz.strings_CutPrefix s _ _).mono ?_;rintro e w1 ⟨rfl,hw⟩;subst hw;rw [HP.out];go_wp2_with fail;go_roundw
    case rel=>exact ⟨0 + 1,by omega,by go_num,hide (fun _=>HN.out),hide (fun h=>absurd h (by omega)),by first | exact hide trivial | exact hide rfl | exact trivial⟩
    case measure=>simp [intOf]
  | 1,_ =>
   cases hp:Lib.hasPrefix s.data.toList [45,62] with
   | true =>
    obtain ⟨r,hr,htr⟩:=dash_yes hp;obtain ⟨T,hT⟩:∃ T:ByteArray,T = str r:=⟨_,rfl⟩
    have HP:Hid (Lib.hasPrefix s.data.toList (⟨#[45,62]⟩:ByteArray).data.toList = true):=hide hp
    have HT:Hid ((⟨(Lib.trimPrefix s.data.toList (⟨#[45,62]⟩:ByteArray).data.toList).toArray⟩:ByteArray) = T):=hide (by
     rw [hT];exact congrArg str htr)
    have HR:Hid (longL s.data.toList = (some (remT []),[],r)):=hide (by rw [hr];exact longL_2 r);have HTE:=hide hT;clear hp hr htr hT;go_wp2_with fail;refine (Tryz.strings_CutPrefix s _ _).mono ?_;rintro e w1 ⟨rfl,hw⟩;subst hw;rw [HP.out,HT.out];go_wp2_with fail;refine HADD.out.mono ?_;rintro e w2 ⟨rfl,o2,vs2,r2,m2,l2⟩;have HR2:=hide r2;have HM2:=hide m2;have HL2:=hide l2;clear r2 m2 l2;go_wp2_with fail;go_ret;exact ⟨by rw [HR.out,HTE.out];rfl,by rw [HR.out];exact ⟨o2,vs2,HR2.out,HM2.out,HL2.out⟩⟩
   | false =>
    have HP:Hid (Lib.hasPrefix s.data.toList (⟨#[45,62]⟩:ByteArray).data.toList = false):=hide hp;have HN:=hide hp;clear hp;go_wp2_with fail;refine (Tryz.strings_CutPrefix s _ _).mono ?_;rintro e w1 ⟨rfl,hw⟩;subst hw;rw [HP.out];go_wp2_with fail;go_roundw
    case rel=>exact ⟨1 + 1,by omega,by go_num,hide (fun _=>H1.out (by omega)),hide (fun _=>by first | exact HN.out | exact trivial),by first | exact hide trivial | exact hide rfl | exact trivial⟩
    case measure=>simp [intOf]
  | 2,_ =>
   have HR:=hide (longL_no (H1.out (by omega)) (H2.out (by omega)));go_wp2_with fail;refine HCL.out.mono ?_;rintro e w1 ⟨rfl,hb⟩;have HB:=hide hb;clear hb;go_wp2_with fail;go_ret;exact ⟨by rw [HR.out];rfl,by rw [HR.out];exact HB.out⟩
theorem startL_none {dec:List UInt8 -> List UInt8} {l:List UInt8} (h:tagL dec l = none):startL dec l = (none,[],[]):=by unfold startL;rw [h]
theorem startL_raw {dec:List UInt8 -> List UInt8} {l n b:List UInt8} {A:List AtL} (h:tagL dec l = some (n,A,b)) (hr:rawL.contains n = true):startL dec l = (some (startT n A),b.take (rawSizeL n b),b.drop (rawSizeL n b)):=by
 unfold startL;rw [h];exact if_pos hr
theorem startL_no {dec:List UInt8 -> List UInt8} {l n b:List UInt8} {A:List AtL} (h:tagL dec l = some (n,A,b)) (hr:rawL.contains n = false):startL dec l = (some (startT n A),[],b):=by
 unfold startL;rw [h];exact if_neg (by rw [hr];exact Bool.false_ne_true)
theorem tagL_name {dec:List UInt8 -> List UInt8} {l n b:List UInt8} {A:List AtL} (h:tagL dec l = some (n,A,b)):n.length <= l.length:=by
 unfold tagL at h;have h1:=upL_len nameEndB l;cases ha:attrsLL dec [] (upL nameEndB l).2 with
 | none=>rw [ha] at h;cases h
 | some p =>
  obtain ⟨A2,b2⟩:=p;rw [ha] at h;injection h with h;injection h with h2 _;rw [<- h2];unfold lowL;rw [List.length_map];omega
theorem start_any (B b:Nat) (o:Value) (vs:List TokV) (x:List UInt8) (W0 w:World) (s:ByteArray) (h:Rdr B b o vs x W0 w) (hn:vs.length <= 1099511627776) (hs:s.size <= 16777216) (hE:EnvE w) :
  Calls Tryz.prog 125 #[.pointer (some ⟨b,0,none⟩),.string s] w fun e w'=>e = .returned (.string (str (startL decE s.data.toList).2.2)) /\ MarkP B b vs x W0 (startL decE s.data.toList) w':=by
 have HT:=hide (readTag_any s w hs hE);have HH:=hide h;have HSZ:=hide h.size;cases ht:tagL decE s.data.toList with
 | none =>
  rw [ht] at HT;have HV:=hide (startL_none ht);clear ht h hE;unfold tagV at HT;go_enter Tryz.func125,Tryz.ntmps125;go_wp2_with fail;refine HT.out.mono ?_;rintro e w1 ⟨v,rfl,hr,hb⟩;have HR:=hide (HH.out.kept hb);clear hr hb;go_wp2_with fail;go_ret;exact ⟨by rw [HV.out];rfl,by rw [HV.out];exact MarkP.none HR.out⟩
 | some p =>
  obtain ⟨n,A,q⟩:=p;rw [ht] at HT;have hnl:=tagL_name ht;have hql:=tagL_len ht;rw [toList_length] at hnl hql;have HADD:=hide (fun w2 u (h2:Rdr B b o vs x W0 w2) (hu:w2.ownsRow B 43 2 u A.length (atVals A))=>add_any B b o vs x W0 w2 h2 hn (startT n A) u hu);have HRAW:=hide (fun w2=>rawW_any (str n) w2);rw [str_toList] at HRAW;cases hraw:rawL.contains n with
  | false =>
   rw [hraw] at HRAW;have HV:=hide (startL_no ht hraw);clear ht h hE hraw;unfold tagV at HT;go_enter Tryz.func125,Tryz.ntmps125;go_wp2_with fail;refine HT.out.mono ?_;rintro e w1 ⟨v,rfl,hr,hb⟩;have HR:=hide (HH.out.kept hb);obtain ⟨A1,z1,rfl⟩:=at_form hr;have HU:=hide (ownsRow_down hr HSZ.out);clear hr hb;go_wp2_with fail;refine (HADD.out _ _ HR.out HU.out).mono ?_;rintro e w2 ⟨rfl,o2,vs2,r2,m2,l2⟩;have HR2:=hide r2;have HM2:=hide m2;have HL2:=hide l2;clear r2 m2 l2;go_wp2_with fail;refine (HRAW.out _).mono ?_;rintro e w3 ⟨rfl,rfl⟩;go_wp2_with fail;go_ret;exact ⟨by rw [HV.out];rfl,by rw [HV.out];exact ⟨o2,vs2,HR2.out,HM2.out,HL2.out⟩⟩
  | true =>
   rw [hraw] at HRAW;have HV:=hide (startL_raw ht hraw);obtain ⟨K,hK⟩:∃ K,K = rawSizeL n q:=⟨_,rfl⟩
   have hKl:K <= q.length:=by rw [hK];exact rawSizeL_le n q
   have HRS:=hide (fun w2=>rawSize_any (str q) (str n) w2 (by rw [str_size];omega) (by rw [str_size];omega));simp only [str_toList] at HRS;rw [<- hK] at HRS HV;have hqs:(str q).size = q.length:=str_size q;obtain ⟨QS,hQS⟩:∃ QS,QS = str q:=⟨_,rfl⟩
   rw [<- hQS] at hqs;have k0:(0:Int) <= K:=by omega
   have k1:(K:Int) <= QS.size:=by omega
   have hx1:(QS.extract 0 K).data.toList = q.take K:=by rw [extract_list,List.drop_zero,hQS,str_toList]
   have hx2:QS.extract K QS.size = str (q.drop K):=ext_list (by rw [extract_end,str_toList,hQS,str_toList]);have hxz:(QS.extract 0 K).size <= 16777216:=by rw [ByteArray.size_extract];omega
   have HX1:=hide hx1;have HX2:=hide hx2;have HXZ:=hide hxz;have HQ:=hide hQS;clear ht h hE hraw hK hqs hx1 hx2 hxz;unfold tagV at HT;simp only [<- hQS] at HT HRS;clear hQS;go_enter Tryz.func125,Tryz.ntmps125;go_wp2_with fail;refine HT.out.mono ?_;rintro e w1 ⟨v,rfl,hr,hb⟩;have HR:=hide (HH.out.kept hb);obtain ⟨A1,z1,rfl⟩:=at_form hr;have HU:=hide (ownsRow_down hr HSZ.out);clear hr hb;go_wp2_with fail;refine (HADD.out _ _ HR.out HU.out).mono ?_;rintro e w2 ⟨rfl,o2,vs2,r2,m2,l2⟩;have HR2:=hide r2;have HM2:=hide m2;have HL2:=hide l2;clear r2 m2 l2;go_wp2_with fail;refine (HRAW.out _).mono ?_;rintro e w3 ⟨rfl,rfl⟩;go_wp2_with fail;refine (HRS.out _).mono ?_;rintro e w4 ⟨rfl,hb4⟩;have HR4:=hide (HR2.out.kept hb4);clear hb4;have HWR:=hide (writeR_any B b o2 vs2 [] (QS.extract 0 K) W0 w4.drew (HR4.out.kept ((Below.refl _ _).drew)) (by have:=HXZ.out;simp only [List.length_nil];omega));go_wp2_with fail
   go_region_law (first
    |(go_simp;go_at_call 64;refine HWR.out.mono ?_;rintro e w5 ⟨rfl,hr5⟩;have HR5:=hide hr5;clear hr5)
    |fail)
   all_goals
    try go_wp2_with fail
    go_ret;refine ⟨by rw [HV.out];first | rfl | (rw [HX2.out];rfl),?_⟩;rw [HV.out];refine ⟨o2,vs2,?_,HM2.out,HL2.out⟩;have r5:=HR5.out;rw [HX1.out] at r5;exact r5
theorem mark_47E {dec:List UInt8 -> List UInt8} (q:List UInt8):markL dec (47 :: 62 :: q) = (none,[],q):=rfl
theorem mark_47R {dec:List UInt8 -> List UInt8} {d:UInt8} (q:List UInt8) (h1:letterB d = false) (h2:d ≠ 62):markL dec (47 :: d :: q) = remL (d :: q):=by
 show (if letterB d = true then endL dec (d :: q) else if d = 62 then (none,[],q) else remL (d :: q)) = _
 rw [if_neg (by rw [h1];exact Bool.false_ne_true),if_neg h2]
theorem mark_33L {dec:List UInt8 -> List UInt8} (b:List UInt8):markL dec (33 :: 45 :: 45 :: b) = longL b:=rfl
theorem mark_33R {dec:List UInt8 -> List UInt8} {t:List UInt8} (h:Lib.hasPrefix (33 :: t) [33,45,45] = false):markL dec (33 :: t) = remL t:=by
 unfold markL;simp only;split
 ·simp [Lib.hasPrefix] at h
 ·rfl
theorem mark_63 {dec:List UInt8 -> List UInt8} (t:List UInt8):markL dec (63 :: t) = remL (63 :: t):=rfl
theorem mark_S {dec:List UInt8 -> List UInt8} {c:UInt8} {t:List UInt8} (h1:c ≠ 47) (h2:c ≠ 33) (h3:c ≠ 63):markL dec (c :: t) = startL dec (c :: t):=by
 unfold markL;split
 ·rename_i e;exact absurd (List.cons.inj e).1 h1
 ·rename_i e;exact absurd (List.cons.inj e).1 h2
 ·rename_i e;exact absurd (List.cons.inj e).1 h3
 ·rfl
theorem bang_yes {l:List UInt8} (h:Lib.hasPrefix l [33,45,45] = true):∃ r,l = 33 :: 45 :: 45 :: r /\ Lib.trimPrefix l [33,45,45] = r:=by
 have h':=h;unfold Lib.hasPrefix at h;obtain ⟨r,hr⟩:=List.isPrefixOf_iff_prefix.1 h;refine ⟨r,hr.symm,?_⟩;unfold Lib.trimPrefix;rw [h',<- hr];rfl
theorem isMark_cases {l:List UInt8} (h:isMarkB l = true):∃ c t,l = 60 :: c :: t /\ (c = 33 \/ c = 63 \/ (c = 47 /\ t ≠ []) \/ (c ≠ 33 /\ c ≠ 63 /\ c ≠ 47)):=by
 match l,h with
 | a :: c :: t,h =>
  by_cases ha:a = 60
  ·subst ha;refine ⟨c,t,rfl,?_⟩;rw [isMark_mk] at h
   by_cases h1:c = 33
   ·exact .inl h1
   ·by_cases h2:c = 63
    ·exact .inr (.inl h2)
    ·by_cases h3:c = 47
     ·rw [if_neg (by rintro (e | e);exact h1 e;exact h2 e),if_pos h3] at h;refine .inr (.inr (.inl ⟨h3,fun e=>?_⟩));rw [e] at h;cases h
     ·exact .inr (.inr (.inr ⟨h1,h2,h3⟩))
  ·rw [isMark_head ha] at h;cases h
 | [a],h=>rw [isMark_len (by simp)] at h;cases h
 | [],h=>rw [isMark_len (by simp)] at h;cases h
theorem mark_any (B b:Nat) (o:Value) (vs:List TokV) (x:List UInt8) (W0 w:World) (s:ByteArray) (m:Int) (h:Rdr B b o vs x W0 w) (hn:vs.length <= 1099511627776) (hs:s.size <= 16777216) (hE:EnvE w) (hm:w.cell? ⟨0,0,none⟩ = some (.int .i64 m)) (hmk:isMarkB s.data.toList = true) :
  Calls Tryz.prog 83 #[.pointer (some ⟨b,0,none⟩),.string s] w fun e w'=>e = .returned (.string (str (markL decE (s.data.toList.drop 1)).2.2)) /\ MarkP B b vs x W0 (markL decE (s.data.toList.drop 1)) w':=by
 obtain ⟨c,t,hl,hc⟩:=isMark_cases hmk;have hlen:=toList_length s;rw [hl] at hlen;simp only [List.length_cons] at hlen;have hd1:s.data.toList.drop 1 = c :: t:=by rw [hl];rfl
 rw [hd1];obtain ⟨RS,hRS⟩:∃ RS,s.extract 1 s.size = RS:=⟨_,rfl⟩
 have hRl:RS.data.toList = c :: t:=by rw [<- hRS,extract_end];exact hd1
 have hRz:RS.size = t.length + 1:=by rw [<- toList_length,hRl];rfl
 have hR0:0 < RS.size:=by omega
 have hRc:RS[0] = c:=by
  have e:=drop_cons RS 0 hR0;rw [List.drop_zero,hRl] at e;exact (List.cons.inj e).1.symm
 have hRs:RS.size <= 16777216:=by omega
 have r0:(1:Int) <= s.size:=by omega
 clear hmk hl hd1;rcases hc with hc | hc | ⟨hc,ht⟩ | ⟨h33,h63,h47⟩
 ·subst hc;have t33:((RS[0].toNat:Int) == 33) = true:=tT 33 hRc (by omega);have t47:((RS[0].toNat:Int) == 47) = false:=tF 47 (by rw [hRc];decide) (by omega);cases hp:Lib.hasPrefix (33 :: t) [33,45,45] with
  | true =>
   obtain ⟨q,hq,htr⟩:=bang_yes hp;obtain ⟨T,hT⟩:∃ T:ByteArray,T = str q:=⟨_,rfl⟩
   have HP:Hid (Lib.hasPrefix RS.data.toList (⟨#[33,45,45]⟩:ByteArray).data.toList = true):=hide (by rw [hRl];exact hp)
   have HT:Hid ((⟨(Lib.trimPrefix RS.data.toList (⟨#[33,45,45]⟩:ByteArray).data.toList).toArray⟩:ByteArray) = T):=hide (by
    rw [hRl,hT];exact congrArg str htr)
   have hql:=congrArg List.length hq;simp only [List.length_cons] at hql;have hlc:=longComment_any B b o vs x W0 w T m h hn (by rw [hT,str_size];omega) hm;rw [hT,str_toList,<- hT] at hlc;obtain ⟨M,hM⟩:∃ M:MarkR,M = longL q:=⟨_,rfl⟩
   rw [<- hM] at hlc;have HC:=hide hlc;have HV:Hid (markL decE (33 :: t) = M):=hide (by rw [hq,hM];exact mark_33L q);clear hM;clear hlc h hE hm hRz hlen hRl hRc hp hq htr hT hql;go_enter Tryz.func83,Tryz.ntmps83;go_wp2_with fail;refine (Tryz.strings_CutPrefix _ _ _).mono ?_;rintro e w1 ⟨rfl,hw⟩;subst hw;rw [HP.out,HT.out];go_wp2_with fail;refine HC.out.mono ?_;rintro e w2 ⟨rfl,hb⟩;have HB:=hide hb;clear hb;go_wp2_with fail;go_ret;exact ⟨by rw [HV.out];rfl,by rw [HV.out];exact HB.out⟩
  | false =>
   have HP:Hid (Lib.hasPrefix RS.data.toList (⟨#[33,45,45]⟩:ByteArray).data.toList = false):=hide (by rw [hRl];exact hp);obtain ⟨DS,hDS⟩:∃ DS,RS.extract 1 RS.size = DS:=⟨_,rfl⟩
   have hDl:DS.data.toList = t:=by rw [<- hDS,extract_end,hRl];rfl
   have r1:(1:Int) <= RS.size:=by omega
   have hcm:=comment_any B b o vs x W0 w DS h hn (by rw [<- toList_length,hDl];omega);rw [hDl] at hcm;have hv:=mark_33R (dec:=decE) hp;obtain ⟨M,hM⟩:∃ M:MarkR,M = remL t:=⟨_,rfl⟩
   rw [<- hM] at hcm hv;have HC:=hide hcm;have HV:=hide hv;clear hv hM;clear hcm h hE hm hRz hlen hRl hRc hp hDl;go_enter Tryz.func83,Tryz.ntmps83;go_wp2_with fail;refine (Tryz.strings_CutPrefix _ _ _).mono ?_;rintro e w1 ⟨rfl,hw⟩;subst hw;rw [HP.out];go_wp2_with fail;refine HC.out.mono ?_;rintro e w2 ⟨rfl,hb⟩;have HB:=hide hb;clear hb;go_wp2_with fail;go_ret;exact ⟨by rw [HV.out];rfl,by rw [HV.out];exact HB.out⟩
 ·subst hc;have t33:((RS[0].toNat:Int) == 33) = false:=tF 33 (by rw [hRc];decide) (by omega);have t47:((RS[0].toNat:Int) == 47) = false:=tF 47 (by rw [hRc];decide) (by omega);have t63:((RS[0].toNat:Int) == 63) = true:=tT 63 hRc (by omega);have hcm:=comment_any B b o vs x W0 w RS h hn hRs;rw [hRl] at hcm;have hv:=mark_63 (dec:=decE) t;obtain ⟨M,hM⟩:∃ M:MarkR,M = remL (63 :: t):=⟨_,rfl⟩
  rw [<- hM] at hcm hv;have HC:=hide hcm;have HV:=hide hv;clear hv hM;clear hcm h hE hm hRz hlen hRl hRc;go_enter Tryz.func83,Tryz.ntmps83;go_wp2_with fail;refine HC.out.mono ?_;rintro e w2 ⟨rfl,hb⟩;have HB:=hide hb;clear hb;go_wp2_with fail;go_ret;exact ⟨by rw [HV.out];rfl,by rw [HV.out];exact HB.out⟩
 ·subst hc;have t47:((RS[0].toNat:Int) == 47) = true:=tT 47 hRc (by omega);cases t with
  | nil=>exact absurd rfl ht
  | cons d q =>
   have hR1:1 < RS.size:=by rw [hRz];simp
   have hRd:RS[1] = d:=by
    have e:=drop_cons RS 1 hR1;rw [hRl] at e;exact (List.cons.inj e).1.symm
   have r1:(1:Int) <= RS.size:=by omega
   obtain ⟨DS,hDS⟩:∃ DS,RS.extract 1 RS.size = DS:=⟨_,rfl⟩
   have hDl:DS.data.toList = d :: q:=by rw [<- hDS,extract_end,hRl];rfl
   have hDz:DS.size <= 16777216:=by
    rw [<- toList_length,hDl];simp only [List.length_cons] at hRz ⊢;omega
   have HL:=hide (fun w2=>letterW_any RS[1] w2);rw [hRd] at HL;cases hle:letterB d with
   | true =>
    rw [hle] at HL;have hen:=end_any B b o vs x W0 w DS h hn hDz hE;rw [hDl] at hen;have hv:=markL_end (dec:=decE) hle q;obtain ⟨M,hM⟩:∃ M:MarkR,M = endL decE (d :: q):=⟨_,rfl⟩
    rw [<- hM] at hen hv;have HC:=hide hen;have HV:=hide hv;clear hv hM;have HRD:=hide hRd;clear hen h hE hm hRz hlen hRl hRc hDl hle hRd;go_enter Tryz.func83,Tryz.ntmps83;go_wp2_with fail;rw [HRD.out];refine (HL.out _).mono ?_;rintro e w1 ⟨rfl,rfl⟩;go_wp2_with fail;refine HC.out.mono ?_;rintro e w2 ⟨rfl,hb⟩;have HB:=hide hb;clear hb;go_wp2_with fail;go_ret;exact ⟨by rw [HV.out];rfl,by rw [HV.out];exact HB.out⟩
   | false =>
    rw [hle] at HL;have HRD:=hide hRd
    by_cases h62:d = 62
    ·subst h62;obtain ⟨T,hT⟩:∃ T:ByteArray,T = str q:=⟨_,rfl⟩
     have hp:Lib.hasPrefix (62 :: q) [62] = true:=by rw [hasPrefix_q];rfl
     have HP:Hid (Lib.hasPrefix DS.data.toList (⟨#[62]⟩:ByteArray).data.toList = true):=hide (by rw [hDl];exact hp)
     have HT:Hid ((⟨(Lib.trimPrefix DS.data.toList (⟨#[62]⟩:ByteArray).data.toList).toArray⟩:ByteArray) = T):=hide (by
      rw [hDl,hT];unfold Lib.trimPrefix;rw [show (⟨#[62]⟩:ByteArray).data.toList = [62] from rfl,hp];rfl)
     have HV:=hide (mark_47E (dec:=decE) q);have HTE:=hide hT;have HM:=hide (MarkP.none (l:=q) h);clear h hE hm hRz hlen hRl hRc hDl hle hRd hT hp;go_enter Tryz.func83,Tryz.ntmps83;go_wp2_with fail;rw [HRD.out];refine (HL.out _).mono ?_;rintro e w1 ⟨rfl,rfl⟩;go_wp2_with fail;refine (Tryz.strings_CutPrefix _ _ _).mono ?_;rintro e w1 ⟨rfl,hw⟩;subst hw;rw [HP.out,HT.out];go_wp2_with fail;go_ret;exact ⟨by rw [HV.out,HTE.out];rfl,by rw [HV.out];exact HM.out⟩
    ·have HP:Hid (Lib.hasPrefix DS.data.toList (⟨#[62]⟩:ByteArray).data.toList = false):=hide (by rw [hDl,show (⟨#[62]⟩:ByteArray).data.toList = [62] from rfl,hasPrefix_q];exact decide_eq_false h62);have HP2:Hid (Lib.hasPrefix RS.data.toList (⟨#[33,45,45]⟩:ByteArray).data.toList = false):=hide (by rw [hRl];rfl);have hcm:=comment_any B b o vs x W0 w DS h hn hDz;rw [hDl] at hcm;have hv:=mark_47R (dec:=decE) q hle h62;obtain ⟨M,hM⟩:∃ M:MarkR,M = remL (d :: q):=⟨_,rfl⟩
     rw [<- hM] at hcm hv;have HC:=hide hcm;have HV:=hide hv;clear hv hM;clear hcm h hE hm hRz hlen hRl hRc hDl hle hRd;go_enter Tryz.func83,Tryz.ntmps83;go_wp2_with fail;rw [HRD.out];refine (HL.out _).mono ?_;rintro e w1 ⟨rfl,rfl⟩;go_wp2_with fail;refine (Tryz.strings_CutPrefix _ _ _).mono ?_;rintro e w1 ⟨rfl,hw⟩;subst hw;rw [HP.out];go_wp2_with fail;refine (Tryz.strings_CutPrefix _ _ _).mono ?_;rintro e w1 ⟨rfl,hw⟩;subst hw;rw [HP2.out];go_wp2_with fail;refine HC.out.mono ?_;rintro e w2 ⟨rfl,hb⟩;have HB:=hide hb;clear hb;go_wp2_with fail;go_ret;exact ⟨by rw [HV.out];rfl,by rw [HV.out];exact HB.out⟩
 ·have t33:((RS[0].toNat:Int) == 33) = false:=tF 33 (by rw [hRc];exact h33) (by omega);have t47:((RS[0].toNat:Int) == 47) = false:=tF 47 (by rw [hRc];exact h47) (by omega);have t63:((RS[0].toNat:Int) == 63) = false:=tF 63 (by rw [hRc];exact h63) (by omega);have hst:=start_any B b o vs x W0 w RS h hn hRs hE;rw [hRl] at hst;have hv:=mark_S (dec:=decE) (t:=t) h47 h33 h63;obtain ⟨M,hM⟩:∃ M:MarkR,M = startL decE (c :: t):=⟨_,rfl⟩
  rw [<- hM] at hst hv;have HC:=hide hst;have HV:=hide hv;clear hv hM;clear hst h hE hm hRz hlen hRl hRc;go_enter Tryz.func83,Tryz.ntmps83;go_wp2_with fail;refine HC.out.mono ?_;rintro e w2 ⟨rfl,hb⟩;have HB:=hide hb;clear hb;go_wp2_with fail;go_ret;exact ⟨by rw [HV.out];rfl,by rw [HV.out];exact HB.out⟩
theorem startL_len2 (dec:List UInt8 -> List UInt8) (l:List UInt8):(startL dec l).2.1.length + (startL dec l).2.2.length <= l.length:=by
 unfold startL;cases h:tagL dec l with
 | none=>exact Nat.zero_le _
 | some p =>
  obtain ⟨n,A,b⟩:=p;have:=tagL_len h;simp only;split
  ·show (b.take _).length + (b.drop _).length <= _
   rw [List.length_drop,List.length_take];omega
  ·show ([]:List UInt8).length + b.length <= _
   simp only [List.length_nil];omega
theorem endL_nil (dec:List UInt8 -> List UInt8) (l:List UInt8):(endL dec l).2.1 = []:=by
 unfold endL;cases h:tagL dec l with
 | none=>rfl
 | some p=>rfl
theorem longL_nil (l:List UInt8):(longL l).2.1 = []:=by
 unfold longL;split <;> rfl
theorem markL_len2 (dec:List UInt8 -> List UInt8) (l:List UInt8):(markL dec l).2.1.length + (markL dec l).2.2.length <= l.length:=by
 have h:=markL_len dec l
 by_cases hs:(markL dec l).2.1 = []
 ·rw [hs];simpa using h
 ·have:markL dec l = startL dec l:=by
   unfold markL at hs ⊢;split at hs
   ·split at hs
    ·exact absurd rfl hs
    ·split at hs
     ·exact absurd (endL_nil _ _) hs
     ·split at hs
      ·exact absurd rfl hs
      ·exact absurd rfl hs
   ·split at hs
    ·exact absurd (longL_nil _) hs
    ·exact absurd rfl hs
   ·exact absurd rfl hs
   ·rfl
  rw [this];exact startL_len2 dec l
theorem addT_len (L:List TokL) (x:List UInt8) (m:MarkR):(addT L x m).2.length <= x.length + m.2.1.length:=by
 unfold addT;cases m.1 with
 | none=>show (x ++ m.2.1).length <= _;rw [List.length_append];exact Nat.le_refl _
 | some t=>exact Nat.le_add_left _ _
theorem rdr_new (w:World):Rdr w.heap.size w.heap.size (.slice none 0 0) [] [] w (w.alloc (.cells #[.slice none 0 0,.pointer none,.slice none 0 0] 105)) :=
 ⟨⟨.pointer none,.slice none 0 0,by show (w.heap.push _)[w.heap.size]? = _;exact Array.getElem?_push_size,.inl rfl,World.ownsRow_nil _ _ _ 1,by simp [Value.ownBlock]⟩,TRow.nil _ _,Nat.le_refl _,(Below.refl _ _).alloc (Nat.le_refl _) _,by rw [World.size_alloc];exact Nat.le_succ _⟩
theorem scan_any (s:ByteArray) (m:Int) (w:World) (hs:s.size <= 16777216) (hE:EnvE w) (hm:w.cell? ⟨0,0,none⟩ = some (.int .i64 m)) :
  Calls Tryz.prog 33 #[.string s] w fun e w'=>∃ v vs,e = .returned v /\ TRow w.heap.size v vs w' /\ vs.map Prod.fst = scanL decE [] [] s.data.toList /\ Below w.heap.size w w':=by
 have HN:=hide (rdr_new w);have HE:=hide hE;have hmlt:=World.block_lt_of_cell? _ _ hm;have HM:=hide (fun w' (hb:Below w.heap.size w w')=>(hb.cell (p:=⟨0,0,none⟩) hmlt).trans hm);clear hE hm hmlt;go_enter Tryz.func33,Tryz.ntmps33;go_wp2_with fail;go_loopw [0] (fun sv wr=>∃ (S:ByteArray) (o:Value) (vs:List TokV) (x:List UInt8),sv = .string S /\ S.size <= 16777216 /\ Hid (Rdr w.heap.size w.heap.size o vs x w wr) /\ Hid (scanL decE (vs.map Prod.fst) x S.data.toList = scanL decE [] [] s.data.toList) /\ Hid (vs.length + 2 * S.size <= 2 * s.size /\ x.length + S.size <= s.size)) (fun sv _=>szStr sv)
 case atStart=>exact ⟨s,_,[],[],rfl,hs,HN,hide rfl,hide ⟨by simp,by simp⟩⟩
 case round =>
  obtain ⟨S,o,vs,x,rfl,hS,HR,HG,HZ⟩:=hrel;have hSl:=toList_length S;cases hl:S.data.toList with
  | nil =>
   have t0:S.toList.isEmpty = true:=by rw [bytes_list,hl];rfl
   have t1:S.toList = []:=by rw [bytes_list,hl]
   have HG2:Hid (flushT (vs.map Prod.fst) x = scanL decE [] [] s.data.toList):=hide (by rw [<- HG.out,hl,scanL_nil]);have HT:=hide (endText_any _ _ o vs x w wr HR.out (by have:=HZ.out.1;omega));clear hSl hl;go_wp2_with fail;refine HT.out.mono ?_;rintro e w1 ⟨rfl,o2,vs2,r2,m2,l2,k2⟩;obtain ⟨a2,v2,c2⟩:=r2.cell;have d2:=c2.cell0;have HB:=hide r2.below;have HT2:=hide r2.toks;have HM2:=hide m2;clear r2 m2 l2 k2 c2;go_wp2_with fail;go_ret;exact ⟨o2,vs2,rfl,HT2.out,HM2.out.trans HG2.out,HB.out⟩
  | cons c r =>
   have t0:S.toList.isEmpty = false:=by rw [bytes_list,hl];rfl
   have hSz:S.size = r.length + 1:=by rw [<- hSl,hl];rfl
   have hf:=firstMark_any S wr hS;rw [hl] at hf;have hle:=markN_le (c :: r);obtain ⟨K,hK⟩:∃ K,K = markN (c :: r):=⟨_,rfl⟩
   rw [<- hK] at hf hle;have HF:=hide hf
   by_cases h0:0 < K
   ·have q0:(0:Int) <= K:=by omega
    have q1:(K:Int) <= S.size:=by rw [hSz];simp only [List.length_cons] at hle;omega
    obtain ⟨P,hP⟩:∃ P,S.extract 0 K = P:=⟨_,rfl⟩
    obtain ⟨Q,hQ⟩:∃ Q,S.extract K S.size = Q:=⟨_,rfl⟩
    have hPl:P.data.toList = (c :: r).take K:=by rw [<- hP,extract_list,List.drop_zero,hl]
    have hQl:Q.data.toList = (c :: r).drop K:=by rw [<- hQ,extract_end,hl]
    have hPz:P.size = K:=by rw [<- toList_length,hPl,List.length_take];omega
    have hQz:Q.size = S.size - K:=by rw [<- toList_length,hQl,List.length_drop,hSz];rfl
    have hstep:=HG.out;rw [hl,scanL_text decE _ _ (by rw [<- hK];exact h0),<- hK,<- hPl,<- hQl] at hstep;have hdl:=decE_len _ P.data.toList (Nat.le_refl _);rw [toList_length] at hdl;have hdec:=fun w2 h=>entDecode_any P w2 (by omega) h
    obtain ⟨D,hD⟩:∃ D,D = decE P.data.toList:=⟨_,rfl⟩
    rw [<- hD] at hstep hdl hdec;have HD:=hide hdec;have HST:=hide hstep
    have HZ2:Hid (vs.length + 2 * Q.size <= 2 * s.size /\ (x ++ D).length + Q.size <= s.size):=hide (by
     have:=HZ.out;rw [List.length_append];omega)
    have HW:=hide (fun w2 (h2:Rdr w.heap.size w.heap.size o vs x w w2)=>writeR_any _ _ o vs x (str D) w w2 h2 (by rw [str_size];have:=HZ.out;omega));rw [str_toList] at HW;have hQS:Q.size < S.size:=by omega
    have HQS:=hide hQS;have HQ6:Hid (Q.size <= 16777216):=hide (by omega);clear hSl hl hSz hf hle hK hPl hQl hPz hQz hstep hdl hdec hD hQS;go_wp2_with fail;refine HF.out.mono ?_;rintro e w1 ⟨rfl,rfl⟩;go_wp2_with fail
    all_goals first | (exact absurd h0 ‹_›) | skip
    refine (HD.out _ (HE.out.kept HR.out.below)).mono ?_;rintro e w2 ⟨rfl,hb2⟩;have HR2:=hide (HR.out.kept hb2);clear hb2;go_wp2_with fail;refine (HW.out _ HR2.out).mono ?_;rintro e w3 ⟨rfl,r3⟩;have HR3:=hide r3;clear r3;go_wp2_with fail;go_roundw
    case rel=>exact ⟨Q,o,vs,x ++ D,rfl,HQ6.out,HR3,HST,HZ2⟩
    case measure=>exact HQS.out
   ·have hK0:K = 0:=by omega
    have hmk:isMarkB S.data.toList = true:=by rw [hl];exact markN_zero (by rw [<- hK];exact hK0)
    have hMK:=mark_any _ _ o vs x w wr S m HR.out (by have:=HZ.out;omega) hS (HE.out.kept HR.out.below) (HM.out _ HR.out.below) hmk;have hstep:=HG.out;rw [hl] at hmk hstep hMK;rw [scanL_mark decE _ _ hmk] at hstep;rw [show (c :: r).drop 1 = r from rfl] at hMK;have hl2:=markL_len2 decE r;obtain ⟨M,hM⟩:∃ M,M = markL decE r:=⟨_,rfl⟩
    rw [<- hM] at hstep hMK hl2;have ha:=addT_len (vs.map Prod.fst) x M;have HMK:=hide hMK;have HST:Hid (scanL decE (addT (vs.map Prod.fst) x M).1 (addT (vs.map Prod.fst) x M).2 (str M.2.2).data.toList = scanL decE [] [] s.data.toList):=hide (by rw [str_toList];exact hstep)
    have HZ2:Hid (vs.length + 2 + 2 * (str M.2.2).size <= 2 * s.size /\ (addT (vs.map Prod.fst) x M).2.length + (str M.2.2).size <= s.size):=hide (by
     have:=HZ.out;rw [str_size];omega)
    have HQS:Hid ((str M.2.2).size < S.size):=hide (by rw [str_size];omega);have HQ6:Hid ((str M.2.2).size <= 16777216):=hide (by rw [str_size];omega);clear hSl hl hSz hf hle hK hstep hMK hl2 hM ha hmk;subst hK0;go_wp2_with fail;refine HF.out.mono ?_;rintro e w1 ⟨rfl,rfl⟩;go_wp2_with fail;refine HMK.out.mono ?_;rintro e w2 ⟨rfl,o2,vs2,r2,m2,l2⟩;have HR2:=hide r2;have HST2:Hid (scanL decE (vs2.map Prod.fst) (addT (vs.map Prod.fst) x M).2 (str M.2.2).data.toList = scanL decE [] [] s.data.toList):=hide (by rw [m2];exact HST.out);have HZ3:Hid (vs2.length + 2 * (str M.2.2).size <= 2 * s.size /\ (addT (vs.map Prod.fst) x M).2.length + (str M.2.2).size <= s.size):=hide ⟨by have:=HZ2.out.1;omega,HZ2.out.2⟩;clear r2 m2 l2;go_wp2_with fail;go_roundw
    case rel=>exact ⟨str M.2.2,o2,vs2,_,rfl,HQ6.out,HR2,HST2,HZ3⟩
    case measure=>exact HQS.out
theorem make_part (w:World):(Instr.makeSlice 45 (.int .i64 1) (.int .i64 1)).run Tryz.prog w = .ok (.slice (some ⟨w.heap.size,0,none⟩) 1 1) (w.alloc (.cells #[.string ⟨#[]⟩,.slice none 0 0,.string ⟨#[]⟩,.slice none 0 0,.slice none 0 0] 58)):=by
 obtain ⟨i0,hi,hz0,hz1,hz2⟩:=info_parts info_part;have:=run_make (P:=Tryz.prog) w 45 58 i0 _ Tryz.underlying45 hi hz0 .i64 .i64 1 1 (by omega) (Int.le_refl _) (by rw [hz2];decide) (by decide);rw [hz1] at this;have e:madeCells (Value.agg #[.string ByteArray.empty,.slice none 0 0,.string ByteArray.empty,.slice none 0 0,.slice none 0 0]).cells (Int.toNat 1 * 5) = #[.string ⟨#[]⟩,.slice none 0 0,.string ⟨#[]⟩,.slice none 0 0,.slice none 0 0]:=by kernel_rfl
 rw [e] at this;exact this
def rootV:PartV:=⟨[],[],.slice none 0 0,[],.slice none 0 0,[],.slice none 0 0⟩
theorem bs_new (w:World):BS (fun _=>False) w.heap.size (w.heap.size + 1) (.slice (some ⟨w.heap.size,0,none⟩) 1 1) [rootV] 0 w ((w.alloc (.cells #[.string ⟨#[]⟩,.slice none 0 0,.string ⟨#[]⟩,.slice none 0 0,.slice none 0 0] 58)).alloc (.cells #[.slice (some ⟨w.heap.size,0,none⟩) 1 1,.int .i64 0] 47)):=by
 have h1:(w.alloc (.cells #[.string ⟨#[]⟩,.slice none 0 0,.string ⟨#[]⟩,.slice none 0 0,.slice none 0 0] 58)).heap.size = w.heap.size + 1:=by rw [World.size_alloc]
 have hr:=(World.ownsRow_lit (base:=w.heap.size) (e:=58) (size:=5) w #[.string ⟨#[]⟩,.slice none 0 0,.string ⟨#[]⟩,.slice none 0 0,.slice none 0 0] 1 (Nat.le_refl _) (by decide) rfl).alloc (.cells #[.slice (some ⟨w.heap.size,0,none⟩) 1 1,.int .i64 0] 47);have hb:Below w.heap.size w ((w.alloc (.cells #[.string ⟨#[]⟩,.slice none 0 0,.string ⟨#[]⟩,.slice none 0 0,.slice none 0 0] 58)).alloc (.cells #[.slice (some ⟨w.heap.size,0,none⟩) 1 1,.int .i64 0] 47)):=(below_one w _).trans ((below_one _ _).mono (by rw [h1];exact Nat.le_succ _));refine ⟨?_,hr,fun p hp=>?_,fun p hp=>?_,List.pairwise_singleton _ _,fun p hp=>?_,fun p hp=>(by cases hp),fun g hg=>hg.elim,Nat.le_succ _,hb,hb.size,(Since4.refl w).below hb⟩
 ·have:=heap_alloc_new (w.alloc (.cells #[.string ⟨#[]⟩,.slice none 0 0,.string ⟨#[]⟩,.slice none 0 0,.slice none 0 0] 58)) (.cells #[.slice (some ⟨w.heap.size,0,none⟩) 1 1,.int .i64 0] 47);rw [h1] at this;exact this
 ·obtain rfl:=List.mem_singleton.1 hp;exact ⟨.inl ⟨rfl,rfl⟩,fun a n c e=>(by cases e)⟩
 ·obtain rfl:=List.mem_singleton.1 hp;exact ⟨World.ownsRow_nil _ _ _ 4,fun q hq=>(by cases hq),fun g e=>(by cases e)⟩
 ·obtain rfl:=List.mem_singleton.1 hp;exact ⟨World.ownsRow_nil _ _ _ 1,fun _=>rfl⟩
theorem TRow.since {B:Nat} {v:Value} {vs:List TokV} {W w:World} (h:TRow B v vs W) (hs:Since4 W w):TRow B v vs w:=by
 refine ⟨⟨h.row.1,?_⟩,fun p hp=>attrs_since hs (h.each p hp)⟩;rcases h.row.2 with h0 | ⟨g,cap,cur,rfl,h1,h2,h3⟩
 ·exact .inl h0
 ·exact .inr ⟨g,cap,cur,rfl,h1,(hs g _ _ _ h2 (by decide)).trans h2,h3⟩
def TailsLe (X:Nat) (st:List PartL):Prop:=∀ p ∈ st,p.tail.length <= X
theorem tails_closeTop {X:Nat} {st:List PartL} (h:TailsLe X st):TailsLe X (closeTop st):=by
 match st,h with
 | [],h=>exact h
 | [p],h=>exact h
 | p :: q :: r,h =>
  intro x hx;rcases List.mem_cons.1 hx with rfl | hx
  ·exact h q (List.mem_cons_of_mem _ (List.mem_cons_self ..))
  ·exact h x (List.mem_cons_of_mem _ (List.mem_cons_of_mem _ hx))
theorem tails_closeN {X:Nat} (n:Nat) {st:List PartL} (h:TailsLe X st):TailsLe X (closeN n st):=by
 induction n generalizing st with
 | zero=>exact h
 | succ n ih=>exact ih (tails_closeTop h)
theorem tails_closeAll {X:Nat} (is:List UInt8 -> Bool) (f:Nat) {st:List PartL} (h:TailsLe X st):TailsLe X (closeAll is f st):=by
 induction f generalizing st with
 | zero=>exact h
 | succ f ih =>
  rw [closeAll];split
  ·exact h
  ·exact ih (tails_closeN _ h)
theorem tails_endText {X:Nat} {p:PartL}:(endTextL p).tail.length <= X:=by rw [endText_tail];exact Nat.zero_le _
theorem tails_put {X:Nat} (t:TokL) (n:Nat) {st:List PartL} (h:TailsLe X st):TailsLe X (putP t st n).1:=by
 match st,h with
 | [],h=>exact h
 | p :: r,h =>
  have hr:∀ x ∈ r,x.tail.length <= X:=fun x hx=>h x (List.mem_cons_of_mem _ hx)
  rw [putP_cons];split
  ·intro x hx;rcases List.mem_cons.1 hx with rfl | hx
   ·exact tails_endText
   ·exact hr x hx
  ·intro x hx;rcases List.mem_cons.1 hx with rfl | hx
   ·exact Nat.zero_le _
   ·rcases List.mem_cons.1 hx with rfl | hx
    ·exact tails_endText
    ·exact hr x hx
theorem tails_tok {X N:Nat} {s:BsL} {t:TokL} (h:TailsLe X s.1) (ht:t.kind = 1 -> t.text.length <= N):TailsLe (X + N) (tokB s t).1:=by
 obtain ⟨st,n⟩:=s;have hx:∀ {l:List PartL},TailsLe X l -> TailsLe (X + N) l:=fun hl x hx=>Nat.le_trans (hl x hx) (Nat.le_add_right _ _)
 unfold tokB;split
 ·rename_i hk;have hN:=ht hk
  match st,h with
  | [],h=>exact hx h
  | p :: r,h =>
   have hp:=h p (List.mem_cons_self ..);have hr:∀ x ∈ r,x.tail.length <= X + N:=fun x hx=>Nat.le_trans (h x (List.mem_cons_of_mem _ hx)) (Nat.le_add_right _ _)
   rw [charsP_cons];split
   ·split
    ·exact hx h
    ·intro x hx;rcases List.mem_cons.1 hx with rfl | hx
     ·show t.text.length <= X + N;omega
     ·exact hr x hx
   ·intro x hx;rcases List.mem_cons.1 hx with rfl | hx
    ·show (p.tail ++ t.text).length <= X + N;rw [List.length_append];omega
    ·exact hr x hx
 ·split
  ·unfold startP;have:=tails_closeAll (closesB t.name) st.length h;split
   ·exact hx this
   ·exact hx (tails_put _ _ this)
  ·split
   ·unfold endP;split
    ·exact hx h
    ·exact hx (tails_closeN _ h)
   ·exact hx h
theorem tails_fold (N:Nat):∀ (L:List TokL) (X:Nat) (s:BsL),TailsLe X s.1 -> (∀ t ∈ L,TokW N t) -> TailsLe (X + L.length * N) (L.foldl tokB s).1
 | [],X,s,h,_=>by simpa using h
 | t :: r,X,s,h,ht=>by
  have h1:=tails_tok (N:=N) h (ht t (List.mem_cons_self ..)).1;have h2:=tails_fold N r (X + N) _ h1 (fun u hu=>ht u (List.mem_cons_of_mem _ hu));rw [List.foldl_cons,List.length_cons,Nat.add_mul,Nat.one_mul];intro p hp;have:=h2 p hp;omega
def BuiltS (B b:Nat) (vs:List TokV) (W0 w:World) (k:Nat):Prop :=
  ∃ C r st n,BS C B b r st n W0 w /\ (toLs st,n) = ((vs.map Prod.fst).take k).foldl tokB ([rootL],0)
theorem built_ok {N:Nat} {vs:List TokV} {k:Nat} {st:List PartV} {n:Nat} (h:(toLs st,n) = ((vs.map Prod.fst).take k).foldl tokB ([rootL],0)) (hw:∀ t ∈ vs.map Prod.fst,TokW N t) (hk:k <= vs.length) (hN:vs.length * N <= 64000000000000) :
  st ≠ [] /\ stW (toLs st) <= n /\ n <= 5000 /\ st.length <= 31 /\ ∀ p ∈ st,p.tail.length <= 64000000000000:=by
 have h1:=(fold_ok ((vs.map Prod.fst).take k) ok_root).1;have h5:=tails_fold N ((vs.map Prod.fst).take k) 0 ([rootL],0) (fun p hp=>by obtain rfl:=List.mem_singleton.1 hp;exact Nat.le_refl _) (fun t ht=>hw t (List.mem_of_mem_take ht));rw [<- h] at h1 h5;obtain ⟨h1,h2,h3,h4⟩:=h1;refine ⟨fun e=>h1 (by rw [e];rfl),h2,h3,by rw [<- toLs_length];exact h4,fun p hp=>?_⟩;have h6:=h5 p.toL (List.mem_map_of_mem hp);have h7:((vs.map Prod.fst).take k).length <= vs.length:=by rw [List.length_take,List.length_map];omega
 have h8:=Nat.mul_le_mul_right N h7;have h9:p.toL.tail = p.tail:=rfl;rw [h9] at h6;omega
theorem fold_next {vs:List TokV} {k:Nat} {p:TokV} (h:vs[k]? = some p) (s:BsL):((vs.map Prod.fst).take (k + 1)).foldl tokB s = tokB (((vs.map Prod.fst).take k).foldl tokB s) p.1:=by
 have:(vs.map Prod.fst)[k]? = some p.1:=by rw [List.getElem?_map,h];rfl
 rw [List.take_add_one,this,List.foldl_append];rfl
theorem treeBuild_any (s:ByteArray) (m:Int) (w:World) (hs:s.size <= 8000000) (hE:EnvE w) (hm:w.cell? ⟨0,0,none⟩ = some (.int .i64 m)) :
  Calls Tryz.prog 12 #[.string s] w fun e w'=>∃ v,e = .returned v /\ NodesIn w' v (buildP (scanL decE [] [] s.data.toList)) /\ Below w.heap.size w w':=by
 obtain ⟨W1,hW1⟩:∃ W1,W1 = ((w.alloc (.cells #[.string ⟨#[]⟩,.slice none 0 0,.string ⟨#[]⟩,.slice none 0 0,.slice none 0 0] 58)).alloc (.cells #[.slice (some ⟨w.heap.size,0,none⟩) 1 1,.int .i64 0] 47)):=⟨_,rfl⟩
 have hb0:=bs_new w;rw [<- hW1] at hb0;have HB0:=hide hb0;have hsc:=scan_any s m W1 (by omega) (hE.kept hb0.below) ((hb0.below.cell (p:=⟨0,0,none⟩) (World.block_lt_of_cell? _ _ hm)).trans hm);have HSC:=hide hsc;obtain ⟨hw1,hw2⟩:=scanE_w s;have hform:=(scan_forms decE _ s.data.toList [] [] (Nat.le_refl _) ⟨fun t h=>(by cases h),fun i a b h=>by simp at h⟩ (fun t h=>by simp at h)).1;have HW:=hide (And.intro hw1 (And.intro hw2 hform.1));have HSZ:=hide hs;have hmk:=make_part;have hmf:∀ (fn:Fn) (first cap:Array Value) (w:World),(Instr.makeFunc fn first cap).run Tryz.prog w = .ok (.func fn first cap) w:=fun _ _ _ _=>rfl
 have HK:=hide (enters_of Tryz.func37 (by kernel_rfl) rfl);have HM:=hide hm;clear hb0 hsc hw1 hw2 hform hs hE hm;go_enter Tryz.func12,Tryz.ntmps12;go_wp2_with fail;rw [<- hW1];refine HSC.out.mono ?_;rintro e w2 ⟨v,vs,rfl,ht,hmv,hb⟩;obtain ⟨VA,VC,rfl⟩:=ht.slice_len;obtain ⟨hw1,hw2,hw3⟩:=HW.out;rw [<- hmv] at hw1 hw2 hw3;have hvl:vs.length <= s.size:=by rw [List.length_map] at hw2;exact hw2
 have hprod:vs.length * s.size <= 64000000000000:=by
  have h1:=HSZ.out
  calc vs.length * s.size <= 8000000 * 8000000:=Nat.mul_le_mul (Nat.le_trans hvl h1) h1
   _ = 64000000000000:=by decide
 have HT:=hide ht;have HB2:=hide ((HB0.out.kept hb).from);have HBW:=hide (HB0.out.below.trans (hb.mono HB0.out.size));have HMV:=hide hmv;have HV:=hide (And.intro hw1 (And.intro hw3 (And.intro hvl hprod)));have HS:Hid (BuiltS w.heap.size (w.heap.size + 1) vs w2 w2 0):=hide ⟨_,_,_,_,HB2.out,rfl⟩;have hvl2:vs.length <= 8000000:=Nat.le_trans hvl HSZ.out;clear ht hmv hb hw1 hw2 hw3 hvl hprod hW1 hmk;go_wp2_with fail;go_loopg [5,12] vs.length (fun gk u5 i wr=>∃ k:Nat,k + gk = vs.length /\ i = .int .i64 k /\ Hid (BuiltS w.heap.size (w.heap.size + 1) vs w2 wr k))
 case atStart=>exact ⟨0,by omega,rfl,HS.out⟩
 case round =>
  obtain ⟨k,hk,rfl,HR⟩:=hrel;cases gk with
  | zero =>
   obtain rfl:k = vs.length:=by omega
   obtain ⟨C,r,st,n,hb,he⟩:=HR.out;obtain ⟨o1,o2,o3,o4,o5⟩:=built_ok (N:=s.size) he HV.out.1 (Nat.le_refl _) HV.out.2.2.2;have hcf:=closeFrom_any C w.heap.size (w.heap.size + 1) r st n 1 w2 wr hb (Nat.le_refl _) (List.length_pos_iff.2 o1) (by omega) (fun p hp=>Nat.le_trans (o5 p hp) (by decide)) (by omega);have HCF:=hide hcf;have HE:=hide he;have HO:=hide (And.intro o1 (And.intro o2 (And.intro o3 o4)));clear hb he o1 o2 o3 o4 o5 hcf HR hk;go_wp2_with fail;refine HCF.out.mono ?_;rintro e w3 ⟨rfl,st3,⟨C3,r3,hb3⟩,ht3,htl3⟩
   have hl3:st3.length = 1:=by
    rw [<- toLs_length,ht3,closeN_length _ _ (by rw [toLs_length];have:=List.length_pos_iff.2 HO.out.1;omega),toLs_length];have:=List.length_pos_iff.2 HO.out.1;omega
   obtain ⟨p,rfl⟩:∃ p,st3 = [p]:=by
    match st3,hl3 with
    | [p],_=>exact ⟨p,rfl⟩
   obtain ⟨g,cap,rfl,i1,i2,i3,i4⟩:=hb3.form (by simp);have hb3':BS C3 w.heap.size (w.heap.size + 1) (.slice (some ⟨g,0,none⟩) (([]:List PartV).length + 1) cap) [p] n w2 w3:=hb3;have hw3':stW (toLs [p]) <= 5000:=by rw [ht3,closeN_wt];have:=HO.out;omega
   have hi:Calls Tryz.prog 39 #[.pointer (some ⟨w.heap.size + 1,0,none⟩)] w3 fun e w'=>e = .returned (.pointer (some ⟨g,0,none⟩)) /\ BS C3 w.heap.size (w.heap.size + 1) (.slice (some ⟨g,0,none⟩) (([]:List PartV).length + 1) cap) [p] n w2 w':=by
    have:=inner_at C3 w.heap.size (w.heap.size + 1) g cap p [] n w2 w3 hb3' (by simp);rw [show ([]:List PartV).length * 5 = 0 from rfl] at this;exact this
   have HI:=hide hi;have HKL:=hide (kids_le (p:=p) (List.mem_cons_self ..) hw3');have HTL:=hide (htl3 p (List.mem_cons_self ..));have HT3:=hide ht3;clear hb3 hb3' hi hw3' ht3 htl3 hl3 i1 i2 i3 i4;go_wp2_with fail;refine HI.out.mono ?_;rintro e w4 ⟨rfl,hb4⟩
   have hx:Calls Tryz.prog 40 #[.pointer (some ⟨g,0,none⟩)] w4 fun e w'=>e = .returned (.tuple #[]) /\ ∃ p',BS C3 w.heap.size (w.heap.size + 1) (.slice (some ⟨g,0,none⟩) (([]:List PartV).length + 1) cap) [p'] n w2 w' /\ p'.toL = endTextL p.toL:=by
    have:=endTextT_any C3 w.heap.size (w.heap.size + 1) g cap p [] n w2 w4 hb4 (by simp) (by have:=HKL.out;omega) HTL.out;rw [show ([]:List PartV).length * 5 = 0 from rfl] at this;exact this
   have HX:=hide hx;clear hb4 hx;go_wp2_with fail;refine HX.out.mono ?_;rintro e w5 ⟨rfl,p',hb5,hp'⟩
   have y3:w5.cell? ⟨g,3,none⟩ = some p'.kv:=by
    have:=hb5.cells.2.2.2.1;rw [show ([]:List PartV).length * 5 + 3 = 3 from rfl] at this;exact this
   have hkr:=hb5.kids p' (List.mem_cons_self ..);obtain ⟨KA,KC,hkv⟩:=hkr.form;have hnodes:=hkr.nodes (C':=fun b=>b < w5.heap.size) (fun b hb=>(hb5.typ b hb).1) (fun k e=>(hkr.row.lt k e).2)
   have HRES:Hid (NodesIn w5 (.slice KA p'.kids.length KC) (buildP (scanL decE [] [] s.data.toList)) /\ Below w.heap.size w w5):=hide ⟨by
    rw [<- hkv]
    have e1:buildP (scanL decE [] [] s.data.toList) = Tr.of (p'.kids.map Prod.fst):=by
     rw [<- HMV.out];unfold buildP;have e2:=HE.out;rw [List.take_of_length_le (by rw [List.length_map];exact Nat.le_refl _)] at e2;rw [<- e2];unfold endTree;have e3:=HT3.out;rw [<- toLs_length] at e3;rw [<- e3];show Tr.of (endTextL p.toL).kids = _
     rw [<- hp'];rfl
    rw [e1];exact hnodes,HBW.out.trans hb5.below⟩
   rw [hkv] at y3;clear hb5 hp' hkr hkv hnodes;go_wp2_with fail;go_ret;exact ⟨_,rfl,HRES.out⟩
  | succ gk =>
   obtain ⟨C,r,st,n,hb,he⟩:=HR.out;obtain ⟨o1,o2,o3,o4,o5⟩:=built_ok (N:=s.size) he HV.out.1 (by omega) HV.out.2.2.2;have hlt:k < vs.length:=by omega
   obtain ⟨⟨t,u⟩,hq⟩:∃ q,vs[k]? = some q:=⟨_,List.getElem?_eq_getElem hlt⟩
   have hmem:=List.mem_of_getElem? hq;have hrow:=HT.out.since hb.since;have hu:wr.ownsRow W1.heap.size 43 2 u t.attrs.length (atVals t.attrs):=hrow.each (t,u) hmem
   obtain ⟨A,c,rfl⟩:∃ A c,u = .slice A t.attrs.length c:=by
    rcases hu.2 with ⟨rfl,h0⟩ | ⟨g,cap,cur,rfl,_⟩
    ·rw [h0];exact ⟨_,_,rfl⟩
    ·exact ⟨_,_,rfl⟩
   obtain ⟨g0,rfl⟩:∃ g0,VA = some ⟨g0,0,none⟩:=by
    rcases hrow.row.2 with ⟨_,h0⟩ | ⟨g,cap,cur,hv,_⟩
    ·omega
    ·injection hv with hv _ _;exact ⟨g,hv⟩
   obtain ⟨q0,q1,q2,q3⟩:=tokVals_at hq
   have hcell:∀ (j:Nat) (x:Value),(tokVals vs)[k * 4 + j]? = some x -> wr.cell? ⟨g0,k * 4 + j,none⟩ = some x:=fun j x hx=>by
    have:=hrow.row.cells (g:=g0) rfl _ _ hx;rw [Addr.add_lit,Nat.zero_add] at this;exact this
   have y0:wr.cell? ⟨g0,k * 4,none⟩ = some (.int .i64 (t.kind:Int)):=hcell 0 _ q0;have y1:=hcell 1 _ q1;have y2:=hcell 2 _ q2;have y3:=hcell 3 _ q3;simp only at y1 y2 y3;have hnx:=fold_next hq ([rootL],0);rw [<- he] at hnx;simp only at hnx;have htw:=HV.out.1 t (by rw [List.mem_map];exact ⟨_,hmem,rfl⟩);have htf:=(HV.out.2.1 t (by rw [List.mem_map];exact ⟨_,hmem,rfl⟩)).1;have hkb:=below_one wr (Obj.cells #[.int .i64 (t.kind:Int),.string (str t.name),.slice A t.attrs.length c,.string (str t.text)] 51);have HBB:=hide (hb.kept hkb);have HUB:Hid ((wr.alloc (Obj.cells #[.int .i64 (t.kind:Int),.string (str t.name),.slice A t.attrs.length c,.string (str t.text)] 51)).ownsRow W1.heap.size 43 2 (.slice A t.attrs.length c) t.attrs.length (atVals t.attrs)):=hide (hu.kept (grown_none hkb) (by cases hv:Value.ownBlock (.slice A t.attrs.length c) <;> simp));have hbx:=heap_alloc_new wr (Obj.cells #[.int .i64 (t.kind:Int),.string (str t.name),.slice A t.attrs.length c,.string (str t.text)] 51);have HBX:=hide hbx;have HNX:=hide hnx;have HTW:=hide (And.intro htw htf);have HO:=hide (And.intro o1 (And.intro (Nat.le_trans o2 o3) (And.intro o3 (And.intro o4 o5))));have HQ:=hide hq;have HK:=HK;have tk0:decide ((k:Int) < (vs.length:Int)) = true:=decide_eq_true (by omega);have tk1:(k:Int) < (vs.length:Int):=by omega
   have tk2:k <= 8000000:=by omega
   have hne:(⟨wr.heap.size,0,none⟩:Addr).block = wr.heap.size:=rfl;clear hb he o1 o2 o3 o4 o5 hmem hrow hu q0 q1 q2 q3 hcell hnx htw htf hkb hbx HR hq hne
   by_cases k1:t.kind = 1
   ·have t1:((t.kind:Int) == 1) = true:=by rw [k1];rfl
    have HK1:=hide k1;clear k1;go_wp2_with fail;have hx:(str t.text).data.toList ≠ []:=by rw [str_toList];exact HTW.out.2 HK1.out
    have hch:Calls Tryz.prog 34 #[.pointer (some ⟨w.heap.size + 1,0,none⟩),.string (str t.text)] (wr.alloc (Obj.cells #[.int .i64 (t.kind:Int),.string (str t.name),.slice A t.attrs.length c,.string (str t.text)] 51)) fun e w'=>e = .returned (.tuple #[]) /\ Left w.heap.size (w.heap.size + 1) (charsP t.text (toLs st,n)) w2 w':=by
     have hb:=HBB.out;obtain ⟨g,cap,rfl,i1,i2,i3,i4⟩:=hb.form HO.out.1
     match st,hb,HO.out with
     | [],_,ho=>exact absurd rfl ho.1
     | p :: rest,hb,ho =>
      have h1:=ho.2.2.2.1;have h2:=ho.2.2.2.2 p (List.mem_cons_self ..);have h3:=HTW.out.1.1 HK1.out;have h4:=HSZ.out;have:=chars_any C w.heap.size (w.heap.size + 1) g cap p rest n w2 _ hb (by simp only [List.length_cons] at h1;omega) ho.2.2.1 (str t.text) hx (by rw [str_size];omega);rw [str_toList] at this;exact this
    refine hch.mono ?_;rintro e w6 ⟨rfl,C6,r6,st6,hb6,he6⟩;have HB6:=hide hb6;have HE6:=hide he6;clear hb6 he6 hch hx;go_wp2_with fail;go_roundg gk
    case rel =>
     refine ⟨k + 1,by omega,by go_num,hide ⟨_,_,_,_,HB6.out,?_⟩⟩;rw [HNX.out];unfold tokB;rw [if_pos HK1.out,HE6.out]
    case measure=>omega
   ·have t1:((t.kind:Int) == 1) = false:=beq_eq_false_iff_ne.2 (by omega)
    by_cases k2:t.kind = 2
    ·have t2:((t.kind:Int) == 2) = true:=by rw [k2];rfl
     have HK2:=hide (And.intro k1 k2);clear k1 k2;go_wp2_with fail;have hst:=start14_any C w.heap.size W1.heap.size (w.heap.size + 1) r st n w2 _ t (.slice A t.attrs.length c) HBB.out HO.out.1 (Nat.le_trans HO.out.2.1 (Nat.le_refl _)) HO.out.2.2.1 (fun p hp=>Nat.le_trans (HO.out.2.2.2.2 p hp) (by decide)) (by have:=HO.out.2.2.2.1;omega) HUB.out;refine hst.mono ?_;rintro e w6 ⟨rfl,C6,r6,st6,hb6,he6,_⟩;have HB6:=hide hb6;have HE6:=hide he6;clear hb6 he6 hst;go_wp2_with fail;go_roundg gk
     case rel =>
      refine ⟨k + 1,by omega,by go_num,hide ⟨_,_,_,_,HB6.out,?_⟩⟩;rw [HNX.out];unfold tokB;rw [if_neg HK2.out.1,if_pos HK2.out.2,HE6.out];unfold startP;simp only
      by_cases h5:n = 5000
      ·rw [if_pos h5,if_pos h5,if_pos h5]
      ·rw [if_neg h5,if_neg h5,if_neg h5];have hne:=(closeAll_length (closesB t.name) (toLs st).length (toLs st)).2 (fun e=>HO.out.1 (List.map_eq_nil_iff.1 e));have:=(put_wt t (closeAll (closesB t.name) (toLs st).length (toLs st)) n hne).2.1;exact Prod.ext rfl this.symm
     case measure=>omega
    ·have t2:((t.kind:Int) == 2) = false:=beq_eq_false_iff_ne.2 (by omega)
     by_cases k3:t.kind = 3
     ·have t3:((t.kind:Int) == 3) = true:=by rw [k3];rfl
      have HK3:=hide (And.intro k1 (And.intro k2 k3));clear k1 k2 k3;go_wp2_with fail;have hask:=ask_end wr.heap.size (str t.name);unfold AskAt at hask;rw [str_toList] at hask;have hcl:=close_gen 37 wr.heap.size (str t.name) (fun o=>o == t.name) HK.out hask C w.heap.size (w.heap.size + 1) r st n w2 _ HBB.out HO.out.1 HO.out.2.1 (fun p hp=>Nat.le_trans (HO.out.2.2.2.2 p hp) (by decide)) (by have:=HO.out.2.2.2.1;omega) (by rw [Lib.cell_of_heap HBX.out];rfl);refine hcl.mono ?_;rintro e w6 ⟨rfl,st6,⟨C6,r6,hb6⟩,he6,_⟩;have HB6:=hide hb6;have HE6:=hide he6;clear hb6 he6 hcl hask;go_wp2_with fail;go_roundg gk
      case rel =>
       refine ⟨k + 1,by omega,by go_num,hide ⟨_,_,_,_,HB6.out,?_⟩⟩;rw [HNX.out];unfold tokB;rw [if_neg HK3.out.1,if_neg HK3.out.2.1,if_pos HK3.out.2.2,HE6.out];unfold endP closeB;simp only;cases findP (fun o=>o == t.name) (toLs st) <;> rfl
      case measure=>omega
     ·have t3:((t.kind:Int) == 3) = false:=beq_eq_false_iff_ne.2 (by omega);have HK3:=hide (And.intro k1 (And.intro k2 k3));clear k1 k2 k3;go_wp2_with fail;go_roundg gk
      case rel =>
       refine ⟨k + 1,by omega,by go_num,hide ⟨_,_,_,_,HBB.out,?_⟩⟩;rw [HNX.out];unfold tokB;rw [if_neg HK3.out.1,if_neg HK3.out.2.1,if_neg HK3.out.2.2]
      case measure=>omega
theorem small_few {T:Tr} (ha:T.all smallH = true):T.all attrsFew = true:=by
 induction T with
 | nil=>rfl
 | cons h K R ihk ihr =>
  simp only [Tr.all,Bool.and_eq_true] at ha ⊢;refine ⟨?_,ihk ha.2.1,ihr ha.2.2⟩;have h2:=ha.1;unfold smallH fitT at h2;simp only [Bool.and_eq_true,decide_eq_true_eq] at h2;unfold attrsFew;exact decide_eq_true (by omega)
theorem wide_few {T:Tr} (ha:T.all wideH = true):T.all attrsFew = true:=by
 induction T with
 | nil=>rfl
 | cons h K R ihk ihr =>
  simp only [Tr.all,Bool.and_eq_true] at ha ⊢;refine ⟨?_,ihk ha.2.1,ihr ha.2.2⟩;have h2:=ha.1;unfold wideH wfitT at h2;simp only [Bool.and_eq_true,decide_eq_true_eq] at h2;unfold attrsFew;exact decide_eq_true (by omega)
def stableB (T:Tr):Bool:=decide (T = buildP (scanL decE [] [] (writeT T)))
theorem serStableW_any (v:Value) (T:Tr) (w:World) (hE:EnvX w) (hT:NodesIn w v T) (ha:T.all wideH = true) (hc:T.count < 1000000) (hl:(writeT T).length <= 8000000) :
  Calls Tryz.prog 9 #[v] w fun e w'=>e = .returned (.bool (stableB T)) /\ Below w.heap.size w w':=by
 obtain ⟨A,c,rfl⟩:=NodesC.form hT;have HW:=hide (serWriteW_any _ T w hE hT ha (by omega) (by omega));obtain ⟨S,hS⟩:∃ S,S = str (writeT T):=⟨_,rfl⟩
 have hSz:S.size <= 8000000:=by rw [hS,str_size];exact hl
 have hSl:S.data.toList = writeT T:=by rw [hS,str_toList]
 rw [<- hS] at HW
 have HB:Hid (∀ w',Below w.heap.size w w' -> Calls Tryz.prog 12 #[.string S] w' fun e w''=>∃ u,e = .returned u /\ NodesIn w'' u (buildP (scanL decE [] [] (writeT T))) /\ Below w'.heap.size w' w''):=hide (fun w' hb=>by
  have hE':=hE.kept hb;obtain ⟨m,hm⟩:=hE'.2;have:=treeBuild_any S m w' hSz hE'.1 hm;rw [hSl] at this;exact this)
 have HM:Hid (∀ w' u,Below w.heap.size w w' -> NodesIn w' u (buildP (scanL decE [] [] (writeT T))) -> Calls Tryz.prog 30 #[.slice A T.len c,u] w' fun e w''=>e = .returned (.bool (stableB T)) /\ Below w'.heap.size w' w''):=hide (fun w' u hb hu =>
  serSame_any _ _ T _ w' hc (hT.kept hb) hu (wide_few ha))
 clear hE hT ha hc hl hS hSz hSl;go_enter Tryz.func9,Tryz.ntmps9;go_wp2_with fail;refine HW.out.mono ?_;rintro e w1 ⟨rfl,hb1⟩;have HB1:=hide hb1;clear hb1;go_wp2_with fail;refine (HB.out _ HB1.out).mono ?_;rintro e w2 ⟨u,rfl,hu,hb2⟩;have HB2:=hide (bl_two HB1.out hb2);have HS:=hide (HM.out _ u HB2.out hu);obtain ⟨A2,c2,rfl⟩:=NodesC.form hu;clear hu hb2;go_wp2_with fail;refine HS.out.mono ?_;rintro e w3 ⟨rfl,hb3⟩;have HB3:=hide (bl_two HB2.out hb3);clear hb3;go_wp2_with fail;go_ret;exact ⟨rfl,HB3.out⟩
theorem serStable_any (v:Value) (T:Tr) (w:World) (hE:EnvX w) (hT:NodesIn w v T) (ha:T.all smallH = true) (hc:T.count < 1000000) (hl:(writeT T).length <= 8000000) :
  Calls Tryz.prog 9 #[v] w fun e w'=>e = .returned (.bool (stableB T)) /\ Below w.heap.size w w' :=
 serStableW_any v T w hE hT (small_wides ha) hc hl
def txH (x:List UInt8):NdH:=⟨[],[],x⟩
theorem node_at {w:World} {g o:Nat} {cs:Array Value} {T:TypeId} {fz:Nat × Nat} (hb:w.heap[g]? = some (Obj.cells cs T fz)) {h:NdH} {K R:Tr} {av kv:Value} (c0:cs[o]? = some (.string (str h.name))) (c1:cs[o + 1]? = some av) (c2:cs[o + 2]? = some (.string (str h.text))) (c3:cs[o + 3]? = some kv)
  (ha:AttrsC (fun b=>b < w.heap.size) w av h.attrs) (hk:NodesIn w kv K) (hr:NodesAt (fun b=>b < w.heap.size) w R ⟨g,o + 4,none⟩):NodesAt (fun b=>b < w.heap.size) w (.cons h K R) ⟨g,o,none⟩:=by
 refine ⟨lt_of_block hb,(Lib.cell_of_heap hb o).trans c0,(Lib.cell_of_heap hb (o + 2)).trans c2,⟨av,(Lib.cell_of_heap hb (o + 1)).trans c1,ha⟩,⟨kv,(Lib.cell_of_heap hb (o + 3)).trans c3,hk⟩,?_⟩;rw [Addr.add_lit];exact hr
theorem nodes_of {w:World} {g n:Nat} {t:Tr} (h:NodesAt (fun b=>b < w.heap.size) w t ⟨g,0,none⟩) (hn:t.len = n) (hm:n <= maxLen):NodesIn w (.slice (some ⟨g,0,none⟩) n n) t:=by
 subst hn;exact .inr ⟨⟨g,0,none⟩,_,rfl,Nat.le_refl _,hm,h⟩
theorem no_nodes (w:World):NodesIn w (.slice none 0 0) .nil:=.inl ⟨rfl,rfl⟩
theorem no_attrs {C:Nat -> Prop} (w:World):AttrsC C w (.slice none 0 0) []:=⟨.inl ⟨rfl,rfl⟩,fun a n c e=>(by cases e)⟩
theorem some_attrs {w:World} {g n:Nat} {T:TypeId} {fz:Nat × Nat} (l:List AtL) (h:w.heap[g]? = some (.cells (atVals l).toArray T fz)) (hn:l.length = n) (hl:n <= maxLen):AttrsC (fun b=>b < w.heap.size) w (.slice (some ⟨g,0,none⟩) n n) l:=by
 subst hn;refine ⟨attrs_lit l h hl,fun a n c e _=>?_⟩;injection e with e _ _;injection e with e;rw [<- e];exact lt_of_block h
def live15a:List UInt8:=[60,112,32,120,61,34,38,113,117,111,116,59,34,62,97,38,108,116,59,98,60,98,114,62,60,47,112,62,60,115,116,121,108,101,62,60,38,60,47,115,116,121,108,101,62]
def t15a:Tr:=.cons ⟨[112],[([120],[34])],[]⟩ (.cons (txH [97,60,98]) .nil (.cons ⟨[98,114],[],[]⟩ .nil .nil)) (.cons ⟨[115,116,121,108,101],[],[]⟩ (.cons (txH [60,38]) .nil .nil) .nil)
def t15b:Tr:=.cons ⟨[112],[],[]⟩ (.cons ⟨[112],[],[]⟩ .nil .nil) .nil
theorem w15a:writeT t15a = live15a:=by decide +kernel
theorem x15a:textT t15a = [97,60,98,60,38]:=by decide +kernel
theorem s15a:stableB t15a = true:=by decide +kernel
theorem s15b:stableB t15b = false:=by decide +kernel
theorem small15:t15a.all smallH = true /\ t15b.all smallH = true /\ (writeT t15b).length <= 8000000:=by decide +kernel
def l15a0:Array Value:=#[.string ⟨#[120]⟩,.string ⟨#[34]⟩]
def l15a1:Array Value:=#[.string ⟨#[]⟩,.slice none 0 0,.string ⟨#[97,60,98]⟩,.slice none 0 0,.string ⟨#[98,114]⟩,.slice none 0 0,.string ⟨#[]⟩,.slice none 0 0]
def l15a2:Array Value:=#[.string ⟨#[]⟩,.slice none 0 0,.string ⟨#[60,38]⟩,.slice none 0 0]
def l15a3 (n:Nat):Array Value:=#[.string ⟨#[112]⟩,.slice (some ⟨n,0,none⟩) 1 1,.string ⟨#[]⟩,.slice (some ⟨n + 1,0,none⟩) 2 2,.string ⟨#[115,116,121,108,101]⟩,.slice none 0 0,.string ⟨#[]⟩,.slice (some ⟨n + 1 + 1,0,none⟩) 1 1]
def l15W (w:World):World:=(((w.alloc (.cells l15a0 43)).alloc (.cells l15a1 33)).alloc (.cells l15a2 33)).alloc (.cells (l15a3 w.heap.size) 33)
theorem l15_blocks (w:World):(l15W w).heap[w.heap.size]? = some (Obj.cells l15a0 43 (0,0)) /\ (l15W w).heap[w.heap.size + 1]? = some (Obj.cells l15a1 33 (0,0)) /\ (l15W w).heap[w.heap.size + 1 + 1]? = some (Obj.cells l15a2 33 (0,0)) /\ (l15W w).heap[w.heap.size + 1 + 1 + 1]? = some (Obj.cells (l15a3 w.heap.size) 33 (0,0)) /\ Below w.heap.size w (l15W w):=by
 have e:(l15W w).heap = (((w.heap.push (.cells l15a0 43)).push (.cells l15a1 33)).push (.cells l15a2 33)).push (.cells (l15a3 w.heap.size) 33):=rfl;have hs:∀ (h:Array Obj) (o:Obj) (k:Nat),k ≠ h.size -> (h.push o)[k]? = h[k]?:=fun h o k hk=>by rw [Array.getElem?_push,if_neg hk]
 have ht:∀ (h:Array Obj) (o:Obj) (k:Nat),k = h.size -> (h.push o)[k]? = some o:=fun h o k hk=>by rw [Array.getElem?_push,if_pos hk]
 refine ⟨?_,?_,?_,?_,⟨rfl,rfl,rfl,?_,fun k hk=>?_⟩⟩
 ·rw [e,hs _ _ _ (by simp only [Array.size_push];omega),hs _ _ _ (by simp only [Array.size_push];omega),hs _ _ _ (by simp only [Array.size_push];omega),ht _ _ _ rfl]
 ·rw [e,hs _ _ _ (by simp only [Array.size_push];omega),hs _ _ _ (by simp only [Array.size_push];omega),ht _ _ _ (by simp only [Array.size_push])]
 ·rw [e,hs _ _ _ (by simp only [Array.size_push];omega),ht _ _ _ (by simp only [Array.size_push])]
 ·rw [e,ht _ _ _ (by simp only [Array.size_push])]
 ·rw [e];simp only [Array.size_push];omega
 ·rw [e,hs _ _ _ (by simp only [Array.size_push];omega),hs _ _ _ (by simp only [Array.size_push];omega),hs _ _ _ (by simp only [Array.size_push];omega),hs _ _ _ (by omega)]
theorem live15_lit (w:World):NodesIn (l15W w) (.slice (some ⟨w.heap.size + 1 + 1 + 1,0,none⟩) 2 2) t15a:=by
 obtain ⟨b0,b1,b2,b3,_⟩:=l15_blocks w
 have k1:NodesIn (l15W w) (.slice (some ⟨w.heap.size + 1,0,none⟩) 2 2) (.cons (txH [97,60,98]) .nil (.cons ⟨[98,114],[],[]⟩ .nil .nil)) :=
  nodes_of (node_at b1 rfl rfl rfl rfl (no_attrs _) (no_nodes _) (node_at b1 rfl rfl rfl rfl (no_attrs _) (no_nodes _) trivial)) rfl (by decide)
 have k2:NodesIn (l15W w) (.slice (some ⟨w.heap.size + 1 + 1,0,none⟩) 1 1) (.cons (txH [60,38]) .nil .nil):=nodes_of (node_at b2 rfl rfl rfl rfl (no_attrs _) (no_nodes _) trivial) rfl (by decide);have k0:AttrsC (fun b=>b < (l15W w).heap.size) (l15W w) (.slice (some ⟨w.heap.size,0,none⟩) 1 1) [([120],[34])]:=some_attrs [([120],[34])] b0 rfl (by decide);exact nodes_of (node_at b3 rfl rfl rfl rfl k0 k1 (node_at b3 rfl rfl rfl rfl (no_attrs _) k2 trivial)) rfl (by decide)
def l15b0:Array Value:=#[.string ⟨#[112]⟩,.slice none 0 0,.string ⟨#[]⟩,.slice none 0 0]
def l15b1 (n:Nat):Array Value:=#[.string ⟨#[112]⟩,.slice none 0 0,.string ⟨#[]⟩,.slice (some ⟨n,0,none⟩) 1 1]
def l15bW (w:World):World:=(w.alloc (.cells l15b0 33)).alloc (.cells (l15b1 w.heap.size) 33)
theorem l15b_blocks (w:World):(l15bW w).heap[w.heap.size]? = some (Obj.cells l15b0 33 (0,0)) /\ (l15bW w).heap[w.heap.size + 1]? = some (Obj.cells (l15b1 w.heap.size) 33 (0,0)) /\ Below w.heap.size w (l15bW w):=by
 have e:(l15bW w).heap = (w.heap.push (.cells l15b0 33)).push (.cells (l15b1 w.heap.size) 33):=rfl;have hs:∀ (h:Array Obj) (o:Obj) (k:Nat),k ≠ h.size -> (h.push o)[k]? = h[k]?:=fun h o k hk=>by rw [Array.getElem?_push,if_neg hk]
 have ht:∀ (h:Array Obj) (o:Obj) (k:Nat),k = h.size -> (h.push o)[k]? = some o:=fun h o k hk=>by rw [Array.getElem?_push,if_pos hk]
 refine ⟨?_,?_,⟨rfl,rfl,rfl,?_,fun k hk=>?_⟩⟩
 ·rw [e,hs _ _ _ (by simp only [Array.size_push];omega),ht _ _ _ rfl]
 ·rw [e,ht _ _ _ (by simp only [Array.size_push])]
 ·rw [e];simp only [Array.size_push];omega
 ·rw [e,hs _ _ _ (by simp only [Array.size_push];omega),hs _ _ _ (by omega)]
theorem live15b_lit (w:World):NodesIn (l15bW w) (.slice (some ⟨w.heap.size + 1,0,none⟩) 1 1) t15b:=by
 obtain ⟨b0,b1,_⟩:=l15b_blocks w;have k1:NodesIn (l15bW w) (.slice (some ⟨w.heap.size,0,none⟩) 1 1) (.cons ⟨[112],[],[]⟩ .nil .nil):=nodes_of (node_at b0 rfl rfl rfl rfl (no_attrs _) (no_nodes _) trivial) rfl (by decide);exact nodes_of (node_at b1 rfl rfl rfl rfl (no_attrs _) k1 trivial) rfl (by decide)
theorem live15_any (w:World) (hE:EnvX w):Calls Tryz.prog 19 #[] w fun e w'=>e = .returned (.bool true) /\ Below w.heap.size w w':=by
 have hl:=(l15_blocks w).2.2.2.2;have hn:=live15_lit w
 have HK:Hid (∀ w',Below (l15W w).heap.size (l15W w) w' -> Calls Tryz.prog 23 #[.slice (some ⟨w.heap.size + 1 + 1 + 1,0,none⟩) 2 2] w' (fun e w''=>e = .returned (.string ⟨#[97,60,98,60,38]⟩) /\ Below w'.heap.size w' w'') /\
   Calls Tryz.prog 21 #[.slice (some ⟨w.heap.size + 1 + 1 + 1,0,none⟩) 2 2] w' (fun e w''=>e = .returned (.string ⟨live15a.toArray⟩) /\ Below w'.heap.size w' w'') /\
   Calls Tryz.prog 9 #[.slice (some ⟨w.heap.size + 1 + 1 + 1,0,none⟩) 2 2] w' (fun e w''=>e = .returned (.bool true) /\ Below w'.heap.size w' w'') /\ EnvX w' /\ Below w.heap.size w w'):=hide (fun w' hb=>by
  have hE':=(hE.kept hl).kept hb;have hn':=hn.kept hb;refine ⟨?_,?_,?_,hE',bl_two hl hb⟩
  ·have:=serText_any _ t15a w' hn' (by decide) (by rw [x15a];decide);rw [x15a] at this;exact this
  ·have:=serWrite_any _ t15a w' hE' hn' small15.1 (by decide) (by rw [w15a];decide);rw [w15a] at this;exact this
  ·have:=serStable_any _ t15a w' hE' hn' small15.1 (by decide) (by rw [w15a];decide);rw [s15a] at this;exact this)
 have HB0:=hide (Below.refl (l15W w).heap.size (l15W w));have hlw:live15a.toArray = #[60,112,32,120,61,34,38,113,117,111,116,59,34,62,97,38,108,116,59,98,60,98,114,62,60,47,112,62,60,115,116,121,108,101,62,60,38,60,47,115,116,121,108,101,62]:=rfl;rw [hlw] at HK;clear hl hn hE hlw;go_enter Tryz.func19,Tryz.ntmps19;go_wp2_with fail;refine (HK.out _ HB0.out).2.1.mono ?_;rintro e w1 ⟨rfl,hb1⟩;have HB1:=hide (bl_two HB0.out hb1);clear hb1;go_wp2_with fail;refine (HK.out _ HB1.out).1.mono ?_;rintro e w2 ⟨rfl,hb2⟩;have HB2:=hide (bl_two HB1.out hb2);clear hb2;go_wp2_with fail;refine (HK.out _ HB2.out).2.2.1.mono ?_;rintro e w3 ⟨rfl,hb3⟩;have HB3:=hide (bl_two HB2.out hb3);clear hb3;have HE3:=hide (HK.out _ HB3.out).2.2.2.1;have HL3:=hide (HK.out _ HB3.out).2.2.2.2;obtain ⟨b0,b1,hl⟩:=l15b_blocks w3;have HLB:=hide hl;have HSB:=hide (serStable_any _ t15b (l15bW w3) (HE3.out.kept hl) (live15b_lit w3) small15.2.1 (by decide) small15.2.2);rw [s15b] at HSB;clear b0 b1 hl;go_wp2_with fail;refine HSB.out.mono ?_;rintro e w4 ⟨rfl,hb4⟩;have HB4:=hide (bl_two (bl_two HL3.out HLB.out) hb4);clear hb4;go_wp2_with fail;go_ret;exact ⟨rfl,HB4.out⟩
def cntL:List (NdH × Tr) -> Nat
  | []=>0
  | p :: r=>1 + p.2.count + cntL r
theorem cntL_list (T:Tr):T.count = cntL T.list:=by induction T with
 | nil=>rfl
 | cons h K R _ ih=>simp only [Tr.count,Tr.list,cntL,ih]
theorem cntL_snoc (l:List (NdH × Tr)) (p:NdH × Tr):cntL (l ++ [p]) = cntL l + (1 + p.2.count):=by induction l with
 | nil=>simp [cntL]
 | cons q r ih=>simp only [List.cons_append,cntL,ih];omega
def smL (l:List (NdH × Tr)):Prop:=∀ p ∈ l,smallH p.1 = true /\ p.2.all smallH = true
theorem smL_all (T:Tr) (h:smL T.list):T.all smallH = true:=by induction T with
 | nil=>rfl
 | cons g K R _ ih =>
  have h0:=h (g,K) (by simp [Tr.list]);simp only [Tr.all,Bool.and_eq_true];exact ⟨h0.1,h0.2,ih (fun p hp=>h p (by simp [Tr.list,hp]))⟩
def WalkP (d:Nat):Prop:=∀ (v:Value) (T:Tr) (w:World),NodesIn w v T -> T.len <= maxLen ->
    Calls Tryz.prog 52 #[v,.int .i64 (d:Int)] w fun e w'=>∃ n:Nat,e = .returned (.int .i64 (n:Int)) /\ n <= 61 * (d + 1) /\ (n <= 60 -> T.count = n /\ T.all smallH = true) /\ Below w.heap.size w w'
theorem walk_step (d:Nat) (hd:d <= 40) (IH:∀ e,d = e + 1 -> WalkP e):WalkP d:=by
 intro v T w hT hm;obtain ⟨A,c,rfl⟩:=NodesC.form hT;unfold maxLen at hm;have H:=hide hT;have HIH:=hide IH;clear hT IH
 by_cases h0:T.len = 0
 ·have hz:T = .nil:=by cases T with | nil=>rfl | cons _ _ _=>simp [Tr.len] at h0
  subst hz;clear H HIH h0;have hkl:Tr.len .nil = 0:=rfl;rw [hkl];go_enter Tryz.func52,Tryz.ntmps52;go_wp2_with fail;go_ret;exact ⟨0,rfl,Nat.zero_le _,fun _=>⟨rfl,rfl⟩,Below.refl _ _⟩
 have z0:((T.len:Int) == 0) = false:=by rw [beq_eq_false_iff_ne];omega
 by_cases hb:d = 0 \/ 60 < T.len
 ·have HR:Hid ((61:Nat) <= 61 * (d + 1)):=hide (by omega)
  by_cases hd0:d = 0
  ·subst hd0;go_enter Tryz.func52,Tryz.ntmps52;go_wp2_with fail;go_ret;exact ⟨61,rfl,HR.out,fun h=>by omega,Below.refl _ _⟩
  ·have z1:decide ((60:Int) < T.len) = true:=decide_eq_true (by omega);have z2:((d:Int) == 0) = false:=by rw [beq_eq_false_iff_ne];omega
   have z3:60 < T.len:=by omega
   go_enter Tryz.func52,Tryz.ntmps52;go_wp2_with fail;go_ret;exact ⟨61,rfl,HR.out,fun h=>by omega,Below.refl _ _⟩
 have hl:T.len <= 60:=by omega
 obtain ⟨d',hdd⟩:∃ e,d = e + 1:=⟨d - 1,by omega⟩
 have HW:=hide (HIH.out d' hdd);subst hdd;have z1:decide ((60:Int) < T.len) = false:=decide_eq_false (by omega);have z2:((d':Int) + 1 == 0) = false:=by rw [beq_eq_false_iff_ne];omega
 clear hb HIH;rw [show (((d' + 1:Nat):Int)) = (d':Int) + 1 from by omega];go_enter Tryz.func52,Tryz.ntmps52;go_wp2_with fail;go_loopw [5,6] (fun nv i wr=>∃ k m:Nat,k <= T.len /\ i = .int .i64 k /\ nv = .int .i64 m /\ m <= 61 * (d' + 1 + 1) /\ Hid (m <= 60 -> cntL (T.list.take k) = m /\ smL (T.list.take k)) /\ Hid (Below w.heap.size w wr)) (fun _ i _=>T.len - (intOf i).toNat)
 case atStart=>exact ⟨0,0,Nat.zero_le _,rfl,rfl,Nat.zero_le _,hide (fun _=>⟨rfl,fun p hp=>by simp at hp⟩),hide (Below.refl _ _)⟩
 case round =>
  obtain ⟨k,m,hk,rfl,rfl,hmb,HC,HB⟩:=hrel
  by_cases hlt:k < T.len
  ·by_cases hm6:m <= 60
   ·have y1:decide ((m:Int) <= 60) = true:=decide_eq_true (by omega);obtain ⟨⟨f,K⟩,hf⟩:∃ f,T.list[k]? = some f:=⟨_,List.getElem?_eq_getElem (by rw [Tr.len_list];exact hlt)⟩
    have hI1:=H.out.kept HB.out;obtain ⟨a,dd,x,y,zz,mm,ha,-,p1,p2,hA,p3,p4,hmm,hK⟩:=NodesC.at hI1 k f K hf;subst ha hmm;have hKl:K.len <= maxLen:=by have:=hK.cap;omega
    obtain ⟨X1,hX1⟩:∃ X,X = str f.name:=⟨_,rfl⟩
    obtain ⟨X2,hX2⟩:∃ X,X = str f.text:=⟨_,rfl⟩
    have e1:X1.size = f.name.length:=by rw [hX1,str_size]
    have e2:X2.size = f.text.length:=by rw [hX2,str_size]
    rw [<- hX1] at p1;rw [<- hX2] at p3;have HCW:=hide (HW.out _ K wr hK hKl);have HAT:=hide hA.1;have HF:=hide hf;have HE1:=hide e1;have HE2:=hide e2;have HR:Hid ((61:Nat) <= 61 * (d' + 1 + 1)):=hide (by omega);clear hf hI1 hA hK hX1 hX2 e1 e2 hKl
    by_cases b1:300 < X1.size
    ·have y2:decide ((300:Int) < X1.size) = true:=decide_eq_true (by omega);go_wp2_with fail;go_ret;exact ⟨61,rfl,HR.out,fun h=>by omega,HB.out⟩
    have y2:decide ((300:Int) < X1.size) = false:=decide_eq_false (by omega)
    by_cases b2:300 < X2.size
    ·have y3:decide ((300:Int) < X2.size) = true:=decide_eq_true (by omega);go_wp2_with fail;go_ret;exact ⟨61,rfl,HR.out,fun h=>by omega,HB.out⟩
    have y3:decide ((300:Int) < X2.size) = false:=decide_eq_false (by omega)
    by_cases b3:40 < f.attrs.length
    ·have y4:decide ((40:Int) < f.attrs.length) = true:=decide_eq_true (by omega);go_wp2_with fail;go_ret;exact ⟨61,rfl,HR.out,fun h=>by omega,HB.out⟩
    have y4:decide ((40:Int) < f.attrs.length) = false:=decide_eq_false (by omega);go_wp2_with fail;go_loopw [7] (fun iv w2=>∃ j:Nat,j <= f.attrs.length /\ iv = .int .i64 j /\ Hid (w2 = wr) /\ Hid ((f.attrs.take j).all fitA = true)) (fun iv _=>f.attrs.length - (intOf iv).toNat)
    case atStart=>exact ⟨0,Nat.zero_le _,rfl,hide rfl,hide (by simp)⟩
    case round =>
     obtain ⟨j,hj,rfl,HWE,HJ⟩:=hrel;obtain rfl:=HWE.out
     by_cases hjl:j < f.attrs.length
     ·obtain ⟨q,hq⟩:∃ q,f.attrs[j]? = some q:=⟨_,List.getElem?_eq_getElem hjl⟩
      obtain ⟨b,hb,r1,r2⟩:=HAT.out.at j q hq;subst hb;obtain ⟨X3,hX3⟩:∃ X,X = str q.1:=⟨_,rfl⟩
      obtain ⟨X4,hX4⟩:∃ X,X = str q.2:=⟨_,rfl⟩
      have e3:X3.size = q.1.length:=by rw [hX3,str_size]
      have e4:X4.size = q.2.length:=by rw [hX4,str_size]
      rw [<- hX3] at r1;rw [<- hX4] at r2;have HE3:=hide e3;have HE4:=hide e4;have HQ:=hide hq;clear hX3 hX4 e3 e4 hq
      by_cases b4:300 < X3.size
      ·have y5:decide ((300:Int) < X3.size) = true:=decide_eq_true (by omega);go_wp2_with fail;go_ret;exact ⟨61,rfl,HR.out,fun h=>by omega,HB.out⟩
      have y5:decide ((300:Int) < X3.size) = false:=decide_eq_false (by omega)
      by_cases b5:300 < X4.size
      ·have y6:decide ((300:Int) < X4.size) = true:=decide_eq_true (by omega);go_wp2_with fail;go_ret;exact ⟨61,rfl,HR.out,fun h=>by omega,HB.out⟩
      have y6:decide ((300:Int) < X4.size) = false:=decide_eq_false (by omega)
      have HJ2:Hid ((f.attrs.take (j + 1)).all fitA = true):=hide (by
       rw [List.take_add_one,HQ.out,Option.toList_some,List.all_append,HJ.out];have h3:=HE3.out;have h4:=HE4.out;simp only [List.all_cons,List.all_nil,Bool.true_and,Bool.and_true,fitA,Bool.and_eq_true,decide_eq_true_eq];exact ⟨by omega,by omega⟩)
      go_wp2_with fail;go_roundw
      case rel=>exact ⟨j + 1,by omega,by go_num,by first | exact hide rfl | exact hide trivial,HJ2⟩
      case measure=>simp [intOf];omega
     ·have HSM:Hid (smallH f = true):=hide (by
       have h:=HJ.out;rw [List.take_of_length_le (by omega)] at h;have h1:=HE1.out;have h2:=HE2.out;unfold smallH fitT;simp only [Bool.and_eq_true,decide_eq_true_eq];exact ⟨by omega,by omega,by omega,h⟩)
      go_wp2_with fail;refine HCW.out.mono ?_;rintro e w3 ⟨n2,rfl,hn2,hn3,hb3⟩;have HN3:=hide hn3;have HB3:=hide (bl_one HB.out hb3);have hm2:m + 1 + n2 <= 61 * (d' + 1 + 1):=by omega
      have HC3:Hid (m + 1 + n2 <= 60 -> cntL (T.list.take (k + 1)) = m + 1 + n2 /\ smL (T.list.take (k + 1))):=hide (fun h=>by
       obtain ⟨c1,c2⟩:=HC.out (by omega);obtain ⟨c3,c4⟩:=HN3.out (by omega);rw [List.take_add_one,HF.out];refine ⟨?_,fun p hp=>?_⟩
       ·rw [Option.toList_some,cntL_snoc,c1,c3];omega
       ·rcases List.mem_append.1 hp with hp | hp
        ·exact c2 p hp
        ·rw [Option.toList_some,List.mem_singleton] at hp;subst hp;exact ⟨HSM.out,c4⟩)
      clear hn3 hb3;go_wp2_with fail;go_roundw
      case rel=>exact ⟨k + 1,m + 1 + n2,by omega,by go_num,by go_num,hm2,HC3,HB3⟩
      case measure=>simp [intOf];omega
   ·have y1:decide ((m:Int) <= 60) = false:=decide_eq_false (by omega);go_wp2_with fail;go_ret;exact ⟨m,rfl,hmb,fun h=>absurd h hm6,HB.out⟩
  ·obtain rfl:k = T.len:=by omega
   have HC2:=HC.out;rw [<- Tr.len_list,List.take_length] at HC2;replace HC2:=hide HC2;go_wp2_with fail;go_ret;exact ⟨m,rfl,hmb,fun h=>⟨(cntL_list T).trans (HC2.out h).1,smL_all T (HC2.out h).2⟩,HB.out⟩
theorem walk_all14:∀ d,d <= 40 -> WalkP d
 | 0,h=>walk_step 0 h (fun e he=>by omega)
 | d + 1,h=>walk_step (d + 1) h (fun e he=>by
   obtain rfl:d = e:=by omega
   exact walk_all14 d (by omega))
theorem small14_any (v:Value) (T:Tr) (w:World) (hT:NodesIn w v T) (hm:T.len <= maxLen) :
  Calls Tryz.prog 18 #[v] w fun e w'=>∃ b:Bool,e = .returned (.bool b) /\ (b = true -> T.count <= 60 /\ T.all smallH = true) /\ Below w.heap.size w w':=by
 have HW:=hide (walk_all14 35 (by omega) v T w hT hm);obtain ⟨A,c,rfl⟩:=NodesC.form hT;clear hT hm;go_enter Tryz.func18,Tryz.ntmps18;go_wp2_with fail;refine HW.out.mono ?_;rintro e w1 ⟨n,rfl,hn,hs,hb⟩;have HS:=hide hs;have HB:=hide hb;clear hs hb hn
 by_cases h6:n <= 60
 ·have y:decide ((n:Int) <= 60) = true:=decide_eq_true (by omega);go_wp2_with fail;go_ret;exact ⟨true,rfl,fun _=>⟨by rw [(HS.out h6).1];exact h6,(HS.out h6).2⟩,HB.out⟩
 ·have y:decide ((n:Int) <= 60) = false:=decide_eq_false (by omega);go_wp2_with fail;go_ret;exact ⟨false,rfl,fun h=>(by cases h),HB.out⟩
theorem nodesAt_vals {C:Nat -> Prop} {w:World} {T:Tr} {a:Addr} (h:NodesAt C w T a):∃ qs:List KidV,qs.map Prod.fst = T.list /\ (∀ (j:Nat) u,(nodeVals qs)[j]? = some u -> w.cell? (a.add j) = some u) /\ ∀ q ∈ qs,AttrsC C w q.2.1 q.1.1.attrs /\ NodesC C w q.2.2 q.1.2:=by
 induction T generalizing a with
 | nil=>exact ⟨[],rfl,fun j u hj=>(by simp [nodeVals] at hj),fun q hq=>(by cases hq)⟩
 | cons f K R ihk ihr =>
  obtain ⟨h0,h1,h2,⟨u,h3,h4⟩,⟨v,h5,h6⟩,h7⟩:=h;obtain ⟨qs,e1,e2,e3⟩:=ihr h7;refine ⟨((f,K),(u,v)) :: qs,by rw [List.map_cons,e1];rfl,fun j x hj=>?_,fun q hq=>?_⟩
  ·have e:nodeVals (((f,K),(u,v)) :: qs) = .string (str f.name) :: u :: .string (str f.text) :: v :: nodeVals qs:=rfl;rw [e] at hj
   match j,hj with
   | 0,hj=>rw [List.getElem?_cons_zero,Option.some.injEq] at hj;subst hj;rw [Addr.add_zero'];exact h1
   | 1,hj=>simp only [List.getElem?_cons_succ,List.getElem?_cons_zero,Option.some.injEq] at hj;subst hj;exact h3
   | 2,hj=>simp only [List.getElem?_cons_succ,List.getElem?_cons_zero,Option.some.injEq] at hj;subst hj;exact h2
   | 3,hj=>simp only [List.getElem?_cons_succ,List.getElem?_cons_zero,Option.some.injEq] at hj;subst hj;exact h5
   | (j + 4),hj =>
    simp only [List.getElem?_cons_succ] at hj;have:=e2 j x hj;rw [Addr.add_add] at this;rw [Nat.add_comm j 4];exact this
  ·rcases List.mem_cons.1 hq with rfl | hq
   ·exact ⟨h4,h6⟩
   ·exact e3 q hq
theorem nodeVals_one (qs:List KidV) (h:∀ q ∈ qs,q.2.1.oneCell' = true /\ q.2.2.oneCell' = true):∀ u ∈ nodeVals qs,u.oneCell' = true:=by
 intro u hu;unfold nodeVals at hu;obtain ⟨q,hq,hu⟩:=List.mem_flatMap.1 hu;obtain ⟨h1,h2⟩:=h q hq;simp only [List.mem_cons,List.not_mem_nil,or_false] at hu;rcases hu with rfl | rfl | rfl | rfl
 ·rfl
 ·exact h1
 ·rfl
 ·exact h2
theorem KRow.nil (C:Nat -> Prop) (B:Nat) (w:World):KRow C B (.slice none 0 0) [] w:=⟨World.ownsRow_nil w B _ 4,fun q h=>(by cases h),fun g e=>(by cases e)⟩
theorem KRow.kept {C:Nat -> Prop} {B:Nat} {v:Value} {ks:List KidV} {w w':World} (h:KRow C B v ks w) (hC:∀ k,C k -> k < w.heap.size) (hb:Below w.heap.size w w'):KRow C B v ks w' :=
 h.turned (row:=none) (grown_none hb) hC (fun k e=>by cases e) (by cases hv:v.ownBlock <;> simp)
theorem KRow.widen {C C':Nat -> Prop} {B:Nat} {v:Value} {ks:List KidV} {w:World} (h:KRow C B v ks w) (hC:∀ b,C b -> C' b) (ho:∀ g,v.ownBlock = some g -> ¬ C' g):KRow C' B v ks w :=
 ⟨h.row,fun q hq=>⟨(h.each q hq).1.mono (fun _ _=>rfl) hC,(h.each q hq).2.mono (fun _ _=>rfl) hC⟩,ho⟩
theorem KRow.slice {C:Nat -> Prop} {B:Nat} {v:Value} {ks:List KidV} {w:World} (h:KRow C B v ks w):∃ A c,v = .slice A ks.length c /\ ks.length <= c:=by
 rcases h.row.2 with ⟨rfl,h0⟩ | ⟨g,cap,cur,rfl,_,_,h1,_⟩
 ·rw [h0];exact ⟨_,_,rfl,Nat.zero_le _⟩
 ·exact ⟨_,_,rfl,h1⟩
theorem attrsC_one {C:Nat -> Prop} {w:World} {v:Value} {l:List AtL} (h:AttrsC C w v l):v.oneCell' = true:=by
 obtain ⟨A,c,rfl⟩:=h.1.form;rfl
theorem nodesC_one {C:Nat -> Prop} {w:World} {v:Value} {T:Tr} (h:NodesC C w v T):v.oneCell' = true:=by
 obtain ⟨A,c,rfl⟩:=h.form;rfl
theorem run_append_none (w:World) (ty:TypeId) (A:Option Addr) (n c:Nat) (hn:n <= c) :
  (Builtin.append_ #[23,23] ty #[.slice A n c,.slice none 0 0]).run Tryz.prog w = .ok (.slice A n c) w:=by
 obtain ⟨i0,hi,hz0,hz1,hz2⟩:=info_parts info_nd14;cases A with
 | none=>simp [Builtin.append_,run_underlying Tryz.underlying23,sizeOf,typeInfo,hi,Builtin.lenOf,Builtin.firstCells,hn]
 | some a=>simp [Builtin.append_,run_underlying Tryz.underlying23,sizeOf,typeInfo,hi,Builtin.lenOf,Builtin.firstCells,hn,storeCells]
theorem wpList_nodes {ops:Array Oper} {rest:List Oper} {o:Oper} {a:Act} {Q:Exit -> Act -> World -> Prop} {w:World} (hgd:o.guard = none) (s x:Operand)
  (ho:o.op = .call { callee:=.builtin .append,args:=#[s,x],argTypes:=#[23,23] })
  (C:Nat -> Prop) (B:Nat) (v:Value) (ks:List KidV) (hs:a.eval s = v) (hk:KRow C B v ks w) (hC:∀ k,C k -> k < w.heap.size) (hB:B <= w.heap.size)
  (u:Value) (hx:a.eval x = u) (T:Tr) (hu:NodesC C w u T) (hlen:ks.length + T.len <= 1073741824)
  (h:∀ v' qs w',KRow C B v' (ks ++ qs) w' -> qs.map Prod.fst = T.list -> w.grownBy w' v.ownBlock -> (v'.ownBlock = v.ownBlock \/ v'.ownBlock = some w.heap.size) -> wpList Tryz.prog ops Q rest (a.put o.dst v') w'):wpList Tryz.prog ops Q (o :: rest) a w:=by
 obtain ⟨i0,hi,hz0,hz1,hz2⟩:=info_parts info_nd14;rcases hu with ⟨rfl,rfl⟩ | ⟨ad,cap,rfl,hl1,hl2,hat⟩
 ·refine wpList_plain hgd fun K hK=>?_
  obtain ⟨A,c,hv,hnc⟩:=hk.slice;have hr:=run_append_none w o.type A ks.length c hnc;rw [<- hv] at hr;unfold Oper.wp execOp;simp only [ho,resolve,invoke,builtin,Sem.run_bind,Sem.run_pure,Result.andThen_ok,List.map_toArray,List.map_cons,List.map_nil,hs,hx,hr];exact hK _ _ (h v [] w (by rw [List.append_nil];exact hk) rfl ⟨rfl,rfl,rfl,Nat.le_refl _,fun _ _ _=>rfl⟩ (.inl rfl))
 ·obtain ⟨qs,e1,e2,e3⟩:=nodesAt_vals hat;have hql:qs.length = T.len:=by rw [<- Tr.len_list,<- e1,List.length_map]
  refine wpList_append_own2 _ hgd s x 23 ho B 33 i0 (.agg #[.string ByteArray.empty,.slice none 0 0,.string ByteArray.empty,.slice none 0 0]) 4 80 Tryz.underlying23 hi hz0 hz1 hz2 rfl (by decide) v ks.length (nodeVals ks) hs hk.row ad T.len cap (nodeVals qs) hx (by rw [nodeVals_length,hql]) e2 (nodeVals_one qs fun q hq=>⟨attrsC_one (e3 q hq).1,nodesC_one (e3 q hq).2⟩) (by unfold maxLen;omega) (by omega) hB ?_;intro v' w' ho' hg hor;refine h v' qs w' ⟨by rw [nodeVals_append,List.length_append,hql];exact ho',fun q hq=>?_,fun g hg2 hCg=>?_⟩ e1 hg hor
  ·have hkk:∀ b,C b -> w'.heap[b]? = w.heap[b]?:=fun b hb=>hg.block b (hC b hb) (fun e=>hk.out b e.symm hb)
   rcases List.mem_append.1 hq with hq | hq
   ·exact ⟨(hk.each q hq).1.mono hkk (fun _ x=>x),(hk.each q hq).2.mono hkk (fun _ x=>x)⟩
   ·exact ⟨(e3 q hq).1.mono hkk (fun _ x=>x),(e3 q hq).2.mono hkk (fun _ x=>x)⟩
  ·rcases hor with e | e
   ·exact hk.out g (by rw [<- e];exact hg2) hCg
   ·rw [e] at hg2;injection hg2 with hg2;exact absurd (hC g hCg) (by omega)
theorem Tr.of_app (a b:List (NdH × Tr)):Tr.of (a ++ b) = (Tr.of a).app (Tr.of b):=by
 apply Tr.list_inj;rw [Tr.list_app,Tr.list_of,Tr.list_of,Tr.list_of]
theorem attrs_cells {w:World} {A:Option Addr} {n c:Nat} {l:List AtL} (h:AttrsIn w (.slice A n c) l):(A = none /\ n = 0 /\ c = 0 /\ l = []) \/ ∃ a,A = some a /\ n = l.length /\ ∀ (j:Nat) u,(atVals l)[j]? = some u -> w.cell? (a.add j) = some u:=by
 rcases h with ⟨h1,h2⟩ | ⟨a,cap,h1,_,_,h4⟩
 ·injection h1 with e1 e2 e3;exact .inl ⟨e1,e2,e3,h2⟩
 ·injection h1 with e1 e2 e3;refine .inr ⟨a,e1,e2,fun j u hj=>?_⟩;have hl:=atVals_length l
  have hjl:j < l.length * 2:=by
   rw [<- hl];exact (List.getElem?_eq_some_iff.1 hj).1
  obtain ⟨f,hf⟩:∃ f,l[j / 2]? = some f:=⟨_,List.getElem?_eq_getElem (by omega)⟩
  obtain ⟨c0,c1⟩:=h4 (j / 2) f hf;obtain ⟨v0,v1⟩:=atVals_at hf;rcases Nat.mod_two_eq_zero_or_one j with hm | hm
  ·rw [show j = j / 2 * 2 by omega] at hj ⊢;rw [v0] at hj;injection hj with hj;subst hj;exact c0
  ·rw [show j = j / 2 * 2 + 1 by omega] at hj ⊢;rw [v1] at hj;injection hj with hj;subst hj;exact c1
theorem atVals_one (l:List AtL):∀ u ∈ atVals l,u.oneCell' = true:=by
 intro u hu;unfold atVals at hu;obtain ⟨q,hq,hu⟩:=List.mem_flatMap.1 hu;simp only [List.mem_cons,List.not_mem_nil,or_false] at hu;rcases hu with rfl | rfl <;> rfl
theorem run_append_noneA (w:World) (ty:TypeId) (A:Option Addr) (n c:Nat) (hn:n <= c) :
  (Builtin.append_ #[31,31] ty #[.slice A n c,.slice none 0 0]).run Tryz.prog w = .ok (.slice A n c) w:=by
 obtain ⟨i0,hi,hz0,hz1,hz2⟩:=info_parts info_at;cases A with
 | none=>simp [Builtin.append_,run_underlying Tryz.underlying31,sizeOf,typeInfo,hi,Builtin.lenOf,Builtin.firstCells,hn]
 | some a=>simp [Builtin.append_,run_underlying Tryz.underlying31,sizeOf,typeInfo,hi,Builtin.lenOf,Builtin.firstCells,hn,storeCells]
theorem wpList_attrs0 {ops:Array Oper} {rest:List Oper} {o:Oper} {a:Act} {Q:Exit -> Act -> World -> Prop} {w:World} (hgd:o.guard = none) (s x:Operand)
  (ho:o.op = .call { callee:=.builtin .append,args:=#[s,x],argTypes:=#[31,31] })
  (B:Nat) (A0:Option Addr) (hs:a.eval s = .slice A0 0 0) (hown:w.ownsRow B 43 2 (.slice A0 0 0) 0 []) (hB:B <= w.heap.size)
  (u:Value) (hx:a.eval x = u) (l:List AtL) (hu:AttrsIn w u l) (hlen:l.length <= 1073741824)
  (h:∀ v' w',w'.ownsRow B 43 2 v' l.length (atVals l) -> w.grownBy w' (Value.slice A0 0 0).ownBlock -> (v'.ownBlock = (Value.slice A0 0 0).ownBlock \/ v'.ownBlock = some w.heap.size) -> wpList Tryz.prog ops Q rest (a.put o.dst v') w'):wpList Tryz.prog ops Q (o :: rest) a w:=by
 obtain ⟨i0,hi,hz0,hz1,hz2⟩:=info_parts info_at;obtain ⟨A,c,rfl⟩:=hu.form;rcases attrs_cells hu with ⟨rfl,e2,rfl,rfl⟩ | ⟨ad,rfl,e2,hc⟩
 ·refine wpList_plain hgd fun K hK=>?_
  have hr:=run_append_noneA w o.type A0 0 0 (Nat.le_refl _);unfold Oper.wp execOp;simp only [ho,resolve,invoke,builtin,Sem.run_bind,Sem.run_pure,Result.andThen_ok,List.map_toArray,List.map_cons,List.map_nil,hs,hx,List.length_nil,hr];exact hK _ _ (h _ w hown ⟨rfl,rfl,rfl,Nat.le_refl _,fun _ _ _=>rfl⟩ (.inl rfl))
 ·refine wpList_append_own2 _ hgd s x 31 ho B 43 i0 (.agg #[.string ByteArray.empty,.string ByteArray.empty]) 2 32 Tryz.underlying31 hi hz0 hz1 hz2 rfl (by decide) (.slice A0 0 0) 0 [] hs hown ad l.length c (atVals l) hx (atVals_length l) hc (atVals_one l) (by unfold maxLen;omega) (by omega) hB ?_;intro v' w' ho' hg hor;refine h v' w' ?_ hg hor;rw [Nat.zero_add,List.nil_append] at ho';exact ho'
def NewB (B:Nat) (w:World):Nat -> Prop:=fun b=>B <= b /\ b < w.heap.size
def CopyC (B:Nat) (v:Value) (w:World):Nat -> Prop:=fun b=>B <= b /\ b < w.heap.size /\ v.ownBlock ≠ some b
theorem box_own (w:World) (a b c d:Value):(w.alloc (.cells #[a,b,c,d] 33)).ownsRow w.heap.size 33 4 (.slice (some ⟨w.heap.size,0,none⟩) 1 1) 1 [a,b,c,d] :=
 ⟨rfl,.inr ⟨w.heap.size,1,#[a,b,c,d],rfl,Nat.le_refl _,heap_alloc_new w _,Nat.le_refl _,by decide,rfl,rfl⟩⟩
theorem copy_ready {B:Nat} {v v1 u2:Value} {ks:List KidV} {wr w5:World} {f:NdH} {K:Tr} (hk:KRow (CopyC B v wr) B v ks wr) (hb:Below wr.heap.size wr w5) (hB:B <= wr.heap.size)
  (ho:w5.ownsRow (wr.heap.size + 1) 43 2 v1 f.attrs.length (atVals f.attrs)) (hn:NodesC (NewB wr.heap.size w5) w5 u2 K) :
  KRow (CopyC B v (w5.alloc (.cells #[.string (str f.name),v1,.string (str f.text),u2] 33))) B v ks (w5.alloc (.cells #[.string (str f.name),v1,.string (str f.text),u2] 33)) /\
  NodesC (CopyC B v (w5.alloc (.cells #[.string (str f.name),v1,.string (str f.text),u2] 33))) (w5.alloc (.cells #[.string (str f.name),v1,.string (str f.text),u2] 33)) (.slice (some ⟨w5.heap.size,0,none⟩) 1 1) (.cons f K .nil):=by
 obtain ⟨W,hW⟩:∃ W,W = w5.alloc (.cells #[.string (str f.name),v1,.string (str f.text),u2] 33):=⟨_,rfl⟩
 rw [<- hW];have hbW:Below w5.heap.size w5 W:=by rw [hW];exact below_one w5 _
 have hzW:W.heap.size = w5.heap.size + 1:=by rw [hW,World.size_alloc]
 have hblk:W.heap[w5.heap.size]? = some (.cells #[.string (str f.name),v1,.string (str f.text),u2] 33 (0,0)):=by rw [hW];exact heap_alloc_new w5 _
 have hs:=hb.size;have hown:∀ k,v.ownBlock = some k -> k < wr.heap.size:=fun k e=>(hk.row.lt k e).2
 constructor
 ·exact (hk.kept (fun k hk2=>hk2.2.1) (bl_two hb hbW)).widen (fun b hb2=>⟨hb2.1,by have:=hb2.2.1;omega,hb2.2.2⟩) (fun g e hg2=>hg2.2.2 e)
 ·have hA:AttrsC (CopyC B v W) W v1 f.attrs:=by
   have ho6:W.ownsRow (wr.heap.size + 1) 43 2 v1 f.attrs.length (atVals f.attrs):=ho.kept (grown_none hbW) (by cases hv:v1.ownBlock <;> simp);refine ⟨attrs_of_row ho6,fun a n c e hl=>?_⟩;have hl2:=ho6.lt a.block (by rw [e];rfl);exact ⟨by omega,hl2.2,fun e2=>by have:=hown _ e2;omega⟩
  have hN:NodesC (CopyC B v W) W u2 K:=hn.mono (fun b hb2=>hbW.block b hb2.2) (fun b hb2=>⟨Nat.le_trans hB hb2.1,by have:=hb2.2;omega,fun e=>by have h1:=hown b e;have h2:=hb2.1;omega⟩);exact .inr ⟨⟨w5.heap.size,0,none⟩,1,rfl,Nat.le_refl _,by decide,⟨⟨by show B <= w5.heap.size;omega,by show w5.heap.size < _;omega,fun e=>by have h1:=hown _ e;simp only at h1;omega⟩,(Lib.cell_of_heap hblk 0).trans rfl,(Lib.cell_of_heap hblk 2).trans rfl,⟨_,(Lib.cell_of_heap hblk 1).trans rfl,hA⟩,⟨_,(Lib.cell_of_heap hblk 3).trans rfl,hN⟩,trivial⟩⟩
def CopyP (N:Nat):Prop:=∀ (v:Value) (T:Tr) (w:World),T.count < N -> T.count <= 1000000 -> NodesIn w v T -> T.all attrsFew = true ->
    Calls Tryz.prog 20 #[v] w fun e w'=>∃ u,e = .returned u /\ NodesC (NewB w.heap.size w') w' u T /\ Below w.heap.size w w'
theorem copy_step (N : Nat) (IH : CopyP N) : CopyP (N + 1) := by
  intro v T w hN hc hT ha
  have hlen := Tr.len_count T
  obtain ⟨A, c, rfl⟩ := NodesC.form hT
  have H := hide hT
  have HIH := hide IH
  have HA := hide ha
  clear hT IH ha
  go_enter Tryz.func20, Tryz.ntmps20
  go_wp2_with fail
  go_loopw [3, 4] (fun ov i wr => ∃ (k : Nat) (ks : List KidV) (A1 : Option Addr) (c1 : Nat), k ≤ T.len ∧ i = .int .i64 k ∧ ov = .slice A1 ks.length c1 ∧ Hid (KRow (CopyC w.heap.size (.slice A1 ks.length c1) wr) w.heap.size (.slice A1 ks.length c1) ks wr) ∧ Hid (ks.map Prod.fst = T.list.take k) ∧ Hid (Below w.heap.size w wr)) (fun _ i _ => T.len - (intOf i).toNat)
  case atStart => exact ⟨0, [], none, 0, Nat.zero_le _, rfl, rfl, hide (KRow.nil _ _ _), hide rfl, hide (Below.refl _ _)⟩
  case round =>
    obtain ⟨k, ks, A1, c1, hk, rfl, rfl, HK, HM, HB⟩ := hrel
    by_cases hlt : k < T.len
    · obtain ⟨⟨f, K⟩, hf⟩ : ∃ f, T.list[k]? = some f := ⟨_, List.getElem?_eq_getElem (by rw [Tr.len_list]; exact hlt)⟩
      have hI1 := H.out.kept HB.out
      obtain ⟨a, dd, x, y, zz, mm, hA, -, p1, p2, hAt, p3, p4, hmm, hK⟩ := NodesC.at hI1 k f K hf
      subst hA hmm
      have hKc := Tr.at_count hf
      obtain ⟨fa1, fa2⟩ := Tr.all_at HA.out hf
      have hal : f.attrs.length ≤ 1048576 := by unfold attrsFew at fa1; exact of_decide_eq_true fa1
      have hb1 := below_one wr (Obj.cells #[.string (str f.name), .slice dd f.attrs.length y, .string (str f.text), .slice x K.len zz] 33)
      have hsz1 : (wr.alloc (Obj.cells #[.string (str f.name), .slice dd f.attrs.length y, .string (str f.text), .slice x K.len zz] 33)).heap.size = wr.heap.size + 1 := World.size_alloc ..
      have HSZ1 := hide hsz1
      have HB1 := hide hb1
      have HAT : Hid (AttrsIn (wr.alloc (Obj.cells #[.string (str f.name), .slice dd f.attrs.length y, .string (str f.text), .slice x K.len zz] 33)) (.slice dd f.attrs.length y) f.attrs) := hide (hAt.1.kept hb1)
      have HKN : Hid (NodesIn wr (.slice x K.len zz) K) := hide hK
      have HF := hide hf
      have HAL : Hid (f.attrs.length ≤ 1073741824) := hide (by omega)
      have HCC : Hid (∀ w', Below wr.heap.size wr w' → Calls Tryz.prog 20 #[.slice x K.len zz] w' fun e w'' => ∃ u, e = .returned u ∧ NodesC (NewB w'.heap.size w'') w'' u K ∧ Below w'.heap.size w' w'') := hide (fun w' hb => HIH.out _ K w' (by show K.count < N; omega) (by show K.count ≤ _; omega) (HKN.out.kept hb) fa2)
      have p2' := (hb1.cell (World.block_lt_of_cell? _ _ p2)).trans p2
      have HP4 := hide p4
      have HBOX := hide (box_own wr (.string (str f.name)) (.slice dd f.attrs.length y) (.string (str f.text)) (.slice x K.len zz))
      clear hI1 hAt hK hf hKc fa1 fa2 hal hb1 hsz1
      go_wp2_with (refine wpList_attrs0 rfl _ _ rfl (wr.heap.size + 1) none rfl (World.ownsRow_nil _ _ _ 2) (Nat.le_of_eq HSZ1.out.symm) _ rfl f.attrs HAT.out HAL.out ?_
                   intro v1 w2 ho2 hg2 hor2
                   obtain ⟨Av, cv, hv1⟩ : ∃ Av cv, v1 = .slice Av f.attrs.length cv := by
                     rcases ho2.2 with ⟨h0, h1⟩ | ⟨g, cap, cur, h0, _⟩
                     · rw [h1]; exact ⟨_, _, h0⟩
                     · exact ⟨_, _, h0⟩
                   subst hv1
                   have hbx := HBOX.out.kept hg2 (.inr (by simp [Value.ownBlock]))
                   have z1 : w2.cell? ⟨wr.heap.size, 1, none⟩ = some (.slice dd f.attrs.length y) := by rw [hbx.cellAt 1 (by decide)]; rfl
                   have zf1 : w2.frozen? ⟨wr.heap.size, 1, none⟩ = false := hbx.frozenAt 1
                   have hb2 : Below wr.heap.size wr w2 := HB1.out.grown hg2 (by rw [HSZ1.out]; omega) (fun k e => by simp [Value.ownBlock] at e)
                   have p42 := (hb2.cell (World.block_lt_of_cell? _ _ HP4.out)).trans HP4.out
                   have HB2 := hide hb2
                   have HO2 := hide ho2
                   have HX2 := hide hbx
                   clear ho2 hg2 hor2 hbx hb2)
      obtain ⟨hr3, hg3⟩ := HX2.out.stored 1 (.slice Av f.attrs.length cv)
      have ho3 := HO2.out.kept hg3 (ownsRow_diff (by decide) HO2.out HX2.out)
      have hb3 : Below wr.heap.size wr (w2.setCell ⟨wr.heap.size, 1, none⟩ (.slice Av f.attrs.length cv)) := HB2.out.setCell (p := ⟨wr.heap.size, 1, none⟩) (Nat.le_refl _) _
      have HCL := hide (HCC.out _ hb3)
      have HR3 := hide hr3
      have HO3 := hide ho3
      have HB3 := hide hb3
      clear hr3 hg3 ho3 hb3 HX2 HO2 HB2 HCC z1 zf1
      refine HCL.out.mono ?_
      rintro e w4 ⟨u2, rfl, hn4, hb4⟩
      obtain ⟨Ak, ck, rfl⟩ := NodesC.form hn4
      have hr4 := HR3.out.kept (grown_none hb4) (by simp [Value.ownBlock])
      have ho4 := HO3.out.kept (grown_none hb4) (by cases Av <;> simp [Value.ownBlock])
      have zc3 : w4.cell? ⟨wr.heap.size, 3, none⟩ = some (.slice x K.len zz) := by rw [hr4.cellAt 3 (by decide)]; rfl
      have zf3 : w4.frozen? ⟨wr.heap.size, 3, none⟩ = false := hr4.frozenAt 3
      obtain ⟨hr5, hg5⟩ := hr4.stored 3 (.slice Ak K.len ck)
      have ho5 := ho4.kept hg5 (ownsRow_diff (by decide) ho4 hr4)
      have HZ : Hid (wr.heap.size < (w2.setCell ⟨wr.heap.size, 1, none⟩ (.slice Av f.attrs.length cv)).heap.size) := hide (HR3.out.lt wr.heap.size rfl).2
      have HN5 : Hid (NodesC (NewB wr.heap.size (w4.setCell ⟨wr.heap.size, 3, none⟩ (.slice Ak K.len ck))) (w4.setCell ⟨wr.heap.size, 3, none⟩ (.slice Ak K.len ck)) (.slice Ak K.len ck) K) := hide (hn4.mono (fun b hb => Below.heap_setCell w4 ⟨wr.heap.size, 3, none⟩ _ b (fun e => by have h1 := hb.1; have h2 := HZ.out; simp only at e; omega)) (fun b hb => ⟨Nat.le_trans (Nat.le_of_lt HZ.out) hb.1, by rw [World.size_setCell]; exact hb.2⟩))
      have HB5 : Hid (Below wr.heap.size wr (w4.setCell ⟨wr.heap.size, 3, none⟩ (.slice Ak K.len ck))) := hide ((HB3.out.trans (hb4.mono HB3.out.size)).setCell (p := ⟨wr.heap.size, 3, none⟩) (Nat.le_refl _) _)
      have hrd := copy_ready HK.out HB5.out HB.out.size ho5 HN5.out
      rw [World.size_setCell] at hrd
      have HRD := hide hrd
      have d0 : (w4.setCell ⟨wr.heap.size, 3, none⟩ (.slice Ak K.len ck)).cell? ⟨wr.heap.size, 0, none⟩ = some (.string (str f.name)) := by rw [hr5.cellAt 0 (by decide)]; rfl
      have d1 : (w4.setCell ⟨wr.heap.size, 3, none⟩ (.slice Ak K.len ck)).cell? ⟨wr.heap.size, 1, none⟩ = some (.slice Av f.attrs.length cv) := by rw [hr5.cellAt 1 (by decide)]; rfl
      have d2 : (w4.setCell ⟨wr.heap.size, 3, none⟩ (.slice Ak K.len ck)).cell? ⟨wr.heap.size, 2, none⟩ = some (.string (str f.text)) := by rw [hr5.cellAt 2 (by decide)]; rfl
      have d3 : (w4.setCell ⟨wr.heap.size, 3, none⟩ (.slice Ak K.len ck)).cell? ⟨wr.heap.size, 3, none⟩ = some (.slice Ak K.len ck) := by rw [hr5.cellAt 3 (by decide)]; rfl
      clear hrd hn4 hb4 hr4 ho4 hr5 hg5 ho5 HR3 HO3 HCL
      have HKL : Hid (ks.length + Tr.len (.cons f K .nil) ≤ 1073741824) := hide (by
        have h1 := congrArg List.length HM.out
        rw [List.length_map, List.length_take, Tr.len_list] at h1
        simp only [Tr.len]
        omega)
      have HW6 : Hid (Below w.heap.size w ((w4.setCell ⟨wr.heap.size, 3, none⟩ (.slice Ak K.len ck)).alloc (.cells #[.string (str f.name), .slice Av f.attrs.length cv, .string (str f.text), .slice Ak K.len ck] 33))) := hide (bl_two (bl_two HB.out HB5.out) (below_one _ _))
      go_wp2_with (refine wpList_nodes rfl _ _ rfl _ w.heap.size (.slice A1 ks.length c1) ks rfl HRD.out.1 (fun k hk => hk.2.1) HW6.out.size _ rfl (.cons f K .nil) HRD.out.2 HKL.out ?_
                   intro v' qs w7 hk' he' hg' hor'
                   obtain ⟨k2, hkk⟩ : ∃ k, k = ks ++ qs := ⟨_, rfl⟩
                   have HM7 : Hid (k2.map Prod.fst = T.list.take (k + 1)) := hide (by
                     rw [hkk, List.map_append, HM.out, he', List.take_add_one, HF.out]; rfl)
                   rw [← hkk] at hk'
                   obtain ⟨A7, c7, hv7, _⟩ := hk'.slice
                   subst hv7
                   have HK7 : Hid (KRow (CopyC w.heap.size (.slice A7 k2.length c7) w7) w.heap.size (.slice A7 k2.length c7) k2 w7) := hide (hk'.widen (fun b hb => ⟨hb.1, Nat.lt_of_lt_of_le hb.2.1 hg'.size, fun e => hk'.out b e hb⟩) (fun g e hg => hg.2.2 e))
                   have HB7 : Hid (Below w.heap.size w w7) := hide (HW6.out.grown hg' HW6.out.size (fun k e => (HRD.out.1.row.lt k e).1))
                   clear hk' he' hg' hor' hkk)
      go_roundw
      case rel => exact ⟨k + 1, k2, A7, c7, by omega, by go_num, rfl, HK7, HM7, HB7⟩
      case measure => simp [intOf]; omega
    · obtain rfl : k = T.len := by omega
      have HM2 := HM.out
      rw [← Tr.len_list, List.take_length] at HM2
      replace HM2 := hide HM2
      go_wp2_with fail
      go_ret
      refine ⟨_, rfl, ?_, HB.out⟩
      have := HK.out.nodes (C' := NewB w.heap.size wr) (fun b hb => ⟨hb.1, hb.2.1⟩) (fun k e => ⟨(HK.out.row.lt k e).1, (HK.out.row.lt k e).2⟩)
      rw [HM2.out, Tr.of_list] at this
      exact this
theorem copy_all:∀ N,CopyP N
 | 0=>fun v T w h=>absurd h (by omega)
 | N + 1=>copy_step N (copy_all N)
theorem copy14_any (v:Value) (T:Tr) (w:World) (hT:NodesIn w v T) (hc:T.count <= 1000000) (ha:T.all attrsFew = true) :
  Calls Tryz.prog 20 #[v] w fun e w'=>∃ u,e = .returned u /\ NodesC (NewB w.heap.size w') w' u T /\ Below w.heap.size w w' :=
 copy_all (T.count + 1) v T w (Nat.lt_succ_self _) hc hT ha
def textL (l:List (NdH × Tr)):List UInt8:=l.flatMap (fun p=>if p.1.name = [] then p.1.text else textT p.2)
theorem textT_list (T:Tr):textT T = textL T.list:=by induction T with
 | nil=>rfl
 | cons h K R _ ih=>simp only [textT,Tr.list,textL,List.flatMap_cons,ih]
theorem textL_take (l:List (NdH × Tr)) (k:Nat) {p:NdH × Tr} (h:l[k]? = some p):textL (l.take (k + 1)) = textL (l.take k) ++ (if p.1.name = [] then p.1.text else textT p.2):=by
 unfold textL;rw [List.take_add_one,h,List.flatMap_append];simp
theorem textL_len (l:List (NdH × Tr)) (k:Nat):(textL (l.take k)).length <= (textL l).length:=by
 have:textL l = textL (l.take k) ++ textL (l.drop k):=by unfold textL;rw [<- List.flatMap_append,List.take_append_drop]
 rw [this,List.length_append];omega
theorem text15_step (N:Nat) (IH:∀ (v:Value) (T:Tr) (w:World),T.count < N -> (textT T).length <= 1000000000 -> T.count <= 1000000 -> NodesIn w v T -> Calls Tryz.prog 24 #[v] w fun e w'=>e = .returned (.string (str (textT T))) /\ Below w.heap.size w w') :
  ∀ (v:Value) (T:Tr) (w:World),T.count < N + 1 -> (textT T).length <= 1000000000 -> T.count <= 1000000 -> NodesIn w v T -> Calls Tryz.prog 24 #[v] w fun e w'=>e = .returned (.string (str (textT T))) /\ Below w.heap.size w w':=by
 intro v T w hN hl hc hT;have hlen:=Tr.len_count T;obtain ⟨A,c,rfl⟩:=NodesC.form hT;have H:=hide hT;have HIH:=hide IH;have HL:Hid ((textL T.list).length <= 1000000000):=hide (by rw [<- textT_list];exact hl);clear hT IH hl;go_enter Tryz.func24,Tryz.ntmps24;go_wp2_with fail;go_loopw [3,4] (fun ov i wr=>∃ (k:Nat) (S:ByteArray),k <= T.len /\ i = .int .i64 k /\ ov = .string S /\ Hid (S = str (textL (T.list.take k))) /\ Hid (Below w.heap.size w wr)) (fun _ i _=>T.len - (intOf i).toNat)
 case atStart=>exact ⟨0,⟨#[]⟩,Nat.zero_le _,rfl,rfl,hide rfl,hide (Below.refl _ _)⟩
 case round =>
  obtain ⟨k,S,hk,rfl,rfl,HS,HB⟩:=hrel
  by_cases hlt:k < T.len
  ·obtain ⟨⟨f,K⟩,hf⟩:∃ f,T.list[k]? = some f:=⟨_,List.getElem?_eq_getElem (by rw [Tr.len_list];exact hlt)⟩
   have hI1:=H.out.kept HB.out;obtain ⟨a,dd,x,y,zz,mm,hA,-,p1,p2,hAt,p3,p4,hmm,hK⟩:=NodesC.at hI1 k f K hf;subst hA hmm;have hKc:=Tr.at_count hf;have htk:=textL_take T.list k hf;have hle:=textL_len T.list (k + 1);simp only at htk;obtain ⟨X,hX⟩:∃ X,X = str f.name:=⟨_,rfl⟩
   obtain ⟨Y,hY⟩:∃ X,X = str f.text:=⟨_,rfl⟩
   rw [<- hX] at p1;rw [<- hY] at p3
   by_cases hn:f.name = []
   ·have h0:X.toList.isEmpty = true:=by rw [hX,str_list,hn];rfl
    have HN:Hid (S ++ Y = str (textL (T.list.take (k + 1)))):=hide (by rw [htk,if_pos hn,str_append,HS.out,hY])
    have q1:¬ (9223372036854775807 < S.size + Y.size):=by
     have h1:=congrArg ByteArray.size HN.out;have h2:=HL.out;rw [ByteArray.size_append,str_size] at h1;omega
    clear hX hY hn hf hI1 hAt hK htk hle;go_wp2_with fail;go_roundw
    case rel=>exact ⟨k + 1,_,by omega,by go_num,rfl,HN,HB⟩
    case measure=>simp [intOf];omega
   ·have h0:X.toList.isEmpty = false:=by
     rw [hX,str_list];cases hh:f.name with
     | nil=>exact absurd hh hn
     | cons _ _=>rfl
    obtain ⟨Q,hQ⟩:∃ Q,Q = str (textT K):=⟨_,rfl⟩
    have HN:Hid (S ++ Q = str (textL (T.list.take (k + 1)))):=hide (by rw [htk,if_neg hn,str_append,HS.out,hQ])
    have q1:¬ (9223372036854775807 < S.size + Q.size):=by
     have h1:=congrArg ByteArray.size HN.out;have h2:=HL.out;rw [ByteArray.size_append,str_size] at h1;omega
    have HCL:=hide (HIH.out _ K wr (by show K.count < N;omega) (by
     have h1:=HL.out;rw [htk,if_neg hn,List.length_append] at hle;show (textT K).length <= _
     omega) (by show K.count <= _;omega) hK)
    rw [<- hQ] at HCL;clear hX hY hn hf hI1 hAt hK htk hle hQ;go_wp2_with fail;refine HCL.out.mono ?_;rintro e w2 ⟨rfl,hb⟩;have HB2:=hide (bl_two HB.out hb);clear hb;go_wp2_with fail;go_roundw
    case rel=>exact ⟨k + 1,_,by omega,by go_num,rfl,HN,HB2⟩
    case measure=>simp [intOf];omega
  ·obtain rfl:k = T.len:=by omega
   have HR:Hid (S = str (textT T)):=hide (by rw [HS.out,textT_list,<- Tr.len_list,List.take_length]);go_wp2_with fail;go_ret;exact ⟨ret_str HR.out,HB.out⟩
theorem text15_all:∀ (N:Nat) (v:Value) (T:Tr) (w:World),T.count < N -> (textT T).length <= 1000000000 -> T.count <= 1000000 -> NodesIn w v T -> Calls Tryz.prog 24 #[v] w fun e w'=>e = .returned (.string (str (textT T))) /\ Below w.heap.size w w'
 | 0=>fun v T w h=>absurd h (by omega)
 | N + 1=>text15_step N (text15_all N)
theorem text15_any (v:Value) (T:Tr) (w:World) (hT:NodesIn w v T) (hc:T.count <= 1000000) (hl:(textT T).length <= 1000000000):Calls Tryz.prog 24 #[v] w fun e w'=>e = .returned (.string (str (textT T))) /\ Below w.heap.size w w' :=
 text15_all (T.count + 1) v T w (Nat.lt_succ_self _) hl hc hT
def isRB (c:UInt8):Bool:=letterB c || digitB c || c == 35
theorem dig10_rb (c:UInt8):digB 10 c ≠ none -> isRB c = true:=u8_all (p:=fun c=>digB 10 c ≠ none -> isRB c = true) (by decide +kernel) c
theorem dig16_rb (c:UInt8):digB 16 c ≠ none -> isRB c = true:=u8_all (p:=fun c=>digB 16 c ≠ none -> isRB c = true) (by decide +kernel) c
theorem parse_rb {b:Nat} (hb:∀ c,digB b c ≠ none -> isRB c = true) (l:List UInt8):∀ m n,parseB b m l = some n -> l.all isRB = true:=by
 induction l with
 | nil=>intro _ _ _;rfl
 | cons c r ih =>
  intro m n h;rw [parseB] at h;cases hd:digB b c with
  | none=>rw [hd] at h;cases h
  | some d =>
   rw [hd] at h;rw [List.all_cons,hb c (by rw [hd];intro e;cases e),ih _ _ h];rfl
theorem numAt_rb {b m:Nat} (hb:∀ c,digB b c ≠ none -> isRB c = true) {l:List UInt8} {x:Int} (h:numAt b m l = some x):l.all isRB = true /\ l.length <= m:=by
 unfold numAt at h;split at h
 ·cases h
 ·rename_i n hn;split at h
  ·cases h
  ·rename_i hl;refine ⟨?_,by omega⟩;unfold parseU at hn;split at hn
   ·cases hn
   ·exact parse_rb hb l _ _ hn
def namesL:List (List UInt8):=[[97,109,112],[108,116],[103,116],[113,117,111,116],[97,112,111,115],[110,98,115,112],[99,111,112,121],[114,101,103],[101,117,114,111],[104,101,108,108,105,112],[110,100,97,115,104],[109,100,97,115,104],[108,115,113,117,111],[114,115,113,117,111],[108,100,113,117,111],[114,100,113,117,111]]
theorem putN_mem {f:List UInt8 -> Option Int} {k:List UInt8} {c:Int} (hk:k ∈ namesL) (hf:∀ y x,f y = some x -> y ∈ namesL):∀ y x,putN f k c y = some x -> y ∈ namesL:=by
 intro y x h;unfold putN at h;split at h
 ·rename_i e;rw [e];exact hk
 ·exact hf y x h
theorem name_mem:∀ y x,nameN y = some x -> y ∈ namesL:=by
 unfold nameN
 repeat (refine putN_mem (by decide) ?_)
 intro y x h;cases h
theorem pref_one (l:List UInt8) (c:UInt8):Lib.hasPrefix l [c] = true ↔ ∃ r,l = c :: r:=by
 cases l with
 | nil=>exact ⟨fun h=>by simp [Lib.hasPrefix] at h,fun ⟨r,h⟩=>by cases h⟩
 | cons a r =>
  refine ⟨fun h=>⟨r,?_⟩,fun ⟨q,h⟩=>by injection h with h1 h2;subst h1;simp [Lib.hasPrefix]⟩;have:c = a:=by simpa [Lib.hasPrefix] using h
  rw [this]
theorem trim_one (c:UInt8) (r:List UInt8):Lib.trimPrefix (c :: r) [c] = r:=by
 unfold Lib.trimPrefix;rw [(pref_one _ c).2 ⟨r,rfl⟩];rfl
theorem sgn_num (r:List UInt8):sgn (35 :: r) = byN r:=by
 unfold sgn;rw [if_pos ((pref_one _ 35).2 ⟨r,rfl⟩),trim_one]
theorem byN_x (c:UInt8) (r:List UInt8) (h:c = 120 \/ c = 88):byN (c :: r) = numAt 16 6 r:=by
 unfold byN;rcases h with rfl | rfl
 ·rw [(pref_one _ 120).2 ⟨r,rfl⟩];rfl
 ·rw [(pref_one _ 88).2 ⟨r,rfl⟩,Bool.or_true];rfl
theorem byN_d (l:List UInt8) (h:∀ c r,l = c :: r -> ¬(c = 120 \/ c = 88)):byN l = numAt 10 7 l:=by
 unfold byN
 have h1:Lib.hasPrefix l [120] = false:=by
  cases e:Lib.hasPrefix l [120] with
  | false=>rfl
  | true=>obtain ⟨r,hr⟩:=(pref_one _ _).1 e;exact absurd (.inl rfl) (h _ _ hr)
 have h2:Lib.hasPrefix l [88] = false:=by
  cases e:Lib.hasPrefix l [88] with
  | false=>rfl
  | true=>obtain ⟨r,hr⟩:=(pref_one _ _).1 e;exact absurd (.inr rfl) (h _ _ hr)
 rw [h1,h2];rfl
theorem sgn_name (l:List UInt8) (h:∀ r,l ≠ 35 :: r):sgn l = nameN l:=by
 unfold sgn;rw [if_neg (by intro e;obtain ⟨r,hr⟩:=(pref_one _ _).1 e;exact h r hr)]
theorem byN_rb {l:List UInt8} {x:Int} (h:byN l = some x):l.all isRB = true /\ l.length <= 7:=by
 match l,h with
 | [],h=>rw [show byN [] = none by decide] at h;cases h
 | c :: r,h =>
  by_cases hc:c = 120 \/ c = 88
  ·rw [byN_x c r hc] at h;obtain ⟨h1,h2⟩:=numAt_rb dig16_rb h;refine ⟨?_,by simp;omega⟩;rw [List.all_cons,h1];rcases hc with rfl | rfl <;> decide
  ·rw [byN_d (c :: r) (by intro c' r' e;injection e with e1 e2;subst e1;exact hc)] at h;exact numAt_rb dig10_rb h
theorem sgn_rb {k:List UInt8} {x:Int} (h:sgn k = some x):k.all isRB = true /\ k.length <= 8:=by
 by_cases hk:∃ r,k = 35 :: r
 ·obtain ⟨r,rfl⟩:=hk;rw [sgn_num] at h;obtain ⟨h1,h2⟩:=byN_rb h;exact ⟨by rw [List.all_cons,h1];decide,by simp;omega⟩
 ·rw [sgn_name k (fun r e=>hk ⟨r,e⟩)] at h;have:=name_mem k x h;have ha:∀ y ∈ namesL,y.all isRB = true /\ y.length <= 8:=by decide
  exact ha k this
theorem rb_semi {k:List UInt8} (h:k.all isRB = true):(59:UInt8) ∉ k:=fun hm=>absurd (List.all_eq_true.1 h 59 hm) (by decide)
def runV (k q:List UInt8):Int × Nat:=match q with
  | 59 :: _=>(match sgn k with | some x=>(x,k.length + 1) | none=>(0,0))
  | _=>(0,0)
theorem runV_semi (k X:List UInt8):runV k (59 :: X) = match sgn k with | some x=>(x,k.length + 1) | none=>(0,0):=rfl
theorem runV_no {k q:List UInt8} (h:∀ X,q ≠ 59 :: X):runV k q = (0,0):=by
 unfold runV;split
 ·rename_i X;exact absurd rfl (h X)
 ·rfl
theorem refN_run {r k q:List UInt8} (e:r = k ++ q) (hk:k.all isRB = true) (hq:∀ c t,q = c :: t -> isRB c = false) :
  refN r = runV k q:=by
 by_cases hs:∃ X,q = 59 :: X
 ·obtain ⟨X,rfl⟩:=hs;subst e;rw [runV_semi]
  by_cases hl:k.length <= 8
  ·exact refN_at (rb_semi hk) hl X
  ·have hn:sgn k = none:=by
    cases h:sgn k with
    | none=>rfl
    | some x=>exact absurd (sgn_rb h).2 hl
   rw [hn];have ht:(k ++ 59 :: X).take 9 = k.take 9:=by rw [List.take_append_of_le_length (by omega)]
   have hh:hasC 59 ((k ++ 59 :: X).take 9) = false:=by
    rw [ht];exact hasC_false (fun hm=>rb_semi hk (List.mem_of_mem_take hm))
   unfold refN;rw [hh];split
   ·rename_i h;cases h
   ·rfl
 ·rw [runV_no (fun X e=>hs ⟨X,e⟩)];unfold refN;split
  ·rename_i x h1 h2;exfalso;rcases cut_case 59 (r.take 9) with ⟨h3,_,_⟩ | ⟨a,t,h3,h4,h5,_⟩
   ·rw [hasC_false h3] at h2;cases h2
   ·rw [h5] at h1;have ha:=(sgn_rb h1).1
    have h6:r = a ++ 59 :: (t ++ r.drop 9):=by
     conv=>lhs;rw [<- List.take_append_drop 9 r,h3]
     simp
    rw [e] at h6;rcases List.append_eq_append_iff.1 h6 with ⟨u,hu1,hu2⟩ | ⟨u,hu1,hu2⟩
    ·cases u with
     | nil=>exact hs ⟨_,by simpa using hu2⟩
     | cons c u =>
      have:=hq c _ hu2;rw [hu1,List.all_append,Bool.and_eq_true] at ha;rw [List.all_cons,Bool.and_eq_true] at ha;rw [this] at ha;exact absurd ha.2.1 (by decide)
    ·cases u with
     | nil=>exact hs ⟨_,by simpa using hu2.symm⟩
     | cons c u =>
      rw [List.cons_append] at hu2;injection hu2 with hu3 _;rw [hu1,List.all_append,Bool.and_eq_true] at hk;rw [List.all_cons,Bool.and_eq_true,<- hu3] at hk;exact absurd hk.2.1 (by decide)
  ·rfl
theorem esc_case (q:Bool) (l:List UInt8) (c:UInt8) (t:List UInt8) (h:l = c :: t) :
  (c = 38 /\ escQ q l = ampT ++ escQ q t) \/ (c = 60 /\ escQ q l = ltT ++ escQ q t) \/ (c = 62 /\ escQ q l = gtT ++ escQ q t) \/ (c = 34 /\ q = true /\ escQ q l = quT ++ escQ q t) \/ (c = 194 /\ (∃ u,t = 160 :: u /\ escQ q l = nbT ++ escQ q u)) \/
  ((c ≠ 38 /\ c ≠ 60 /\ c ≠ 62 /\ (c ≠ 34 \/ (c = 34 /\ q = false)) /\ (c ≠ 194 \/ (c = 194 /\ ∀ u,t ≠ 160 :: u))) /\ escQ q l = c :: escQ q t):=by
 subst h
 by_cases h1:c = 38
 ·subst h1;exact .inl ⟨rfl,escQ_some (n:=1) rfl⟩
 by_cases h2:c = 60
 ·subst h2;exact .inr (.inl ⟨rfl,escQ_some (n:=1) rfl⟩)
 by_cases h3:c = 62
 ·subst h3;exact .inr (.inr (.inl ⟨rfl,escQ_some (n:=1) rfl⟩))
 by_cases h4:c = 34
 ·subst h4;cases q with
  | true=>exact .inr (.inr (.inr (.inl ⟨rfl,rfl,escQ_quote t⟩)))
  | false=>exact .inr (.inr (.inr (.inr (.inr ⟨⟨h1,h2,h3,.inr ⟨rfl,rfl⟩,.inl (by decide)⟩,escQ_none (look_off (by decide)) (by intro e;cases e.1)⟩))))
 by_cases h5:c = 194
 ·subst h5
  by_cases hu:∃ u,t = 160 :: u
  ·obtain ⟨u,rfl⟩:=hu;exact .inr (.inr (.inr (.inr (.inl ⟨rfl,u,rfl,escQ_some (n:=2) rfl⟩))))
  ·refine .inr (.inr (.inr (.inr (.inr ⟨⟨h1,h2,h3,.inl h4,.inr ⟨rfl,fun u e=>hu ⟨u,e⟩⟩⟩,escQ_none ?_ (by intro e;exact h4 e.2)⟩))))
   match t,hu with
   | [],_=>rfl
   | a :: t,hu=>exact look_194n (by rintro rfl;exact hu ⟨t,rfl⟩)
 ·exact .inr (.inr (.inr (.inr (.inr ⟨⟨h1,h2,h3,.inl h4,.inl h5⟩,escQ_none (look_off (by rintro (e | e | e | e) <;> contradiction)) (by intro e;exact h4 e.2)⟩))))
theorem refWrite12_any (s:ByteArray) (q:Bool) (w:World) (hs:s.size <= 1048576) :
  Calls Tryz.prog 101 #[.string s,.bool q] w fun e w'=>e = .returned (.string (str (escQ q s.data.toList))) /\ Below w.heap.size w w':=by
 have hb0:Buf w.heap.size (.slice none 0 0) [] w w:=Buf.nil (Below.refl _ _) (Nat.le_refl _);have HB0:=hide hb0;clear hb0;go_enter Tryz.func101,Tryz.ntmps101;go_wp2_with fail;go_loopw [5,6] (fun v i wr=>∃ (k:Nat) (acc:List UInt8),k <= s.size /\ i = .int .i64 k /\ Hid (Buf w.heap.size v acc w wr) /\ Hid (acc.length <= 6 * k) /\ Hid (acc ++ escQ q (s.data.toList.drop k) = escQ q s.data.toList)) (fun _ i _=>s.size - (intOf i).toNat)
 case atStart=>exact ⟨0,[],Nat.zero_le _,rfl,HB0,hide (Nat.le_refl _),hide rfl⟩
 case round =>
  obtain ⟨k,acc,hk,rfl,HB,HL,HG⟩:=hrel
  by_cases hlt:k < s.size
  ·have hG:=HG.out;have hL:=HL.out;have hdr:=drop_cons s k hlt;rcases esc_case q (s.data.toList.drop k) s[k] (s.data.toList.drop (k + 1)) hdr with ⟨hc,o⟩ | ⟨hc,o⟩ | ⟨hc,o⟩ | ⟨hc,hq,o⟩ | ⟨hc,u,hu,o⟩ | ⟨⟨c1,c2,c3,c4,c5⟩,o⟩
   ·
    have x38:((s[k].toNat:Int) == 38) = true:=tT 38 (by exact hc) (by omega);have HGN:Hid ((acc ++ ampT) ++ escQ q (s.data.toList.drop (k + 1)) = escQ q s.data.toList):=hide (by rw [<- hG,o];simp);clear hG o hdr hc;go_wp2_with (refine wpList_buf_text rfl _ _ rfl w.heap.size u5 acc rfl w HB.out (str ampT) rfl (by rw [str_size,show ampT.length = 5 from rfl];omega) ?_;intro v2 w2 hb2;rw [str_toList] at hb2;have HB2:=hide hb2;clear hb2);go_roundw
    case rel=>exact ⟨k + 1,_,by omega,by go_num,HB2,hide (by rw [List.length_append,show ampT.length = 5 from rfl];omega),HGN⟩
    case measure=>simp [intOf];omega
   ·
    have x38:((s[k].toNat:Int) == 38) = false:=tF 38 (by rw [hc];decide) (by omega);have x60:((s[k].toNat:Int) == 60) = true:=tT 60 (by exact hc) (by omega);have HGN:Hid ((acc ++ ltT) ++ escQ q (s.data.toList.drop (k + 1)) = escQ q s.data.toList):=hide (by rw [<- hG,o];simp);clear hG o hdr hc;go_wp2_with (refine wpList_buf_text rfl _ _ rfl w.heap.size u5 acc rfl w HB.out (str ltT) rfl (by rw [str_size,show ltT.length = 4 from rfl];omega) ?_;intro v2 w2 hb2;rw [str_toList] at hb2;have HB2:=hide hb2;clear hb2);go_roundw
    case rel=>exact ⟨k + 1,_,by omega,by go_num,HB2,hide (by rw [List.length_append,show ltT.length = 4 from rfl];omega),HGN⟩
    case measure=>simp [intOf];omega
   ·
    have x38:((s[k].toNat:Int) == 38) = false:=tF 38 (by rw [hc];decide) (by omega);have x60:((s[k].toNat:Int) == 60) = false:=tF 60 (by rw [hc];decide) (by omega);have x62:((s[k].toNat:Int) == 62) = true:=tT 62 (by exact hc) (by omega);have HGN:Hid ((acc ++ gtT) ++ escQ q (s.data.toList.drop (k + 1)) = escQ q s.data.toList):=hide (by rw [<- hG,o];simp);clear hG o hdr hc;go_wp2_with (refine wpList_buf_text rfl _ _ rfl w.heap.size u5 acc rfl w HB.out (str gtT) rfl (by rw [str_size,show gtT.length = 4 from rfl];omega) ?_;intro v2 w2 hb2;rw [str_toList] at hb2;have HB2:=hide hb2;clear hb2);go_roundw
    case rel=>exact ⟨k + 1,_,by omega,by go_num,HB2,hide (by rw [List.length_append,show gtT.length = 4 from rfl];omega),HGN⟩
    case measure=>simp [intOf];omega
   ·
    have x38:((s[k].toNat:Int) == 38) = false:=tF 38 (by rw [hc];decide) (by omega);have x60:((s[k].toNat:Int) == 60) = false:=tF 60 (by rw [hc];decide) (by omega);have x62:((s[k].toNat:Int) == 62) = false:=tF 62 (by rw [hc];decide) (by omega);have x34:((s[k].toNat:Int) == 34) = true:=tT 34 (by exact hc) (by omega);subst hq;have HGN:Hid ((acc ++ quT) ++ escQ true (s.data.toList.drop (k + 1)) = escQ true s.data.toList):=hide (by rw [<- hG,o];simp);clear hG o hdr hc;go_wp2_with (refine wpList_buf_text rfl _ _ rfl w.heap.size u5 acc rfl w HB.out (str quT) rfl (by rw [str_size,show quT.length = 6 from rfl];omega) ?_;intro v2 w2 hb2;rw [str_toList] at hb2;have HB2:=hide hb2;clear hb2);go_roundw
    case rel=>exact ⟨k + 1,_,by omega,by go_num,HB2,hide (by rw [List.length_append,show quT.length = 6 from rfl];omega),HGN⟩
    case measure=>simp [intOf];omega
   ·
    have x38:((s[k].toNat:Int) == 38) = false:=tF 38 (by rw [hc];decide) (by omega);have x60:((s[k].toNat:Int) == 60) = false:=tF 60 (by rw [hc];decide) (by omega);have x62:((s[k].toNat:Int) == 62) = false:=tF 62 (by rw [hc];decide) (by omega);have x34:((s[k].toNat:Int) == 34) = false:=tF 34 (by rw [hc];decide) (by omega);have x194:((s[k].toNat:Int) == 194) = true:=tT 194 (by exact hc) (by omega)
    have hk1:k + 1 < s.size:=by
     have:=congrArg List.length hu;rw [List.length_drop,toList_length,List.length_cons] at this;omega
    have hx:s[k + 1] = 160:=by
     have:=drop_cons s (k + 1) hk1;rw [hu] at this;injection this with e _;exact e.symm
    have hu2:u = s.data.toList.drop (k + 2):=by
     have:=drop_cons s (k + 1) hk1;rw [hu] at this;injection this with _ e
    have y1:((s[k + 1].toNat:Int) == 160) = true:=tT 160 hx (by omega);have y2:(k:Int) + 1 < s.size:=by omega
    have y3:IntKind.i64.wrap ((k:Int) + 1) = (k:Int) + 1:=IntWalk.i64_in _ (by omega);have y4:((k:Int) + 1).toNat = k + 1:=by omega
    have HGN:Hid ((acc ++ nbT) ++ escQ q (s.data.toList.drop (k + 2)) = escQ q s.data.toList):=hide (by rw [<- hG,o,hu2];simp);clear hG o hdr hc hu hu2 hx;go_wp2_with (refine wpList_buf_text rfl _ _ rfl w.heap.size u5 acc rfl w HB.out (str nbT) rfl (by rw [str_size,show nbT.length = 6 from rfl];omega) ?_;intro v2 w2 hb2;rw [str_toList] at hb2;have HB2:=hide hb2;clear hb2);go_roundw
    case rel=>exact ⟨k + 2,_,by omega,by go_num,HB2,hide (by rw [List.length_append,show nbT.length = 6 from rfl];omega),HGN⟩
    case measure=>simp [intOf];omega
   ·have HGN:Hid ((acc ++ [s[k]]) ++ escQ q (s.data.toList.drop (k + 1)) = escQ q s.data.toList):=hide (by rw [<- hG,o];simp);have x38:((s[k].toNat:Int) == 38) = false:=tF 38 c1 (by omega);have x60:((s[k].toNat:Int) == 60) = false:=tF 60 c2 (by omega);have x62:((s[k].toNat:Int) == 62) = false:=tF 62 c3 (by omega);have HLN:Hid (acc.length + 1 <= 140737488355328):=hide (by omega);have HLV:Hid ((acc ++ [s[k]]).length <= 6 * (k + 1)):=hide (by simp;omega)
    have cc:(((s[k].toNat:Int) == 194) = false) \/ (((s[k].toNat:Int) == 194) = true /\ ¬ ((k:Int) + 1 < s.size)) \/ (∃ h:k + 1 < s.size,((s[k].toNat:Int) == 194) = true /\ ((s[k + 1].toNat:Int) == 160) = false):=by
     rcases c5 with c5 | ⟨c5,hu⟩
     ·exact .inl (tF 194 c5 (by omega))
     ·by_cases h1:k + 1 < s.size
      ·refine .inr (.inr ⟨h1,tT 194 c5 (by omega),tF 160 ?_ (by omega)⟩);intro e;have:=drop_cons s (k + 1) h1;rw [e] at this;exact hu _ this
      ·exact .inr (.inl ⟨tT 194 c5 (by omega),by omega⟩)
    have y3:IntKind.i64.wrap ((k:Int) + 1) = (k:Int) + 1:=IntWalk.i64_in _ (by omega);have y4:((k:Int) + 1).toNat = k + 1:=by omega
    have q4:((s[k].toNat:Int) == 34) = false \/ (((s[k].toNat:Int) == 34) = true /\ q = false):=by
     rcases c4 with c4 | ⟨c4,e⟩
     ·exact .inl (tF 34 c4 (by omega))
     ·exact .inr ⟨tT 34 c4 (by omega),e⟩
    clear hG o hdr c1 c2 c3 c4 c5 hL;rcases q4 with x34 | ⟨x34,rfl⟩
    all_goals rcases cc with x194 | ⟨x194,y2⟩ | ⟨h1,x194,y1⟩
    all_goals
     try have y2:(k:Int) + 1 < s.size:=by omega
     go_wp2_with (refine wpList_buf_byte rfl _ _ rfl w.heap.size u5 acc rfl w wr s[k] HB.out rfl HLN.out ?_;intro v2 w2 hb2;have HB2:=hide hb2;clear hb2);go_roundw
     case rel=>exact ⟨k + 1,_,by omega,by go_num,HB2,HLV,HGN⟩
     case measure=>simp [intOf];omega
  ·have hcv:=HB.out.convert;have hG:=HG.out;rw [drop_nil s k (by omega),escQ_nil,List.append_nil] at hG;have HR:=hide hG;clear hG;go_wp2_with fail;go_ret;exact ⟨by rw [HR.out] <;> rfl,HB.out.below⟩
theorem refText12_any (s:ByteArray) (w:World) (hs:s.size <= 1048576) :
  Calls Tryz.prog 58 #[.string s] w fun e w'=>e = .returned (.string (str (escQ false s.data.toList))) /\ Below w.heap.size w w':=by
 go_enter Tryz.func58,Tryz.ntmps58;go_wp2_with (go_at_call 101;refine (refWrite12_any s false _ hs).mono ?_;rintro e w1 ⟨rfl,hb1⟩);go_ret;exact ⟨rfl,hb1⟩
theorem refValue12_any (s:ByteArray) (w:World) (hs:s.size <= 1048576) :
  Calls Tryz.prog 102 #[.string s] w fun e w'=>e = .returned (.string (str (escQ true s.data.toList))) /\ Below w.heap.size w w':=by
 go_enter Tryz.func102,Tryz.ntmps102;go_wp2_with (go_at_call 101;refine (refWrite12_any s true _ hs).mono ?_;rintro e w1 ⟨rfl,hb1⟩);go_ret;exact ⟨rfl,hb1⟩
theorem str_size_le {S:ByteArray} {l:List UInt8} {b:Nat} (h:S.data.toList = l) (hb:l.length <= b):S.size <= b:=by
 rw [<- toList_length,h];exact hb
theorem refWrite13_any (v:Value) (l:List TokG) (w:World) (h:ToksIn w v l) (hl:l.length <= 1000) (hf:∀ p ∈ l,fitT p.2 = true) :
  Calls Tryz.prog 59 #[v] w fun e w'=>e = .returned (.string (str (writeG l))) /\ Below w.heap.size w w':=by
 obtain ⟨A,c,rfl⟩:=h.form;obtain ⟨n,hn⟩:∃ n,l.length = n:=⟨_,rfl⟩
 have H:=hide h;have HF:=hide hf;have HNL:=hide hn;rw [hn] at H hl ⊢;clear h hf hn;go_enter Tryz.func59,Tryz.ntmps59;go_wp2_with fail;go_loopw [3,4] (fun sv i wr=>∃ (k:Nat) (S:ByteArray),k <= n /\ i = .int .i64 k /\ sv = .string S /\ Hid (S.data.toList = writeG (l.take k)) /\ Hid (Below w.heap.size w wr)) (fun _ i _=>n - (intOf i).toNat)
 case atStart=>exact ⟨0,⟨#[]⟩,Nat.zero_le _,rfl,rfl,hide rfl,hide (Below.refl _ _)⟩
 case round =>
  obtain ⟨k,S,hk,rfl,rfl,HS,HB⟩:=hrel
  by_cases hlt:k < n
  ·obtain ⟨f,hf⟩:∃ f,l[k]? = some f:=⟨_,List.getElem?_eq_getElem (by have:=HNL.out;omega)⟩
   obtain ⟨a,d,y,ha,b1,b2,b3,b4,hA0⟩:=H.out.at k f hf;subst ha;have c1:=(HB.out.cell (World.block_lt_of_cell? _ _ b1)).trans b1;have c2:=(HB.out.cell (World.block_lt_of_cell? _ _ b2)).trans b2;have c3:=(HB.out.cell (World.block_lt_of_cell? _ _ b3)).trans b3;have c4:=(HB.out.cell (World.block_lt_of_cell? _ _ b4)).trans b4;obtain ⟨z1,z2,z3,z4⟩:=fitT_len (HF.out f (List.mem_of_getElem? hf))
   have hwl:(writeG (l.take k)).length <= 84500000:=by
    have h1:=writeG_len (l:=l.take k) (fun p hp=>HF.out p (List.mem_of_mem_take hp));have h2:(l.take k).length <= n:=by rw [List.length_take,HNL.out];exact Nat.min_le_right _ _
    omega
   have zS:S.size <= 84500000:=str_size_le HS.out hwl;have HNX:Hid (∀ z:ByteArray,z.data.toList = S.data.toList ++ tokG f -> z.data.toList = writeG (l.take (k + 1))):=hide fun z hz=>by rw [hz,HS.out,writeG_take hf]
   obtain ⟨X,hX⟩:∃ X,X = str f.2.name:=⟨_,rfl⟩
   obtain ⟨Y,hY⟩:∃ X,X = str f.2.text:=⟨_,rfl⟩
   have zX:X.size <= 300:=by rw [hX,str_size];exact z1
   have zY:Y.size <= 300:=by rw [hY,str_size];exact z2
   have HXL:Hid (X.data.toList = f.2.name):=hide (by rw [hX,str_toList]);have HYL:Hid (Y.data.toList = f.2.text):=hide (by rw [hY,str_toList]);obtain ⟨kf,hkf⟩:∃ z:Int,z = f.1:=⟨_,rfl⟩
   obtain ⟨m,hm⟩:∃ m,m = f.2.attrs.length:=⟨_,rfl⟩
   rw [<- hkf] at c1;rw [<- hX] at c2;rw [<- hY] at c3;rw [<- hm] at c4 b4 hA0;have HCELL:Hid (∀ w2,Below w.heap.size w w2 -> w2.cell? { block:=(a.add (k * 4)).block,off:=(a.add (k * 4)).off + 2 } = some (.slice d m y) /\ AttrsIn w2 (.slice d m y) f.2.attrs):=hide fun w2 h=>⟨(h.cell (World.block_lt_of_cell? _ _ b4)).trans b4,hA0.kept h⟩
   have HZ:=hide z4;have HML:Hid (f.2.attrs.length = m):=hide hm.symm;have hm40:m <= 40:=by rw [hm];exact z3
   clear hf hwl hX hY hm z1 z2 z3 z4 hA0 b1 b2 b3 b4
   by_cases k1:kf = 1
   ·have s1:(kf == 1) = true:=by rw [k1];rfl
    have HT:=fun w2=>hide (refText12_any Y w2 (by omega))
    obtain ⟨Q,hQ⟩:∃ Q,Q = str (escQ false Y.data.toList):=⟨_,rfl⟩
    have zQ:Q.size <= 1800:=by
     rw [hQ,str_size];have:=esc_len false Y.data.toList;rw [toList_length] at this;omega
    rw [<- hQ] at HT;have HQL:Hid (Q.data.toList = tokG f):=hide (by rw [hQ,str_toList,HYL.out,tokG_chars (by rw [<- hkf];exact k1)]);have q1:¬ (9223372036854775807 < S.size + Q.size):=by omega
    clear hQ hkf k1;go_wp2_with fail;refine (HT _).out.mono ?_;rintro e w2 ⟨rfl,hb2⟩;have HB2:=hide (HB.out.trans (hb2.mono HB.out.size));clear hb2;go_wp2_with fail;go_roundw
    case rel=>exact ⟨k + 1,S ++ Q,by omega,by go_num,rfl,hide (HNX.out _ (by rw [toA_append,HQL.out])),HB2⟩
    case measure=>simp [intOf];omega
   have s1:(kf == 1) = false:=beq_eq_false_iff_ne.2 k1
   by_cases k2:kf = 2
   ·have s2:(kf == 2) = true:=by rw [k2];rfl
    have HTG:Hid (60 :: (f.2.name ++ (attrsW (escQ true) f.2.attrs ++ [62])) = tokG f):=hide (tokG_start (by rw [<- hkf];exact k2)).symm;have q1:¬ (9223372036854775807 < S.size + 1):=by omega
    have q2:¬ (9223372036854775807 < S.size + 1 + X.size):=by omega
    clear hkf k1 k2;go_wp2_with fail;clear c1 c2 c3 c4;go_loopw [3,5] (fun sv i wr=>∃ (j:Nat) (R:ByteArray),j <= m /\ i = .int .i64 j /\ sv = .string R /\ Hid (R.data.toList = S.data.toList ++ 60 :: (f.2.name ++ attrsW (escQ true) (f.2.attrs.take j))) /\ Hid (Below w.heap.size w wr)) (fun _ i _=>m - (intOf i).toNat)
    case atStart=>exact ⟨0,_,Nat.zero_le _,rfl,rfl,hide (by rw [toA_append,toA_append,HXL.out,List.take_zero];simp [attrsW]),HB⟩
    case round =>
     obtain ⟨j,R,hj,rfl,rfl,HR,HB3⟩:=hrel;obtain ⟨g2,hAt⟩:=HCELL.out wr HB3.out
     have hRl:(S.data.toList ++ 60 :: (f.2.name ++ attrsW (escQ true) (f.2.attrs.take j))).length <= 84600000:=by
      have h1:=attrsW_take_len HZ.out j;rw [HML.out] at h1;have h2:f.2.name.length <= 300:=by rw [<- HXL.out,toList_length];exact zX
      rw [List.length_append,List.length_cons,List.length_append,toList_length];omega
     have zR:R.size <= 84600000:=str_size_le HR.out hRl
     by_cases hjl:j < m
     ·obtain ⟨g,hg⟩:∃ g,f.2.attrs[j]? = some g:=⟨_,List.getElem?_eq_getElem (by have:=HML.out;omega)⟩
      obtain ⟨b,hb,d1,d2⟩:=hAt.at j g hg;obtain ⟨y1,y2⟩:=HZ.out g (List.mem_of_getElem? hg);obtain ⟨P,hP⟩:∃ P,P = str g.1:=⟨_,rfl⟩
      obtain ⟨V,hV⟩:∃ V,V = str g.2:=⟨_,rfl⟩
      have zP:P.size <= 300:=by rw [hP,str_size];exact y1
      have zV:V.size <= 300:=by rw [hV,str_size];exact y2
      rw [<- hP] at d1;rw [<- hV] at d2;rw [hb] at g2;obtain ⟨Q,hQ⟩:∃ Q,Q = str (escQ true V.data.toList):=⟨_,rfl⟩
      have zQ:Q.size <= 1800:=by
       rw [hQ,str_size];have:=esc_len true V.data.toList;rw [toList_length] at this;omega
      have HV:=fun w2=>hide (refValue12_any V w2 (by omega))
      rw [<- hQ] at HV;have HAW:Hid (P.data.toList = g.1 /\ Q.data.toList = escQ true g.2):=hide ⟨by rw [hP,str_toList],by rw [hQ,hV,str_toList,str_toList]⟩
      have HN2:Hid (∀ z:ByteArray,z.data.toList = R.data.toList ++ attrW (escQ true) g -> z.data.toList = S.data.toList ++ 60 :: (f.2.name ++ attrsW (escQ true) (f.2.attrs.take (j + 1)))):=hide fun z hz=>by
       rw [hz,HR.out,attrsW_take hg];simp
      have q3:¬ (9223372036854775807 < R.size + 1):=by omega
      have q4:¬ (9223372036854775807 < R.size + 1 + P.size):=by omega
      have q5:¬ (9223372036854775807 < R.size + 1 + P.size + 2):=by omega
      have q6:¬ (9223372036854775807 < R.size + 1 + P.size + 2 + Q.size):=by omega
      have q7:¬ (9223372036854775807 < R.size + 1 + P.size + 2 + Q.size + 1):=by omega
      have HKP:Hid (∀ w2 w3,Below w2.heap.size w2 w3 -> Below wr.heap.size wr w2 -> Below wr.heap.size wr w3 /\ w3.cell? { block:=(a.add (k * 4)).block,off:=(a.add (k * 4)).off + 2 } = some (.slice (some b) m y) /\ w3.cell? (b.add (j * 2)) = some (.string P) /\ w3.cell? { block:=(b.add (j * 2)).block,off:=(b.add (j * 2)).off + 1 } = some (.string V)):=hide fun w2 w3 h3 h2=>by
       have hb:=h2.trans (h3.mono h2.size);exact ⟨hb,(hb.cell (World.block_lt_of_cell? _ _ g2)).trans g2,(hb.cell (World.block_lt_of_cell? _ _ d1)).trans d1,(hb.cell (World.block_lt_of_cell? _ _ d2)).trans d2⟩
      have hcb:=Below.refl wr.heap.size wr;clear hg hP hV hQ hAt hb y1 y2 hRl HCELL;go_wp2_with fail
      first | (go_region_held3 (fun w'=>Below wr.heap.size wr w' /\ w'.cell? { block:=(a.add (k * 4)).block,off:=(a.add (k * 4)).off + 2 } = some (.slice (some b) m y) /\ w'.cell? (b.add (j * 2)) = some (.string P) /\ w'.cell? { block:=(b.add (j * 2)).block,off:=(b.add (j * 2)).off + 1 } = some (.string V))
        (refine ⟨?_,?_,?_,?_⟩ <;> first | (with_reducible assumption) | (with_reducible exact Below.drew (by assumption)) | (with_reducible exact (HKP.out _ _ (by with_reducible assumption) (by first | with_reducible assumption | with_reducible exact And.left (by assumption))).1) | (with_reducible exact (HKP.out _ _ (by with_reducible assumption) (by first | with_reducible assumption | with_reducible exact And.left (by assumption))).2.1) | (with_reducible exact (HKP.out _ _ (by with_reducible assumption) (by first | with_reducible assumption | with_reducible exact And.left (by assumption))).2.2.1) | (with_reducible exact (HKP.out _ _ (by with_reducible assumption) (by first | with_reducible assumption | with_reducible exact And.left (by assumption))).2.2.2) | go_keep)
        (first
        |(go_at_call 102;go_must (refine (HV _).out.mono ?_;rintro e w3 ⟨rfl,hb3⟩)))) | fail
      all_goals
       have hbc:Below wr.heap.size wr w3:=by first | with_reducible assumption | with_reducible exact And.left (by assumption)
       have HB4:=hide (HB3.out.trans (hbc.mono HB3.out.size));clear hbc;go_wp2_with fail;go_roundw
       case rel=>exact ⟨j + 1,_,by omega,by go_num,rfl,hide (HN2.out _ (by simp only [toA_append,HAW.out.1,HAW.out.2];unfold attrW;simp)),HB4⟩
       case measure=>simp [intOf];omega
     ·have hjm:j = m:=by omega
      have q3:¬ (9223372036854775807 < R.size + 1):=by omega
      have HR2:Hid (R.data.toList ++ [62] = S.data.toList ++ tokG f):=hide (by
       rw [HR.out,<- HTG.out,List.take_of_length_le (by rw [HML.out];omega)];simp)
      clear hAt hRl;go_wp2_with fail;go_roundw
      case rel=>exact ⟨k + 1,R ++ ⟨#[62]⟩,by omega,by go_num,rfl,hide (HNX.out _ (by rw [toA_append];exact HR2.out)),HB3⟩
      case measure=>simp [intOf];omega
   have s2:(kf == 2) = false:=beq_eq_false_iff_ne.2 k2
   by_cases k3:kf = 3
   ·have s3:(kf == 3) = true:=by rw [k3];rfl
    have HTG:Hid (60 :: 47 :: (f.2.name ++ [62]) = tokG f):=hide (tokG_end (by rw [<- hkf];exact k3)).symm;have q1:¬ (9223372036854775807 < S.size + 2):=by omega
    have q2:¬ (9223372036854775807 < S.size + 2 + X.size):=by omega
    have q3:¬ (9223372036854775807 < S.size + 2 + X.size + 1):=by omega
    clear hkf k1 k2 k3;go_wp2_with fail;go_roundw
    case rel=>exact ⟨k + 1,_,by omega,by go_num,rfl,hide (HNX.out _ (by rw [<- HTG.out];simp only [toA_append,HXL.out];simp)),HB⟩
    case measure=>simp [intOf];omega
   have s3:(kf == 3) = false:=beq_eq_false_iff_ne.2 k3;have HTG:Hid (tokG f = []):=hide (tokG_none (by rw [<- hkf];exact k1) (by rw [<- hkf];exact k2) (by rw [<- hkf];exact k3));clear hkf k1 k2 k3;go_wp2_with fail;go_roundw
   case rel=>exact ⟨k + 1,S,by omega,by go_num,rfl,hide (HNX.out _ (by rw [HTG.out,List.append_nil])),HB⟩
   case measure=>simp [intOf];omega
  ·have HL:Hid (S = str (writeG l)):=hide (by
    have h:=HS.out;rw [List.take_of_length_le (by have:=HNL.out;omega)] at h;rw [<- h,str_of])
   go_wp2_with fail;go_ret;exact ⟨by rw [HL.out] <;> rfl,HB.out⟩
end Go.Proofs.YtiejmkjpgjbodaaGreatDoor
