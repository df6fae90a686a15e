import Derived.Test.YtmgpmdfmkdhfgaaGreatDoorHtokA
namespace Go.Proofs.YtmgpmdfmkdhfgaaGreatDoor
open Go.RowKit
set_option linter.unusedVariables false
set_option linter.unusedSimpArgs false
set_option maxRecDepth 100000
def tagV (t:Option (List UInt8 × List AtL × List UInt8)) (v:Value):Value:=match t with
  | none=>.tuple #[.string ⟨#[]⟩,v,.string ⟨#[]⟩,.bool false]
  | some x=>.tuple #[.string (str x.1),v,.string (str x.2.2),.bool true]
def tagAts (t:Option (List UInt8 × List AtL × List UInt8)):List AtL:=match t with
  | none=>[]
  | some x=>x.2.1
theorem tagL_some {dec:List UInt8 -> List UInt8} {l:List UInt8} {A:List AtL} {b:List UInt8} (h:attrsLL dec [] (upL nameEndB l).2 = some (A,b)):tagL dec l = some (lowL (upL nameEndB l).1,A,b):=by
 unfold tagL;rw [h]
theorem tagL_none {dec:List UInt8 -> List UInt8} {l:List UInt8} (h:attrsLL dec [] (upL nameEndB l).2 = none):tagL dec l = none:=by
 unfold tagL;rw [h]
theorem counts_len {A:List AtL} {n:List UInt8} (h:countsB A n = true):A.length < 30:=by
 unfold countsB at h;rw [Bool.and_eq_true] at h;exact of_decide_eq_true h.1
def szStr:Value -> Nat
  | .string t=>t.size
  | _=>0
theorem own_ne {B:Nat} {v:Value} {l:List AtL} {W0 w:World} (h:ABuf B v l W0 w):v.ownBlock ≠ some w.heap.size:=fun e=>absurd (h.1.lt _ e).2 (Nat.lt_irrefl _)
theorem ABuf.set {B:Nat} {v:Value} {l:List AtL} {W0 w:World} {b:Nat} (h:ABuf B v l W0 w) (hB:B <= b) (hne:v.ownBlock ≠ some b) (j:Nat) (x:Value):ABuf B v l W0 (w.setCell ⟨b,j,none⟩ x) :=
 ⟨h.1.kept (row:=some b) ⟨rfl,rfl,rfl,by simp [World.setCell],fun k _ hk=>Below.heap_setCell _ _ _ k (fun e=>hk (by rw [e]))⟩ (.inr hne),h.2.1.setCell (p:=⟨b,j,none⟩) hB _,by simpa [World.setCell] using h.2.2⟩
set_option maxHeartbeats 8000000 in
theorem readTag_any (s:ByteArray) (w:World) (hs:s.size <= 16777216) (hE:EnvE w) :
  Calls Tryz.prog 100 #[.string s] w fun e w'=>∃ v,e = .returned (tagV (tagL decE s.data.toList) v) /\ w'.ownsRow w.heap.size 47 2 v (tagAts (tagL decE s.data.toList)).length (atVals (tagAts (tagL decE s.data.toList))) /\ Below w.heap.size w w':=by
 have hlen:=toList_length s;have hU:=fun w2=>upTo0_any s ⟨#[32,9,10,12,13,47,62]⟩ nameEndB w2 nameEnd_has hs (by decide) (by decide) (by decide)
 have hu2:=upL_len nameEndB s.data.toList;rw [hlen] at hu2;obtain ⟨N,hN⟩:∃ N,N = (upL nameEndB s.data.toList).1:=⟨_,rfl⟩
 obtain ⟨R,hR⟩:∃ R,R = (upL nameEndB s.data.toList).2:=⟨_,rfl⟩
 have hup:upL nameEndB s.data.toList = (N,R):=by rw [hN,hR]
 rw [hup] at hU;have hNl:N.length <= 16777216:=by rw [hN];omega
 have hRl:R.length <= 16777216:=by rw [hR];omega
 have hLOW:=fun w2=>lower_any (str N) w2 (by rw [str_size];omega)
 rw [str_toList] at hLOW
 have HSOME:Hid (∀ A b,attrsLL decE [] R = some (A,b) -> tagL decE s.data.toList = some (lowL N,A,b)):=hide (fun A b h=>by
  rw [hR] at h;rw [tagL_some h,<- hN])
 have HNONE:Hid (attrsLL decE [] R = none -> tagL decE s.data.toList = none):=hide (fun h=>by
  rw [hR] at h;exact tagL_none h)
 have HU:=hide hU;have HLOW:=hide hLOW;have HE:=hide hE;clear hE hU hLOW hN hR hup hu2 hlen;go_enter Tryz.func100,Tryz.ntmps100;go_wp2_with fail;refine (HU.out _).mono ?_;rintro e w1 ⟨rfl,hb1⟩;have HB1:=hide hb1;clear hb1;unfold upV;go_wp2_with fail;go_loopw [0,7] (fun sv v wr=>∃ (S:ByteArray) (A:List AtL),sv = .string S /\ S.size <= 16777216 /\ A.length <= 30 /\ Hid (ABuf w.heap.size v A w wr) /\ Hid (attrsLL decE A S.data.toList = attrsLL decE [] R)) (fun sv _ _=>szStr sv)
 case atStart=>exact ⟨_,[],rfl,by rw [str_size];exact hRl,by simp,hide (ABuf.nil HB1.out HB1.out.size),hide (by rw [str_toList])⟩
 case round =>
  obtain ⟨S,A,rfl,hS,hA,HB,HG⟩:=hrel;have hSl:=toList_length S;obtain ⟨D,hD⟩:∃ D,D = S.data.toList.dropWhile whs:=⟨_,rfl⟩
  have hDl:D.length <= S.size:=by rw [hD,<- hSl];exact drop_len whs _
  have hTR:=fun w2=>trimS_left S w2
  rw [<- hD] at hTR;have HTR:=hide hTR;clear hTR;rcases quote_cut 62 D with ⟨hp,b,hb,htr⟩ | ⟨hp,hno⟩
  ·obtain ⟨T,hT⟩:∃ T:ByteArray,T = str b:=⟨_,rfl⟩
   have HT:Hid ((⟨(Lib.trimPrefix (str D).data.toList (⟨#[62]⟩:ByteArray).data.toList).toArray⟩:ByteArray) = T):=hide (by
    rw [hT,str_toList];exact congrArg str htr)
   have HP:Hid (Lib.hasPrefix (str D).data.toList (⟨#[62]⟩:ByteArray).data.toList = true):=hide (by rw [str_toList];exact hp);have HV:Hid (tagL decE s.data.toList = some (lowL N,A,b)):=hide (HSOME.out A b (by rw [<- HG.out];exact attrsLL_end (by rw [<- hD];exact hb)));have HTE:=hide hT;clear hT hp hb htr hD hDl hSl;go_wp2_with fail;refine (HTR.out _).mono ?_;rintro e w2 ⟨rfl,hb2⟩;have HB2:=hide (HB.out.kept hb2);clear hb2;go_wp2_with fail;refine (Tryz.strings_CutPrefix _ _ _).mono ?_;rintro e w3 ⟨rfl,hw⟩;subst hw;rw [HP.out,HT.out];go_wp2_with fail;refine (HLOW.out _).mono ?_;rintro e w4 ⟨rfl,hb4⟩;have HB4:=hide (HB2.out.kept hb4);clear hb4;go_wp2_with fail;refine bodyPost_ret (v:=.tuple #[.string (str (lowL N)),u7,.string T,.bool true]) (by simp [results,Tryz.f100,go_sem]) rfl ?_;exact ⟨_,by rw [HV.out,HTE.out];rfl,by rw [HV.out];exact HB4.out.1,HB4.out.below⟩
  ·have HP:Hid (Lib.hasPrefix (str D).data.toList (⟨#[62]⟩:ByteArray).data.toList = false):=hide (by rw [str_toList];exact hp);obtain ⟨DS,hDS⟩:∃ DS:ByteArray,DS = str D:=⟨_,rfl⟩
   rw [<- hDS] at HTR HP;obtain ⟨X,hX⟩:∃ X:ByteArray,(⟨(Lib.trimPrefix DS.data.toList (⟨#[62]⟩:ByteArray).data.toList).toArray⟩:ByteArray) = X:=⟨_,rfl⟩
   have HX:=hide hX;clear hX;cases D with
   | nil =>
    have HV:Hid (tagL decE s.data.toList = none):=hide (HNONE.out (by rw [<- HG.out];exact attrsLL_nil hD.symm));have t0:DS.toList.isEmpty = true:=by rw [hDS,str_list];rfl
    have t1:DS.toList = []:=by rw [hDS,str_list]
    clear hDS hp hno hD hDl hSl;go_wp2_with fail;refine (HTR.out _).mono ?_;rintro e w2 ⟨rfl,hb2⟩;have HB2:=hide (HB.out.kept hb2);clear hb2;go_wp2_with fail;refine (Tryz.strings_CutPrefix _ _ _).mono ?_;rintro e w3 ⟨rfl,hw⟩;subst hw;rw [HP.out,HX.out];go_wp2_with fail;refine bodyPost_ret (v:=.tuple #[.string ⟨#[]⟩,.slice none 0 0,.string ⟨#[]⟩,.bool false]) (by simp [results,Tryz.f100,go_sem]) rfl ?_;exact ⟨_,by rw [HV.out];rfl,by rw [HV.out];exact World.ownsRow_nil _ _ _ 2,HB2.out.below⟩
   | cons c r =>
    have hc62:c ≠ 62:=by simpa using hno
    have t0:DS.toList.isEmpty = false:=by rw [hDS,str_list];rfl
    have hDz:DS.size = r.length + 1:=by rw [hDS,str_size];rfl
    have hRA:=fun w2 h=>readAttr_any DS w2 (by rw [hDz];simp at hDl;omega) (by omega) h
    have hstep:=attrsLL_go (dec:=decE) (A:=A) hD.symm hc62;have hxl:=attrL_len decE c r;rw [show DS.data.toList = c :: r from by rw [hDS,str_toList]] at hRA;obtain ⟨⟨⟨n,v⟩,q⟩,hx⟩:∃ x:AtL × List UInt8,attrL decE (c :: r) = x:=⟨_,rfl⟩
    rw [hx] at hRA hstep hxl;simp only [List.length_cons] at hDl;have hql:q.length < S.size:=by simp only at hxl;omega
    have HRA:=hide hRA;have HC:=hide (fun vv w2 h=>counts_any w.heap.size vv A (str n) w2 h (by omega));rw [str_toList] at HC;obtain ⟨NS,hNS⟩:∃ NS,NS = str n:=⟨_,rfl⟩
    obtain ⟨VS,hVS⟩:∃ VS,VS = str v:=⟨_,rfl⟩
    have HNS:=hide hNS;have HVS:=hide hVS;cases hcn:countsB A n with
    | true =>
     have hA30:=counts_len hcn;rw [hcn] at HC;simp only [hcn,if_true] at hstep;have HG2:Hid (attrsLL decE (A ++ [(n,v)]) (str q).data.toList = attrsLL decE [] R):=hide (by rw [str_toList,<- hstep];exact HG.out);unfold attrV at HRA;simp only [<- hNS,<- hVS] at HRA HC;clear hNS hVS hcn hx hxl hstep hDS hp hno hD hDl hSl hc62 hDz hRA;go_wp2_with fail;refine (HTR.out _).mono ?_;rintro e w2 ⟨rfl,hb2⟩;have B2:=HB.out.kept hb2;have hne:=own_ne B2;have HB2:=hide B2;clear hb2 B2;go_wp2_with fail;refine (Tryz.strings_CutPrefix _ _ _).mono ?_;rintro e w3 ⟨rfl,hw⟩;subst hw;rw [HP.out,HX.out];go_wp2_with fail;refine (HRA.out _ (HE.out.kept (HB2.out.alloc _).below)).mono ?_;rintro e w4 ⟨rfl,hb4⟩;have HB4:=hide ((HB2.out.alloc _).kept hb4);have A4:=(acell_new w3).kept hb4;have f0:=A4.free 0;have f0':=A4.cell0;have A5:=A4.put0 NS;have f1:=A5.free 1;have f1':=A5.cell1;have A6:=A5.put1 VS;have f2:=A6.free 0;have c0:=A6.cell0;have c1:=A6.cell1;have HA6:=hide A6;have HB6:=hide ((HB4.out.set HB2.out.2.2 hne 0 (.string NS)).set HB2.out.2.2 hne 1 (.string VS));clear hb4 A4 A5 A6;go_wp2_with fail;refine (HC.out _ _ HB6.out.1).mono ?_;rintro e w7 ⟨rfl,hb7⟩;have HB7:=hide (HB6.out.kept hb7);have A7:=HA6.out.kept hb7;have d0:=A7.cell0;have d1:=A7.cell1;clear hb7 A7;go_wp2_with (at_builtin;go_must (refine wpList_ats rfl _ _ rfl w.heap.size _ A rfl w (n,v) (HB7.out.alloc _) ⟨w7.heap.size,0,none⟩ rfl (by rw [Addr.add_lit,World.cell?_alloc_at _ _ _ _ rfl];show some (Value.string NS) = some (Value.string (str n));rw [HNS.out]) (by rw [Addr.add_lit,World.cell?_alloc_at _ _ _ _ rfl];show some (Value.string VS) = some (Value.string (str v));rw [HVS.out]) (by omega) ?_;intro v8 w8 hb8;have HB8:=hide hb8;clear hb8))
     go_roundw
     case rel=>exact ⟨str q,A ++ [(n,v)],rfl,by rw [str_size];omega,by rw [List.length_append];exact hA30,HB8,HG2⟩
     case measure=>show (str q).size < S.size;rw [str_size];exact hql
    | false =>
     rw [hcn] at HC;simp only [hcn,Bool.false_eq_true,if_false] at hstep;have HG2:Hid (attrsLL decE A (str q).data.toList = attrsLL decE [] R):=hide (by rw [str_toList,<- hstep];exact HG.out);unfold attrV at HRA;simp only [<- hNS,<- hVS] at HRA HC;clear hNS hVS hcn hx hxl hstep hDS hp hno hD hDl hSl hc62 hDz hRA;go_wp2_with fail;refine (HTR.out _).mono ?_;rintro e w2 ⟨rfl,hb2⟩;have B2:=HB.out.kept hb2;have hne:=own_ne B2;have HB2:=hide B2;clear hb2 B2;go_wp2_with fail;refine (Tryz.strings_CutPrefix _ _ _).mono ?_;rintro e w3 ⟨rfl,hw⟩;subst hw;rw [HP.out,HX.out];go_wp2_with fail;refine (HRA.out _ (HE.out.kept (HB2.out.alloc _).below)).mono ?_;rintro e w4 ⟨rfl,hb4⟩;have HB4:=hide ((HB2.out.alloc _).kept hb4);have A4:=(acell_new w3).kept hb4;have f0:=A4.free 0;have f0':=A4.cell0;have A5:=A4.put0 NS;have f1:=A5.free 1;have f1':=A5.cell1;have A6:=A5.put1 VS;have f2:=A6.free 0;have c0:=A6.cell0;have c1:=A6.cell1;have HA6:=hide A6;have HB6:=hide ((HB4.out.set HB2.out.2.2 hne 0 (.string NS)).set HB2.out.2.2 hne 1 (.string VS));clear hb4 A4 A5 A6;go_wp2_with fail;refine (HC.out _ _ HB6.out.1).mono ?_;rintro e w7 ⟨rfl,hb7⟩;have HB7:=hide (HB6.out.kept hb7);have A7:=HA6.out.kept hb7;have d0:=A7.cell0;have d1:=A7.cell1;clear hb7 A7;go_wp2_with fail;go_roundw
     case rel=>exact ⟨str q,A,rfl,by rw [str_size];omega,hA,HB7,HG2⟩
     case measure=>show (str q).size < S.size;rw [str_size];exact hql
end Go.Proofs.YtmgpmdfmkdhfgaaGreatDoor
