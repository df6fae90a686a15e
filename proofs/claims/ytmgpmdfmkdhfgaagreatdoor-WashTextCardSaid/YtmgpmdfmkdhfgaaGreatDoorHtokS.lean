import Derived.Test.YtmgpmdfmkdhfgaaGreatDoorHtokL
import Derived.Test.YtmgpmdfmkdhfgaaGreatDoorRawW
namespace Go.Proofs.YtmgpmdfmkdhfgaaGreatDoor
open Go.RowKit
set_option linter.unusedVariables false
set_option linter.unusedSimpArgs false
set_option maxRecDepth 100000
theorem idxL (k:Nat) (h:k < 2) (w:World):(Instr.index 142 (Value.agg #[.string ⟨#[62]⟩,.string ⟨#[45,62]⟩]) (.int .i64 k)).run Tryz.prog w = .ok (.string (if k = 0 then ⟨#[62]⟩ else ⟨#[45,62]⟩)) w:=by
 match k,h with
 | 0,_=>rfl
 | 1,_=>rfl
theorem longL_1 (r:List UInt8):longL (62 :: r) = (some (remT []),[],r):=rfl
theorem longL_2 (r:List UInt8):longL (45 :: 62 :: r) = (some (remT []),[],r):=rfl
theorem longL_no {l:List UInt8} (h1:l.head? ≠ some 62) (h2:Lib.hasPrefix l [45,62] = false):longL l = remLL l:=by
 unfold longL;split
 ·exact absurd rfl h1
 ·simp [Lib.hasPrefix] at h2
 ·rfl
theorem dash_yes {l:List UInt8} (h:Lib.hasPrefix l [45,62] = true):∃ r,l = 45 :: 62 :: r /\ Lib.trimPrefix l [45,62] = r:=by
 have h':=h;unfold Lib.hasPrefix at h;obtain ⟨r,hr⟩:=List.isPrefixOf_iff_prefix.1 h;refine ⟨r,hr.symm,?_⟩;unfold Lib.trimPrefix;rw [h',<- hr];rfl
set_option maxHeartbeats 8000000 in
theorem longComment_any (B b:Nat) (o:Value) (vs:List TokV) (x:List UInt8) (W0 w:World) (s:ByteArray) (m:Int) (h:Rdr B b o vs x W0 w) (hn:vs.length <= 1099511627776) (hs:s.size <= 16777216) (hm:w.cell? ⟨0,0,none⟩ = some (.int .i64 m)) :
  Calls Tryz.prog 77 #[.pointer (some ⟨b,0,none⟩),.string s] w fun e w'=>e = .returned (.string (str (longL s.data.toList).2.2)) /\ MarkP B b vs x W0 (longL s.data.toList) w':=by
 have i0:∀ w:World,(Instr.index 142 (Value.agg #[.string ⟨#[62]⟩,.string ⟨#[45,62]⟩]) (.int .i64 0)).run Tryz.prog w = .ok (.string ⟨#[62]⟩) w:=fun w=>idxL 0 (by omega) w
 have i1:∀ w:World,(Instr.index 142 (Value.agg #[.string ⟨#[62]⟩,.string ⟨#[45,62]⟩]) (.int .i64 1)).run Tryz.prog w = .ok (.string ⟨#[45,62]⟩) w:=fun w=>idxL 1 (by omega) w
 have HCL:=hide (commentL_any B b o vs x W0 w s m h hn hs hm);have HADD:=hide (add_any B b o vs x W0 w h hn (remT []) (.slice none 0 0) (World.ownsRow_nil w B _ 2));clear h hm;go_enter Tryz.func77,Tryz.ntmps77;go_wp2_with fail;go_loopw [10] (fun i wr=>∃ k:Nat,k <= 2 /\ i = .int .i64 k /\ Hid (1 <= k -> s.data.toList.head? ≠ some 62) /\ Hid (2 <= k -> Lib.hasPrefix s.data.toList [45,62] = false) /\ Hid (wr = w)) (fun i _=>2 - (intOf i).toNat)
 case atStart=>exact ⟨0,Nat.zero_le _,rfl,hide (fun h=>absurd h (by omega)),hide (fun h=>absurd h (by omega)),hide rfl⟩
 case round =>
  obtain ⟨k,hk,rfl,H1,H2,HW⟩:=hrel;obtain rfl:=HW.out
  match k,hk with
  | 0,_ =>
   rcases quote_cut 62 s.data.toList with ⟨hp,r,hr,htr⟩ | ⟨hp,hno⟩
   ·obtain ⟨T,hT⟩:∃ T:ByteArray,T = str r:=⟨_,rfl⟩
    have HP:Hid (Lib.hasPrefix s.data.toList (⟨#[62]⟩:ByteArray).data.toList = true):=hide hp
    have HT:Hid ((⟨(Lib.trimPrefix s.data.toList (⟨#[62]⟩:ByteArray).data.toList).toArray⟩:ByteArray) = T):=hide (by
     rw [hT];exact congrArg str htr)
    have HR:Hid (longL s.data.toList = (some (remT []),[],r)):=hide (by rw [hr];exact longL_1 r);have HTE:=hide hT;clear hp hr htr hT;go_wp2_with fail;refine (Tryz.strings_CutPrefix s _ _).mono ?_;rintro e w1 ⟨rfl,hw⟩;subst hw;rw [HP.out,HT.out];go_wp2_with fail;refine HADD.out.mono ?_;rintro e w2 ⟨rfl,o2,vs2,r2,m2,l2⟩;have HR2:=hide r2;have HM2:=hide m2;have HL2:=hide l2;clear r2 m2 l2;go_wp2_with fail;go_ret;exact ⟨by rw [HR.out,HTE.out];rfl,by rw [HR.out];exact ⟨o2,vs2,HR2.out,HM2.out,HL2.out⟩⟩
   ·have HP:Hid (Lib.hasPrefix s.data.toList (⟨#[62]⟩:ByteArray).data.toList = false):=hide hp;have HN:=hide hno;clear hp hno;go_wp2_with fail;refine (Tryz.strings_CutPrefix s _ _).mono ?_;rintro e w1 ⟨rfl,hw⟩;subst hw;rw [HP.out];go_wp2_with fail;go_roundw
    case rel=>exact ⟨0 + 1,by omega,by go_num,hide (fun _=>HN.out),hide (fun h=>absurd h (by omega)),by first | exact hide trivial | exact hide rfl | exact trivial⟩
    case measure=>simp [intOf]
  | 1,_ =>
   cases hp:Lib.hasPrefix s.data.toList [45,62] with
   | true =>
    obtain ⟨r,hr,htr⟩:=dash_yes hp;obtain ⟨T,hT⟩:∃ T:ByteArray,T = str r:=⟨_,rfl⟩
    have HP:Hid (Lib.hasPrefix s.data.toList (⟨#[45,62]⟩:ByteArray).data.toList = true):=hide hp
    have HT:Hid ((⟨(Lib.trimPrefix s.data.toList (⟨#[45,62]⟩:ByteArray).data.toList).toArray⟩:ByteArray) = T):=hide (by
     rw [hT];exact congrArg str htr)
    have HR:Hid (longL s.data.toList = (some (remT []),[],r)):=hide (by rw [hr];exact longL_2 r);have HTE:=hide hT;clear hp hr htr hT;go_wp2_with fail;refine (Tryz.strings_CutPrefix s _ _).mono ?_;rintro e w1 ⟨rfl,hw⟩;subst hw;rw [HP.out,HT.out];go_wp2_with fail;refine HADD.out.mono ?_;rintro e w2 ⟨rfl,o2,vs2,r2,m2,l2⟩;have HR2:=hide r2;have HM2:=hide m2;have HL2:=hide l2;clear r2 m2 l2;go_wp2_with fail;go_ret;exact ⟨by rw [HR.out,HTE.out];rfl,by rw [HR.out];exact ⟨o2,vs2,HR2.out,HM2.out,HL2.out⟩⟩
   | false =>
    have HP:Hid (Lib.hasPrefix s.data.toList (⟨#[45,62]⟩:ByteArray).data.toList = false):=hide hp;have HN:=hide hp;clear hp;go_wp2_with fail;refine (Tryz.strings_CutPrefix s _ _).mono ?_;rintro e w1 ⟨rfl,hw⟩;subst hw;rw [HP.out];go_wp2_with fail;go_roundw
    case rel=>exact ⟨1 + 1,by omega,by go_num,hide (fun _=>H1.out (by omega)),hide (fun _=>by first | exact HN.out | exact trivial),by first | exact hide trivial | exact hide rfl | exact trivial⟩
    case measure=>simp [intOf]
  | 2,_ =>
   have HR:=hide (longL_no (H1.out (by omega)) (H2.out (by omega)));go_wp2_with fail;refine HCL.out.mono ?_;rintro e w1 ⟨rfl,hb⟩;have HB:=hide hb;clear hb;go_wp2_with fail;go_ret;exact ⟨by rw [HR.out];rfl,by rw [HR.out];exact HB.out⟩
theorem startL_none {dec:List UInt8 -> List UInt8} {l:List UInt8} (h:tagL dec l = none):startL dec l = (none,[],[]):=by unfold startL;rw [h]
theorem startL_raw {dec:List UInt8 -> List UInt8} {l n b:List UInt8} {A:List AtL} (h:tagL dec l = some (n,A,b)) (hr:rawL.contains n = true):startL dec l = (some (startT n A),b.take (rawSizeL n b),b.drop (rawSizeL n b)):=by
 unfold startL;rw [h];exact if_pos hr
theorem startL_no {dec:List UInt8 -> List UInt8} {l n b:List UInt8} {A:List AtL} (h:tagL dec l = some (n,A,b)) (hr:rawL.contains n = false):startL dec l = (some (startT n A),[],b):=by
 unfold startL;rw [h];exact if_neg (by rw [hr];exact Bool.false_ne_true)
theorem tagL_name {dec:List UInt8 -> List UInt8} {l n b:List UInt8} {A:List AtL} (h:tagL dec l = some (n,A,b)):n.length <= l.length:=by
 unfold tagL at h;have h1:=upL_len nameEndB l;cases ha:attrsLL dec [] (upL nameEndB l).2 with
 | none=>rw [ha] at h;cases h
 | some p =>
  obtain ⟨A2,b2⟩:=p;rw [ha] at h;injection h with h;injection h with h2 _;rw [<- h2];unfold lowL;rw [List.length_map];omega
set_option maxHeartbeats 8000000 in
theorem start_any (B b:Nat) (o:Value) (vs:List TokV) (x:List UInt8) (W0 w:World) (s:ByteArray) (h:Rdr B b o vs x W0 w) (hn:vs.length <= 1099511627776) (hs:s.size <= 16777216) (hE:EnvE w) :
  Calls Tryz.prog 79 #[.pointer (some ⟨b,0,none⟩),.string s] w fun e w'=>e = .returned (.string (str (startL decE s.data.toList).2.2)) /\ MarkP B b vs x W0 (startL decE s.data.toList) w':=by
 have HT:=hide (readTag_any s w hs hE);have HH:=hide h;have HSZ:=hide h.size;cases ht:tagL decE s.data.toList with
 | none =>
  rw [ht] at HT;have HV:=hide (startL_none ht);clear ht h hE;unfold tagV at HT;go_enter Tryz.func79,Tryz.ntmps79;go_wp2_with fail;refine HT.out.mono ?_;rintro e w1 ⟨v,rfl,hr,hb⟩;have HR:=hide (HH.out.kept hb);clear hr hb;go_wp2_with fail;go_ret;exact ⟨by rw [HV.out];rfl,by rw [HV.out];exact MarkP.none HR.out⟩
 | some p =>
  obtain ⟨n,A,q⟩:=p;rw [ht] at HT;have hnl:=tagL_name ht;have hql:=tagL_len ht;rw [toList_length] at hnl hql;have HADD:=hide (fun w2 u (h2:Rdr B b o vs x W0 w2) (hu:w2.ownsRow B 47 2 u A.length (atVals A))=>add_any B b o vs x W0 w2 h2 hn (startT n A) u hu);have HRAW:=hide (fun w2=>rawW_any (str n) w2);rw [str_toList] at HRAW;cases hraw:rawL.contains n with
  | false =>
   rw [hraw] at HRAW;have HV:=hide (startL_no ht hraw);clear ht h hE hraw;unfold tagV at HT;go_enter Tryz.func79,Tryz.ntmps79;go_wp2_with fail;refine HT.out.mono ?_;rintro e w1 ⟨v,rfl,hr,hb⟩;have HR:=hide (HH.out.kept hb);obtain ⟨A1,z1,rfl⟩:=at_form hr;have HU:=hide (ownsRow_down hr HSZ.out);clear hr hb;go_wp2_with fail;refine (HADD.out _ _ HR.out HU.out).mono ?_;rintro e w2 ⟨rfl,o2,vs2,r2,m2,l2⟩;have HR2:=hide r2;have HM2:=hide m2;have HL2:=hide l2;clear r2 m2 l2;go_wp2_with fail;refine (HRAW.out _).mono ?_;rintro e w3 ⟨rfl,rfl⟩;go_wp2_with fail;go_ret;exact ⟨by rw [HV.out];rfl,by rw [HV.out];exact ⟨o2,vs2,HR2.out,HM2.out,HL2.out⟩⟩
  | true =>
   rw [hraw] at HRAW;have HV:=hide (startL_raw ht hraw);obtain ⟨K,hK⟩:∃ K,K = rawSizeL n q:=⟨_,rfl⟩
   have hKl:K <= q.length:=by rw [hK];exact rawSizeL_le n q
   have HRS:=hide (fun w2=>rawSize_any (str q) (str n) w2 (by rw [str_size];omega) (by rw [str_size];omega));simp only [str_toList] at HRS;rw [<- hK] at HRS HV;have hqs:(str q).size = q.length:=str_size q;obtain ⟨QS,hQS⟩:∃ QS,QS = str q:=⟨_,rfl⟩
   rw [<- hQS] at hqs;have k0:(0:Int) <= K:=by omega
   have k1:(K:Int) <= QS.size:=by omega
   have hx1:(QS.extract 0 K).data.toList = q.take K:=by rw [extract_list,List.drop_zero,hQS,str_toList]
   have hx2:QS.extract K QS.size = str (q.drop K):=ext_list (by rw [extract_end,str_toList,hQS,str_toList]);have hxz:(QS.extract 0 K).size <= 16777216:=by rw [ByteArray.size_extract];omega
   have HX1:=hide hx1;have HX2:=hide hx2;have HXZ:=hide hxz;have HQ:=hide hQS;clear ht h hE hraw hK hqs hx1 hx2 hxz;unfold tagV at HT;simp only [<- hQS] at HT HRS;clear hQS;go_enter Tryz.func79,Tryz.ntmps79;go_wp2_with fail;refine HT.out.mono ?_;rintro e w1 ⟨v,rfl,hr,hb⟩;have HR:=hide (HH.out.kept hb);obtain ⟨A1,z1,rfl⟩:=at_form hr;have HU:=hide (ownsRow_down hr HSZ.out);clear hr hb;go_wp2_with fail;refine (HADD.out _ _ HR.out HU.out).mono ?_;rintro e w2 ⟨rfl,o2,vs2,r2,m2,l2⟩;have HR2:=hide r2;have HM2:=hide m2;have HL2:=hide l2;clear r2 m2 l2;go_wp2_with fail;refine (HRAW.out _).mono ?_;rintro e w3 ⟨rfl,rfl⟩;go_wp2_with fail;refine (HRS.out _).mono ?_;rintro e w4 ⟨rfl,hb4⟩;have HR4:=hide (HR2.out.kept hb4);clear hb4;have HWR:=hide (writeR_any B b o2 vs2 [] (QS.extract 0 K) W0 w4.drew (HR4.out.kept ((Below.refl _ _).drew)) (by have:=HXZ.out;simp only [List.length_nil];omega));go_wp2_with fail
   go_region_law (first
    |(go_simp;go_at_call 49;refine HWR.out.mono ?_;rintro e w5 ⟨rfl,hr5⟩;have HR5:=hide hr5;clear hr5)
    |fail)
   all_goals
    try go_wp2_with fail
    go_ret;refine ⟨by rw [HV.out];first | rfl | (rw [HX2.out];rfl),?_⟩;rw [HV.out];refine ⟨o2,vs2,?_,HM2.out,HL2.out⟩;have r5:=HR5.out;rw [HX1.out] at r5;exact r5
end Go.Proofs.YtmgpmdfmkdhfgaaGreatDoor
