import Derived.Test.YtmgpmdfmkdhfgaaGreatDoorHtokS
namespace Go.Proofs.YtmgpmdfmkdhfgaaGreatDoor
open Go.RowKit
set_option linter.unusedVariables false
set_option linter.unusedSimpArgs false
set_option maxRecDepth 100000
theorem mark_47E {dec:List UInt8 -> List UInt8} (q:List UInt8):markL dec (47 :: 62 :: q) = (none,[],q):=rfl
theorem mark_47R {dec:List UInt8 -> List UInt8} {d:UInt8} (q:List UInt8) (h1:letterB d = false) (h2:d ≠ 62):markL dec (47 :: d :: q) = remL (d :: q):=by
 show (if letterB d = true then endL dec (d :: q) else if d = 62 then (none,[],q) else remL (d :: q)) = _
 rw [if_neg (by rw [h1];exact Bool.false_ne_true),if_neg h2]
theorem mark_33L {dec:List UInt8 -> List UInt8} (b:List UInt8):markL dec (33 :: 45 :: 45 :: b) = longL b:=rfl
theorem mark_33R {dec:List UInt8 -> List UInt8} {t:List UInt8} (h:Lib.hasPrefix (33 :: t) [33,45,45] = false):markL dec (33 :: t) = remL t:=by
 unfold markL;simp only;split
 ·simp [Lib.hasPrefix] at h
 ·rfl
theorem mark_63 {dec:List UInt8 -> List UInt8} (t:List UInt8):markL dec (63 :: t) = remL (63 :: t):=rfl
theorem mark_S {dec:List UInt8 -> List UInt8} {c:UInt8} {t:List UInt8} (h1:c ≠ 47) (h2:c ≠ 33) (h3:c ≠ 63):markL dec (c :: t) = startL dec (c :: t):=by
 unfold markL;split
 ·rename_i e;exact absurd (List.cons.inj e).1 h1
 ·rename_i e;exact absurd (List.cons.inj e).1 h2
 ·rename_i e;exact absurd (List.cons.inj e).1 h3
 ·rfl
theorem bang_yes {l:List UInt8} (h:Lib.hasPrefix l [33,45,45] = true):∃ r,l = 33 :: 45 :: 45 :: r /\ Lib.trimPrefix l [33,45,45] = r:=by
 have h':=h;unfold Lib.hasPrefix at h;obtain ⟨r,hr⟩:=List.isPrefixOf_iff_prefix.1 h;refine ⟨r,hr.symm,?_⟩;unfold Lib.trimPrefix;rw [h',<- hr];rfl
theorem isMark_cases {l:List UInt8} (h:isMarkB l = true):∃ c t,l = 60 :: c :: t /\ (c = 33 \/ c = 63 \/ (c = 47 /\ t ≠ []) \/ (c ≠ 33 /\ c ≠ 63 /\ c ≠ 47)):=by
 match l,h with
 | a :: c :: t,h =>
  by_cases ha:a = 60
  ·subst ha;refine ⟨c,t,rfl,?_⟩;rw [isMark_mk] at h
   by_cases h1:c = 33
   ·exact .inl h1
   ·by_cases h2:c = 63
    ·exact .inr (.inl h2)
    ·by_cases h3:c = 47
     ·rw [if_neg (by rintro (e | e);exact h1 e;exact h2 e),if_pos h3] at h;refine .inr (.inr (.inl ⟨h3,fun e=>?_⟩));rw [e] at h;cases h
     ·exact .inr (.inr (.inr ⟨h1,h2,h3⟩))
  ·rw [isMark_head ha] at h;cases h
 | [a],h=>rw [isMark_len (by simp)] at h;cases h
 | [],h=>rw [isMark_len (by simp)] at h;cases h
set_option maxHeartbeats 8000000 in
theorem mark_any (B b:Nat) (o:Value) (vs:List TokV) (x:List UInt8) (W0 w:World) (s:ByteArray) (m:Int) (h:Rdr B b o vs x W0 w) (hn:vs.length <= 1099511627776) (hs:s.size <= 16777216) (hE:EnvE w) (hm:w.cell? ⟨0,0,none⟩ = some (.int .i64 m)) (hmk:isMarkB s.data.toList = true) :
  Calls Tryz.prog 51 #[.pointer (some ⟨b,0,none⟩),.string s] w fun e w'=>e = .returned (.string (str (markL decE (s.data.toList.drop 1)).2.2)) /\ MarkP B b vs x W0 (markL decE (s.data.toList.drop 1)) w':=by
 obtain ⟨c,t,hl,hc⟩:=isMark_cases hmk;have hlen:=toList_length s;rw [hl] at hlen;simp only [List.length_cons] at hlen;have hd1:s.data.toList.drop 1 = c :: t:=by rw [hl];rfl
 rw [hd1];obtain ⟨RS,hRS⟩:∃ RS,s.extract 1 s.size = RS:=⟨_,rfl⟩
 have hRl:RS.data.toList = c :: t:=by rw [<- hRS,extract_end];exact hd1
 have hRz:RS.size = t.length + 1:=by rw [<- toList_length,hRl];rfl
 have hR0:0 < RS.size:=by omega
 have hRc:RS[0] = c:=by
  have e:=drop_cons RS 0 hR0;rw [List.drop_zero,hRl] at e;exact (List.cons.inj e).1.symm
 have hRs:RS.size <= 16777216:=by omega
 have r0:(1:Int) <= s.size:=by omega
 clear hmk hl hd1;rcases hc with hc | hc | ⟨hc,ht⟩ | ⟨h33,h63,h47⟩
 ·subst hc;have t33:((RS[0].toNat:Int) == 33) = true:=tT 33 hRc (by omega);have t47:((RS[0].toNat:Int) == 47) = false:=tF 47 (by rw [hRc];decide) (by omega);cases hp:Lib.hasPrefix (33 :: t) [33,45,45] with
  | true =>
   obtain ⟨q,hq,htr⟩:=bang_yes hp;obtain ⟨T,hT⟩:∃ T:ByteArray,T = str q:=⟨_,rfl⟩
   have HP:Hid (Lib.hasPrefix RS.data.toList (⟨#[33,45,45]⟩:ByteArray).data.toList = true):=hide (by rw [hRl];exact hp)
   have HT:Hid ((⟨(Lib.trimPrefix RS.data.toList (⟨#[33,45,45]⟩:ByteArray).data.toList).toArray⟩:ByteArray) = T):=hide (by
    rw [hRl,hT];exact congrArg str htr)
   have hql:=congrArg List.length hq;simp only [List.length_cons] at hql;have hlc:=longComment_any B b o vs x W0 w T m h hn (by rw [hT,str_size];omega) hm;rw [hT,str_toList,<- hT] at hlc;obtain ⟨M,hM⟩:∃ M:MarkR,M = longL q:=⟨_,rfl⟩
   rw [<- hM] at hlc;have HC:=hide hlc;have HV:Hid (markL decE (33 :: t) = M):=hide (by rw [hq,hM];exact mark_33L q);clear hM;clear hlc h hE hm hRz hlen hRl hRc hp hq htr hT hql;go_enter Tryz.func51,Tryz.ntmps51;go_wp2_with fail;refine (Tryz.strings_CutPrefix _ _ _).mono ?_;rintro e w1 ⟨rfl,hw⟩;subst hw;rw [HP.out,HT.out];go_wp2_with fail;refine HC.out.mono ?_;rintro e w2 ⟨rfl,hb⟩;have HB:=hide hb;clear hb;go_wp2_with fail;go_ret;exact ⟨by rw [HV.out];rfl,by rw [HV.out];exact HB.out⟩
  | false =>
   have HP:Hid (Lib.hasPrefix RS.data.toList (⟨#[33,45,45]⟩:ByteArray).data.toList = false):=hide (by rw [hRl];exact hp);obtain ⟨DS,hDS⟩:∃ DS,RS.extract 1 RS.size = DS:=⟨_,rfl⟩
   have hDl:DS.data.toList = t:=by rw [<- hDS,extract_end,hRl];rfl
   have r1:(1:Int) <= RS.size:=by omega
   have hcm:=comment_any B b o vs x W0 w DS h hn (by rw [<- toList_length,hDl];omega);rw [hDl] at hcm;have hv:=mark_33R (dec:=decE) hp;obtain ⟨M,hM⟩:∃ M:MarkR,M = remL t:=⟨_,rfl⟩
   rw [<- hM] at hcm hv;have HC:=hide hcm;have HV:=hide hv;clear hv hM;clear hcm h hE hm hRz hlen hRl hRc hp hDl;go_enter Tryz.func51,Tryz.ntmps51;go_wp2_with fail;refine (Tryz.strings_CutPrefix _ _ _).mono ?_;rintro e w1 ⟨rfl,hw⟩;subst hw;rw [HP.out];go_wp2_with fail;refine HC.out.mono ?_;rintro e w2 ⟨rfl,hb⟩;have HB:=hide hb;clear hb;go_wp2_with fail;go_ret;exact ⟨by rw [HV.out];rfl,by rw [HV.out];exact HB.out⟩
 ·subst hc;have t33:((RS[0].toNat:Int) == 33) = false:=tF 33 (by rw [hRc];decide) (by omega);have t47:((RS[0].toNat:Int) == 47) = false:=tF 47 (by rw [hRc];decide) (by omega);have t63:((RS[0].toNat:Int) == 63) = true:=tT 63 hRc (by omega);have hcm:=comment_any B b o vs x W0 w RS h hn hRs;rw [hRl] at hcm;have hv:=mark_63 (dec:=decE) t;obtain ⟨M,hM⟩:∃ M:MarkR,M = remL (63 :: t):=⟨_,rfl⟩
  rw [<- hM] at hcm hv;have HC:=hide hcm;have HV:=hide hv;clear hv hM;clear hcm h hE hm hRz hlen hRl hRc;go_enter Tryz.func51,Tryz.ntmps51;go_wp2_with fail;refine HC.out.mono ?_;rintro e w2 ⟨rfl,hb⟩;have HB:=hide hb;clear hb;go_wp2_with fail;go_ret;exact ⟨by rw [HV.out];rfl,by rw [HV.out];exact HB.out⟩
 ·subst hc;have t47:((RS[0].toNat:Int) == 47) = true:=tT 47 hRc (by omega);cases t with
  | nil=>exact absurd rfl ht
  | cons d q =>
   have hR1:1 < RS.size:=by rw [hRz];simp
   have hRd:RS[1] = d:=by
    have e:=drop_cons RS 1 hR1;rw [hRl] at e;exact (List.cons.inj e).1.symm
   have r1:(1:Int) <= RS.size:=by omega
   obtain ⟨DS,hDS⟩:∃ DS,RS.extract 1 RS.size = DS:=⟨_,rfl⟩
   have hDl:DS.data.toList = d :: q:=by rw [<- hDS,extract_end,hRl];rfl
   have hDz:DS.size <= 16777216:=by
    rw [<- toList_length,hDl];simp only [List.length_cons] at hRz ⊢;omega
   have HL:=hide (fun w2=>letterW_any RS[1] w2);rw [hRd] at HL;cases hle:letterB d with
   | true =>
    rw [hle] at HL;have hen:=end_any B b o vs x W0 w DS h hn hDz hE;rw [hDl] at hen;have hv:=markL_end (dec:=decE) hle q;obtain ⟨M,hM⟩:∃ M:MarkR,M = endL decE (d :: q):=⟨_,rfl⟩
    rw [<- hM] at hen hv;have HC:=hide hen;have HV:=hide hv;clear hv hM;have HRD:=hide hRd;clear hen h hE hm hRz hlen hRl hRc hDl hle hRd;go_enter Tryz.func51,Tryz.ntmps51;go_wp2_with fail;rw [HRD.out];refine (HL.out _).mono ?_;rintro e w1 ⟨rfl,rfl⟩;go_wp2_with fail;refine HC.out.mono ?_;rintro e w2 ⟨rfl,hb⟩;have HB:=hide hb;clear hb;go_wp2_with fail;go_ret;exact ⟨by rw [HV.out];rfl,by rw [HV.out];exact HB.out⟩
   | false =>
    rw [hle] at HL;have HRD:=hide hRd
    by_cases h62:d = 62
    ·subst h62;obtain ⟨T,hT⟩:∃ T:ByteArray,T = str q:=⟨_,rfl⟩
     have hp:Lib.hasPrefix (62 :: q) [62] = true:=by rw [hasPrefix_q];rfl
     have HP:Hid (Lib.hasPrefix DS.data.toList (⟨#[62]⟩:ByteArray).data.toList = true):=hide (by rw [hDl];exact hp)
     have HT:Hid ((⟨(Lib.trimPrefix DS.data.toList (⟨#[62]⟩:ByteArray).data.toList).toArray⟩:ByteArray) = T):=hide (by
      rw [hDl,hT];unfold Lib.trimPrefix;rw [show (⟨#[62]⟩:ByteArray).data.toList = [62] from rfl,hp];rfl)
     have HV:=hide (mark_47E (dec:=decE) q);have HTE:=hide hT;have HM:=hide (MarkP.none (l:=q) h);clear h hE hm hRz hlen hRl hRc hDl hle hRd hT hp;go_enter Tryz.func51,Tryz.ntmps51;go_wp2_with fail;rw [HRD.out];refine (HL.out _).mono ?_;rintro e w1 ⟨rfl,rfl⟩;go_wp2_with fail;refine (Tryz.strings_CutPrefix _ _ _).mono ?_;rintro e w1 ⟨rfl,hw⟩;subst hw;rw [HP.out,HT.out];go_wp2_with fail;go_ret;exact ⟨by rw [HV.out,HTE.out];rfl,by rw [HV.out];exact HM.out⟩
    ·have HP:Hid (Lib.hasPrefix DS.data.toList (⟨#[62]⟩:ByteArray).data.toList = false):=hide (by rw [hDl,show (⟨#[62]⟩:ByteArray).data.toList = [62] from rfl,hasPrefix_q];exact decide_eq_false h62);have HP2:Hid (Lib.hasPrefix RS.data.toList (⟨#[33,45,45]⟩:ByteArray).data.toList = false):=hide (by rw [hRl];rfl);have hcm:=comment_any B b o vs x W0 w DS h hn hDz;rw [hDl] at hcm;have hv:=mark_47R (dec:=decE) q hle h62;obtain ⟨M,hM⟩:∃ M:MarkR,M = remL (d :: q):=⟨_,rfl⟩
     rw [<- hM] at hcm hv;have HC:=hide hcm;have HV:=hide hv;clear hv hM;clear hcm h hE hm hRz hlen hRl hRc hDl hle hRd;go_enter Tryz.func51,Tryz.ntmps51;go_wp2_with fail;rw [HRD.out];refine (HL.out _).mono ?_;rintro e w1 ⟨rfl,rfl⟩;go_wp2_with fail;refine (Tryz.strings_CutPrefix _ _ _).mono ?_;rintro e w1 ⟨rfl,hw⟩;subst hw;rw [HP.out];go_wp2_with fail;refine (Tryz.strings_CutPrefix _ _ _).mono ?_;rintro e w1 ⟨rfl,hw⟩;subst hw;rw [HP2.out];go_wp2_with fail;refine HC.out.mono ?_;rintro e w2 ⟨rfl,hb⟩;have HB:=hide hb;clear hb;go_wp2_with fail;go_ret;exact ⟨by rw [HV.out];rfl,by rw [HV.out];exact HB.out⟩
 ·have t33:((RS[0].toNat:Int) == 33) = false:=tF 33 (by rw [hRc];exact h33) (by omega);have t47:((RS[0].toNat:Int) == 47) = false:=tF 47 (by rw [hRc];exact h47) (by omega);have t63:((RS[0].toNat:Int) == 63) = false:=tF 63 (by rw [hRc];exact h63) (by omega);have hst:=start_any B b o vs x W0 w RS h hn hRs hE;rw [hRl] at hst;have hv:=mark_S (dec:=decE) (t:=t) h47 h33 h63;obtain ⟨M,hM⟩:∃ M:MarkR,M = startL decE (c :: t):=⟨_,rfl⟩
  rw [<- hM] at hst hv;have HC:=hide hst;have HV:=hide hv;clear hv hM;clear hst h hE hm hRz hlen hRl hRc;go_enter Tryz.func51,Tryz.ntmps51;go_wp2_with fail;refine HC.out.mono ?_;rintro e w2 ⟨rfl,hb⟩;have HB:=hide hb;clear hb;go_wp2_with fail;go_ret;exact ⟨by rw [HV.out];rfl,by rw [HV.out];exact HB.out⟩
end Go.Proofs.YtmgpmdfmkdhfgaaGreatDoor
