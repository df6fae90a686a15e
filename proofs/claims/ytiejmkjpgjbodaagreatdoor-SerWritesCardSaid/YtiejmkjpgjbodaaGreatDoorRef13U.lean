import Derived.Test.YtiejmkjpgjbodaaGreatDoorRef13T
namespace Go.Proofs.YtiejmkjpgjbodaaGreatDoor
open Go.RowKit
set_option linter.unusedVariables false
set_option linter.unusedSimpArgs false
set_option maxRecDepth 100000
theorem rawSize_plain {n l:List UInt8} (h:n = plainText):rawSizeL n l = l.length:=by unfold rawSizeL;rw [if_pos h]
theorem rawSize_other {n l:List UInt8} (h:n ≠ plainText):rawSizeL n l = rawN n l:=by unfold rawSizeL;rw [if_neg h]
theorem nameEnd_eq (c:UInt8):nameEndB c = (whB c || (c == 47 || c == 62)):=rfl
set_option maxHeartbeats 16000000 in
theorem raw13w_any (B b:Nat) (s:ByteArray) (o:Value) (vs:List TokV) (NM:ByteArray) (f:Nat) (W0 w:World) (h:Sc B b s o vs W0 w) (hn:vs.length <= 16777216) (hz:∀ p,vs.getLast? = some p -> p.1.kind = 1 -> p.1.text.length <= 16777216) (hs:s.size <= 16777216) (hf:f <= s.size) (hN:NM.size <= 16777216) :
  Calls Tryz.prog 133 #[.pointer (some ⟨b,0,none⟩),.string NM,.int .i64 f] w fun e w'=>∃ k:Nat,e = .returned (.int .i64 (k:Nat)) /\ k = f + rawSizeL NM.data.toList (s.data.toList.drop f) /\ ScP B b s (addC (vs.map Prod.fst) ((s.data.toList.drop f).take (rawSizeL NM.data.toList (s.data.toList.drop f)))) (vs.length + 1) W0 w':=by
 have hla:=toList_length s;have hna:=toList_length NM;have HSX:=hide h;have HCH:=hide (fun (P:ByteArray) (w2:World) (h2:Sc B b s o vs W0 w2) (hp:P.size <= 16777216)=>chars13_any B b s o vs P W0 w2 h2 hn (fun p hp2 hk2=>by have:=hz p hp2 hk2;omega));obtain ⟨PT,hPT⟩:∃ PT:ByteArray,PT = ⟨#[112,108,97,105,110,116,101,120,116]⟩:=⟨_,rfl⟩
 have tcase:(NM.data.toList = plainText /\ (NM.toList == [112,108,97,105,110,116,101,120,116]) = true) \/ (NM.data.toList ≠ plainText /\ (NM.toList == [112,108,97,105,110,116,101,120,116]) = false):=by
  rw [bytes_list]
  by_cases e:NM.data.toList = plainText
  ·exact .inl ⟨e,by rw [e];rfl⟩
  ·exact .inr ⟨e,beq_eq_false_iff_ne.2 e⟩
 clear h hn hz hPT;go_enter Tryz.func133,Tryz.ntmps133;go_wp2_with fail;go_loopw [7] (fun av wr=>∃ k:Nat,f <= k /\ k <= s.size /\ av = .int .i64 k /\ Hid (Sc B b s o vs W0 wr) /\ Hid (NM.data.toList ≠ plainText -> rawN NM.data.toList (s.data.toList.drop f) = (k - f) + rawN NM.data.toList (s.data.toList.drop k))) (fun av _=>s.size - (intOf av).toNat)
 case atStart=>exact ⟨f,Nat.le_refl _,hf,rfl,HSX,hide (fun _=>by rw [Nat.sub_self,Nat.zero_add])⟩
 case round =>
  clear HSX;obtain ⟨k,hfk,hk,rfl,HS,HI⟩:=hrel;have c0:=HS.out.c0
  by_cases hlt:k < s.size
  ·have hd:=drop_cons s k hlt;have hw1:wrap64 ((k:Int) + 2) = (k:Int) + 2:=by unfold wrap64;omega
   have hw2:wrap64 ((k:Int) + 2 + (NM.size:Int)) = (k:Int) + 2 + NM.size:=by unfold wrap64;omega
   have HSX:=HS;rcases tcase with ⟨hpl,tp⟩ | ⟨hpl,tp⟩
   ·have tq:(NM.toList != [112,108,97,105,110,116,101,120,116]) = false:=by rw [bne,tp];rfl
    have HNX:Hid (NM.data.toList ≠ plainText -> rawN NM.data.toList (s.data.toList.drop f) = (k + 1 - f) + rawN NM.data.toList (s.data.toList.drop (k + 1))):=hide (fun h=>absurd hpl h);clear hd HI hla hna;go_wp2_with fail;go_roundw
    case rel=>exact ⟨k + 1,by omega,by omega,by go_num,HSX,HNX⟩
    case measure=>simp [intOf];omega
   ·have tq:(NM.toList != [112,108,97,105,110,116,101,120,116]) = true:=by rw [bne,tp];rfl
    have hgo:=rawN_go (n:=NM.data.toList) hd;have hre:=rawEnd_at (n:=NM.data.toList) hd;rw [hna,hla] at hre;have HAS:=hide (fun w2 h2=>hasAt_any s ⟨#[60,47]⟩ b k w2 (by omega) (by omega) (by decide) (by decide) h2);rw [hd,show (⟨#[60,47]⟩:ByteArray).data.toList = [60,47] from rfl] at HAS;rw [<- hd] at hre
    have HFALSE:Hid (rawEndB NM.data.toList (s.data.toList.drop k) = false -> (NM.data.toList ≠ plainText -> rawN NM.data.toList (s.data.toList.drop f) = (k + 1 - f) + rawN NM.data.toList (s.data.toList.drop (k + 1)))):=hide (fun h hp=>by
     have h1:=HI.out hp;rw [hgo,h,if_neg (by decide)] at h1;omega)
    have HTRUE:Hid (rawEndB NM.data.toList (s.data.toList.drop k) = true -> rawSizeL NM.data.toList (s.data.toList.drop f) = k - f):=hide (fun h=>by
     have h1:=HI.out hpl;rw [hgo,h,if_pos rfl] at h1;rw [rawSize_other hpl];omega)
    obtain ⟨RB,hRB⟩:∃ RB,RB = rawEndB NM.data.toList (s.data.toList.drop k):=⟨_,rfl⟩
    rw [<- hRB] at hre HFALSE HTRUE;clear hgo hRB;cases h1:([60,47]:List UInt8).isPrefixOf (s[k] :: s.data.toList.drop (k + 1)) with
    | false =>
     rw [hd,h1] at hre;rw [h1] at HAS;have HNX:=hide (HFALSE.out hre);clear hre h1 hd HI HFALSE HTRUE hla hna;go_wp2_with fail;refine (HAS.out _ c0).mono ?_;rintro e wa ⟨rfl,hw⟩;subst hw;go_wp2_with fail;go_roundw
     case rel=>exact ⟨k + 1,by omega,by omega,by go_num,HSX,HNX⟩
     case measure=>simp [intOf];omega
    | true =>
     rw [hd,h1,Bool.true_and] at hre;rw [h1] at HAS
     by_cases h2:k + 2 + NM.size < s.size
     ·rw [decide_eq_true h2,Bool.true_and] at hre;have t2:decide ((k:Int) + 2 + NM.size < s.size) = true:=decide_eq_true (by omega);obtain ⟨P,hP⟩:∃ P,s.extract (k + 2) (k + 2 + NM.size) = P:=⟨_,rfl⟩
      have hPl:P.data.toList = (s.data.toList.drop (k + 2)).take NM.size:=by
       rw [<- hP,extract_list,List.drop_take,Nat.add_sub_cancel_left]
      have zP:P.size <= 16777216:=by rw [<- toList_length,hPl,List.length_take];omega
      have HSM:=hide (fun w2=>small_any P w2 (by omega));obtain ⟨Q,hQ⟩:∃ Q,Q = str (lowL P.data.toList):=⟨_,rfl⟩
      rw [<- hQ] at HSM
      have hQN:(Q.toList == NM.toList) = (lowL ((s.data.toList.drop (k + 2)).take NM.size) == NM.data.toList):=by
       rw [hQ,str_list,hPl,bytes_list]
      have e1:((k:Int) + 2).toNat = k + 2:=by omega
      have e2:((k:Int) + 2 + NM.size).toNat = k + 2 + NM.size:=by omega
      have e3:(k:Int) + 2 <= (k:Int) + 2 + NM.size:=by omega
      have e4:(k:Int) + 2 + NM.size <= s.size:=by omega
      rw [<- hQN] at hre;clear hPl zP hQ hQN;cases h3:(Q.toList == NM.toList) with
      | false =>
       rw [h3,Bool.false_and] at hre;have HNX:=hide (HFALSE.out hre);clear hre h1 hd HI HFALSE HTRUE hla hna;go_wp2_with fail;refine (HAS.out _ c0).mono ?_;rintro e wa ⟨rfl,hw⟩;subst hw;go_wp2_with fail;refine (HSM.out _).mono ?_;rintro e ws ⟨rfl,hbs⟩;have HS2:=hide (HS.out.kept hbs);have c2:=HS2.out.c0;clear hbs;go_wp2_with fail;go_roundw
       case rel=>exact ⟨k + 1,by omega,by omega,by go_num,HS2,HNX⟩
       case measure=>simp [intOf];omega
      | true =>
       rw [h3,Bool.true_and] at hre
       have hg:s.data.toList.getD (k + 2 + NM.size) 0 = s[k + 2 + NM.size]:=by
        rw [List.getD_eq_getElem?_getD,List.getElem?_eq_getElem (by rw [hla];exact h2)];rfl
       rw [hg,nameEnd_eq] at hre;have HSP:=hide (fun w2=>space13_any s[k + 2 + NM.size] w2);obtain ⟨c,hc⟩:∃ c,s[k + 2 + NM.size] = c:=⟨_,rfl⟩
       have hcn:(s[k + 2 + NM.size]'h2).toNat = c.toNat:=by rw [hc]
       rw [hc] at hre HSP;obtain ⟨P2,hP2⟩:∃ P2,s.extract f k = P2:=⟨_,rfl⟩
       have hP2l:P2.data.toList = (s.data.toList.drop f).take (k - f):=by rw [<- hP2,extract_list,List.drop_take]
       have zP2:P2.size <= 16777216:=by rw [<- toList_length,hP2l,List.length_take,List.length_drop];omega
       have HC:=hide (fun w2 h2=>HCH.out P2 w2 h2 zP2);rw [hP2l] at HC;have HRK:Hid (RB = true -> k = f + rawSizeL NM.data.toList (s.data.toList.drop f)):=hide (fun h=>by rw [HTRUE.out h];omega);have q0:(f:Int) <= k:=by omega
       have q1:(k:Int) <= s.size:=by omega
       clear hg hc hP2l zP2;cases hw:whB c with
       | true =>
        rw [hw,Bool.true_or] at hre;rw [hw] at HSP;have HRS:=hide (HTRUE.out hre);have HK:=hide (HRK.out hre);clear hre h1 hd HI HFALSE HTRUE hla hna hw;go_wp2_with fail;refine (HAS.out _ c0).mono ?_;rintro e wa ⟨rfl,hw⟩;subst hw;go_wp2_with fail;refine (HSM.out _).mono ?_;rintro e ws ⟨rfl,hbs⟩;have HS2:=hide (HS.out.kept hbs);have c2:=HS2.out.c0;clear hbs;go_wp2_with fail;refine (HSP.out _).mono ?_;rintro e wq ⟨rfl,hw⟩;subst hw;go_wp2_with fail;refine (HC.out _ HS2.out).mono ?_;rintro e wc ⟨rfl,o2,vs2,hs2,hm2,hl2⟩;have HP2:=hide (⟨o2,vs2,hs2,hm2,hl2⟩:ScP B b s _ _ W0 wc);clear hs2 hm2 hl2;go_wp2_with fail;go_ret;exact ⟨k,rfl,HK.out,by rw [HRS.out];exact HP2.out⟩
       | false =>
        rw [hw,Bool.false_or] at hre;rw [hw] at HSP
        by_cases g47:c = 47
        ·have t47:((c.toNat:Int) == 47) = true:=tT 47 g47 (by omega);rw [g47] at hre;have HRS:=hide (HTRUE.out (hre.trans rfl));have HK:=hide (HRK.out (hre.trans rfl));clear hre h1 hd HI HFALSE HTRUE hla hna hw g47;go_wp2_with fail;refine (HAS.out _ c0).mono ?_;rintro e wa ⟨rfl,hw⟩;subst hw;go_wp2_with fail;refine (HSM.out _).mono ?_;rintro e ws ⟨rfl,hbs⟩;have HS2:=hide (HS.out.kept hbs);have c2:=HS2.out.c0;clear hbs;go_wp2_with fail;refine (HSP.out _).mono ?_;rintro e wq ⟨rfl,hw⟩;subst hw;go_wp2_with fail;refine (HC.out _ HS2.out).mono ?_;rintro e wc ⟨rfl,o2,vs2,hs2,hm2,hl2⟩;have HP2:=hide (⟨o2,vs2,hs2,hm2,hl2⟩:ScP B b s _ _ W0 wc);clear hs2 hm2 hl2;go_wp2_with fail;go_ret;exact ⟨k,rfl,HK.out,by rw [HRS.out];exact HP2.out⟩
        have t47:((c.toNat:Int) == 47) = false:=tF 47 g47 (by omega);rw [beq_eq_false_iff_ne.2 g47,Bool.false_or] at hre
        by_cases g62:c = 62
        ·have t62:((c.toNat:Int) == 62) = true:=tT 62 g62 (by omega);rw [g62] at hre;have HRS:=hide (HTRUE.out (hre.trans rfl));have HK:=hide (HRK.out (hre.trans rfl));clear hre h1 hd HI HFALSE HTRUE hla hna hw g47 g62;go_wp2_with fail;refine (HAS.out _ c0).mono ?_;rintro e wa ⟨rfl,hw⟩;subst hw;go_wp2_with fail;refine (HSM.out _).mono ?_;rintro e ws ⟨rfl,hbs⟩;have HS2:=hide (HS.out.kept hbs);have c2:=HS2.out.c0;clear hbs;go_wp2_with fail;refine (HSP.out _).mono ?_;rintro e wq ⟨rfl,hw⟩;subst hw;go_wp2_with fail;refine (HC.out _ HS2.out).mono ?_;rintro e wc ⟨rfl,o2,vs2,hs2,hm2,hl2⟩;have HP2:=hide (⟨o2,vs2,hs2,hm2,hl2⟩:ScP B b s _ _ W0 wc);clear hs2 hm2 hl2;go_wp2_with fail;go_ret;exact ⟨k,rfl,HK.out,by rw [HRS.out];exact HP2.out⟩
        have t62:((c.toNat:Int) == 62) = false:=tF 62 g62 (by omega);rw [beq_eq_false_iff_ne.2 g62] at hre;have HNX:=hide (HFALSE.out hre);clear hre h1 hd HI HFALSE HTRUE hla hna hw g47 g62;go_wp2_with fail;refine (HAS.out _ c0).mono ?_;rintro e wa ⟨rfl,hw⟩;subst hw;go_wp2_with fail;refine (HSM.out _).mono ?_;rintro e ws ⟨rfl,hbs⟩;have HS2:=hide (HS.out.kept hbs);have c2:=HS2.out.c0;clear hbs;go_wp2_with fail;refine (HSP.out _).mono ?_;rintro e wq ⟨rfl,hw⟩;subst hw;go_wp2_with fail;go_roundw
        case rel=>exact ⟨k + 1,by omega,by omega,by go_num,HS2,HNX⟩
        case measure=>simp [intOf];omega
     ·rw [decide_eq_false h2,Bool.false_and] at hre;have t2:decide ((k:Int) + 2 + NM.size < s.size) = false:=decide_eq_false (by omega);have HNX:=hide (HFALSE.out hre);clear hre h1 hd HI HFALSE HTRUE hla hna;go_wp2_with fail;refine (HAS.out _ c0).mono ?_;rintro e wa ⟨rfl,hw⟩;subst hw;go_wp2_with fail;go_roundw
      case rel=>exact ⟨k + 1,by omega,by omega,by go_num,HSX,HNX⟩
      case measure=>simp [intOf];omega
  ·have hkk:k = s.size:=by omega
   have hrs:rawSizeL NM.data.toList (s.data.toList.drop f) = s.size - f:=by
    rcases tcase with ⟨hpl,_⟩ | ⟨hpl,_⟩
    ·rw [rawSize_plain hpl,List.length_drop,hla]
    ·rw [rawSize_other hpl,HI.out hpl,hkk,List.drop_eq_nil_of_le (by omega)];rfl
   obtain ⟨P,hP⟩:∃ P,s.extract f s.size = P:=⟨_,rfl⟩
   have hPl:P.data.toList = s.data.toList.drop f:=by rw [<- hP,extract_end]
   have zP:P.size <= 16777216:=by rw [<- toList_length,hPl,List.length_drop];omega
   have HC:=hide (HCH.out P wr HS.out zP);rw [hPl] at HC;have HR:Hid (s.size = f + (s.size - f)):=hide (by omega);have HTK:Hid ((s.data.toList.drop f).take (s.size - f) = s.data.toList.drop f):=hide (by rw [List.take_of_length_le (by rw [List.length_drop];omega)]);have HRS:=hide hrs;have q0:(f:Int) <= s.size:=by omega
   have t1:decide ((k:Int) < s.size) = false:=decide_eq_false (by omega);clear hkk hrs hPl zP HI hla hna tcase;go_wp2_with fail;refine HC.out.mono ?_;rintro e wc ⟨rfl,o2,vs2,hs2,hm2,hl2⟩;have z0:=hs2.c0;have HP2:=hide (⟨o2,vs2,hs2,hm2,hl2⟩:ScP B b s _ _ W0 wc);clear hs2 hm2 hl2;go_wp2_with fail;go_ret;exact ⟨s.size,rfl,by rw [HRS.out];exact HR.out,by rw [HRS.out,HTK.out];exact HP2.out⟩
end Go.Proofs.YtiejmkjpgjbodaaGreatDoor
