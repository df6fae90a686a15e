import Derived.Test.YtiejmkjpgjbodaaGreatDoorRef13Z
namespace Go.Proofs.YtiejmkjpgjbodaaGreatDoor
open Go.RowKit
set_option linter.unusedVariables false
set_option linter.unusedSimpArgs false
set_option maxRecDepth 100000
theorem begins_le (r:List UInt8):beginsN r = 0 \/ beginsN r = 1 \/ beginsN r = 2 \/ beginsN r = 3 \/ beginsN r = 4:=by
 cases r with
 | nil=>exact .inl rfl
 | cons c q =>
  rw [begins_cons];split
  ·exact .inr (.inl rfl)
  ·split
   ·split
    ·exact .inl rfl
    ·split
     ·exact .inr (.inr (.inl rfl))
     ·exact .inr (.inr (.inr (.inl rfl)))
   ·split
    ·exact .inr (.inr (.inr (.inr rfl)))
    ·exact .inl rfl
theorem begins_one {r:List UInt8} (h:beginsN r = 1):markL decE r = startL decE r:=by
 cases r with
 | nil=>cases h
 | cons c q =>
  rw [begins_cons] at h;cases hl:letterB c with
  | true=>exact markL_start hl q
  | false =>
   rw [hl,if_neg (by decide)] at h;split at h
   ·split at h
    ·omega
    ·split at h <;> omega
   ·split at h <;> omega
theorem begins_two {r:List UInt8} (h:beginsN r = 2):∃ q,r = 47 :: q /\ markL decE r = endL decE q:=by
 cases r with
 | nil=>cases h
 | cons c q =>
  rw [begins_cons] at h;cases hl:letterB c with
  | true=>rw [hl,if_pos rfl] at h;omega
  | false =>
   rw [hl,if_neg (by decide)] at h
   by_cases h47:c = 47
   ·subst h47;rw [if_pos rfl] at h;cases q with
    | nil=>simp only at h;omega
    | cons d e =>
     simp only at h;cases hl2:letterB d with
     | true=>exact ⟨d :: e,rfl,markL_end hl2 e⟩
     | false=>rw [hl2,if_neg (by decide)] at h;omega
   ·rw [if_neg h47] at h;split at h <;> omega
set_option maxHeartbeats 16000000 in
theorem scan13_any (s:ByteArray) (w:World) (hs:s.size <= 8000000) :
  Calls Tryz.prog 41 #[.string s] w fun e w'=>∃ v vs,e = .returned v /\ TRow w.heap.size v vs w' /\ vs.map Prod.fst = scanL decE [] [] s.data.toList /\ Below w.heap.size w w':=by
 obtain ⟨G,hG⟩:∃ G,G = scanL decE [] [] s.data.toList:=⟨_,rfl⟩
 rw [<- hG];have HA0:Hid (At s G 0 []):=hide ⟨⟨[],[],by rw [flush_nil];rfl,fun t h=>by simp at h,by rw [List.drop_zero,hG],Nat.le_refl _⟩,Nat.le_refl _⟩;have HS0:=hide (Sc.new w s);clear hG;go_enter Tryz.func41,Tryz.ntmps41;go_wp2_with fail;go_loopw [4] (fun av wr=>∃ (a:Nat) (o:Value) (vs:List TokV),a <= s.size /\ av = .int .i64 a /\ Hid (Sc w.heap.size w.heap.size s o vs w wr) /\ Hid (At s G a vs)) (fun av _=>s.size - (intOf av).toNat)
 case atStart=>exact ⟨0,_,_,Nat.zero_le _,rfl,HS0,HA0⟩
 case round =>
  clear HS0 HA0;obtain ⟨a,o,vs,hal,rfl,HS,HAT⟩:=hrel
  by_cases hlt:a < s.size
  ·by_cases h60:s[a] = 60
   ·have t60:((s[a].toNat:Int) == 60) = true:=tT 60 h60 (by omega);have HBG:=hide (begins13_any s w.heap.size a wr (by omega) hlt h60 HS.out.c0);have hd:=drop_cons s a hlt;rw [h60] at hd;have hvl:vs.length <= 16000000:=by have:=HAT.out.len;omega
    rcases begins_le (s.data.toList.drop (a + 1)) with hb | hb | hb | hb | hb
    ·have hnm:isMarkB (s.data.toList.drop a) = false:=by rw [hd,begins_mark,hb];rfl
     rw [hb] at HBG;clear hd hb h60 hvl;go_wp2_with fail;refine HBG.out.mono ?_;rintro e wb ⟨rfl,hwb⟩;subst hwb
     have HMK2:Hid (∀ t,a + 1 <= t -> markN (s.data.toList.drop (a + 1)) = t - (a + 1) -> markN (s.data.toList.drop a) = t - a):=hide fun t h1 h2=>by
      rw [drop_cons s a hlt,markN_next (by rw [<- drop_cons s a hlt];exact hnm),h2];omega
     clear hnm;go_wp2_with fail;go_loopw [6] (fun tv wr=>∃ t:Nat,a + 1 <= t /\ t <= s.size /\ tv = .int .i64 t /\ Hid (Sc w.heap.size w.heap.size s o vs w wr) /\ Hid (markN (s.data.toList.drop (a + 1)) = (t - (a + 1)) + markN (s.data.toList.drop t))) (fun tv _=>s.size - (intOf tv).toNat)
     case atStart=>exact ⟨a + 1,Nat.le_refl _,by omega,by first | rfl | go_num,HS,hide (by rw [Nat.sub_self,Nat.zero_add])⟩
     case round =>
      clear HS;obtain ⟨t,hat,hts,rfl,HS,HMI⟩:=hrel
      by_cases hlt2:t < s.size
      ·have hd2:=drop_cons s t hlt2
       by_cases g60:s[t] = 60
       ·have t61:((s[t].toNat:Int) == 60) = true:=tT 60 g60 (by omega);have t62:((s[t].toNat:Int) != 60) = false:=by rw [bne,t61];rfl
        have HBG:=hide (begins13_any s w.heap.size t wr (by omega) hlt2 g60 HS.out.c0);have hmk:=begins_mark (s.data.toList.drop (t + 1));rw [g60] at hd2;rw [<- hd2] at hmk;obtain ⟨n2,hn2⟩:∃ n2,beginsN (s.data.toList.drop (t + 1)) = n2:=⟨_,rfl⟩
        rw [hn2] at HBG hmk
        by_cases hz:n2 = 0
        ·have HMI2:Hid (markN (s.data.toList.drop (a + 1)) = (t + 1 - (a + 1)) + markN (s.data.toList.drop (t + 1))):=hide (by
          rw [HMI.out,hd2,markN_next (by rw [<- hd2,hmk,hz];rfl)];omega)
         subst hz;clear hd2 hmk hn2 g60;go_wp2_with fail;refine HBG.out.mono ?_;rintro e wb ⟨rfl,hwb⟩;subst hwb;go_wp2_with fail;go_roundw
         case rel=>exact ⟨t + 1,by omega,by omega,by go_num,HS,HMI2⟩
         case measure=>simp [intOf];omega
        ·have HMN:Hid (markN (s.data.toList.drop (a + 1)) = t - (a + 1)):=hide (by
          rw [HMI.out,hd2,markN_here (by rw [<- hd2,hmk];exact decide_eq_true hz)];omega)
         have t63:((n2:Int) == 0) = false:=by rw [beq_eq_false_iff_ne];omega
         clear hd2 hmk hn2 g60 hz HMI;go_wp2_with fail;refine HBG.out.mono ?_;rintro e wb ⟨rfl,hwb⟩;subst hwb;have hN:=HMN.out;obtain ⟨P,hP⟩:∃ P,s.extract a t = P:=⟨_,rfl⟩
         have hPl:P.data.toList = (s.data.toList.drop a).take (t - a):=by rw [<- hP,extract_list,List.drop_take]
         have zP:P.size <= 8000000:=by rw [<- toList_length,hPl,List.length_take,List.length_drop];omega
         obtain ⟨D,hD⟩:∃ D,D = str (decE P.data.toList):=⟨_,rfl⟩
         have zD:D.size <= 8000000:=by
          rw [hD,str_size];have:=decE_len _ P.data.toList (Nat.le_refl _);rw [toList_length] at this;omega
         have HDE:=hide (fun w2=>refDecode12_any P w2 (by omega));rw [<- hD] at HDE;have hDl:D.data.toList = decE ((s.data.toList.drop a).take (t - a)):=by rw [hD,str_toList,hPl]
         have HCH:=hide (fun w2 (h2:Sc w.heap.size w.heap.size s o vs w w2)=>chars13_any _ _ s o vs D w w2 h2 (by have:=HAT.out.len;omega) (fun p hp hk=>by have:=HAT.out.last hp hk;omega));have HDL:=hide hDl;have q0:(a:Int) <= t:=by omega
         have q1:(t:Int) <= s.size:=by omega
         have HMT:=hide (HMK2.out t (by omega) hN);clear hPl zP zD hD hDl hN;go_wp2_with fail;refine (HDE.out _).mono ?_;rintro e w3 ⟨rfl,hb3⟩;have HS3:=hide (HS.out.kept hb3);clear hb3;go_wp2_with fail;refine (HCH.out _ HS3.out).mono ?_;rintro e w4 ⟨rfl,o2,vs2,hs2,hm2,hl2⟩;have HA2:=hide (HAT.out.text hlt (by omega) (by omega) HMT.out (by rw [hm2,HDL.out]) hl2);have HS2:=hide hs2;clear hs2 hm2 hl2;go_wp2_with fail;go_roundw
         case rel=>exact ⟨t,o2,vs2,by omega,rfl,HS2,HA2⟩
         case measure=>simp [intOf];omega
       ·have t61:((s[t].toNat:Int) == 60) = false:=tF 60 g60 (by omega);have t62:((s[t].toNat:Int) != 60) = true:=by rw [bne,t61];rfl
        have HMI2:Hid (markN (s.data.toList.drop (a + 1)) = (t + 1 - (a + 1)) + markN (s.data.toList.drop (t + 1))):=hide (by
         rw [HMI.out,hd2,markN_next (isMark_off g60)];omega)
        clear hd2 g60;go_wp2_with fail;go_roundw
        case rel=>exact ⟨t + 1,by omega,by omega,by go_num,HS,HMI2⟩
        case measure=>simp [intOf];omega
      ·have HMN:Hid (markN (s.data.toList.drop (a + 1)) = t - (a + 1)):=hide (by
        have hdn:s.data.toList.drop t = []:=List.drop_eq_nil_of_le (by rw [toList_length];omega);rw [HMI.out,hdn];rfl)
       clear HMI;have hN:=HMN.out;obtain ⟨P,hP⟩:∃ P,s.extract a t = P:=⟨_,rfl⟩
       have hPl:P.data.toList = (s.data.toList.drop a).take (t - a):=by rw [<- hP,extract_list,List.drop_take]
       have zP:P.size <= 8000000:=by rw [<- toList_length,hPl,List.length_take,List.length_drop];omega
       obtain ⟨D,hD⟩:∃ D,D = str (decE P.data.toList):=⟨_,rfl⟩
       have zD:D.size <= 8000000:=by
        rw [hD,str_size];have:=decE_len _ P.data.toList (Nat.le_refl _);rw [toList_length] at this;omega
       have HDE:=hide (fun w2=>refDecode12_any P w2 (by omega));rw [<- hD] at HDE;have hDl:D.data.toList = decE ((s.data.toList.drop a).take (t - a)):=by rw [hD,str_toList,hPl]
       have HCH:=hide (fun w2 (h2:Sc w.heap.size w.heap.size s o vs w w2)=>chars13_any _ _ s o vs D w w2 h2 (by have:=HAT.out.len;omega) (fun p hp hk=>by have:=HAT.out.last hp hk;omega));have HDL:=hide hDl;have q0:(a:Int) <= t:=by omega
       have q1:(t:Int) <= s.size:=by omega
       have HMT:=hide (HMK2.out t (by omega) hN);clear hPl zP zD hD hDl hN;go_wp2_with fail;refine (HDE.out _).mono ?_;rintro e w3 ⟨rfl,hb3⟩;have HS3:=hide (HS.out.kept hb3);clear hb3;go_wp2_with fail;refine (HCH.out _ HS3.out).mono ?_;rintro e w4 ⟨rfl,o2,vs2,hs2,hm2,hl2⟩;have HA2:=hide (HAT.out.text hlt (by omega) (by omega) HMT.out (by rw [hm2,HDL.out]) hl2);have HS2:=hide hs2;clear hs2 hm2 hl2;go_wp2_with fail;go_roundw
       case rel=>exact ⟨t,o2,vs2,by omega,rfl,HS2,HA2⟩
       case measure=>simp [intOf];omega
    ·have hb0:beginsN (s.data.toList.drop (a + 1)) ≠ 0:=by rw [hb];decide
     have HME:=hide (begins_one hb).symm;have HMK:=hide (tagStart13_any _ _ s o vs a w wr HS.out (by omega) (by omega) (by omega));rw [hb] at HBG;clear hb h60 hvl;go_wp2_with fail;refine HBG.out.mono ?_;rintro e wb ⟨rfl,hwb⟩;subst hwb;go_wp2_with fail;refine HMK.out.mono ?_;rintro e w1 ⟨k,rfl,hk,hdk,o2,vs2,hs2,hm2,hl2⟩;have HA2:=hide ((HAT.out.mark hd hb0 hlt hk (hdk.trans (congrArg (fun z=>z.2.2) HME.out)) (hm2.trans (by rw [HME.out])) hl2));have HS2:=hide hs2;have HK2:=hide hk;clear hk hdk hs2 hm2 hl2;go_wp2_with fail;go_roundw
     case rel=>exact ⟨k,o2,vs2,HK2.out,rfl,HS2,hide HA2.out.1⟩
     case measure=>have h1:=HA2.out.2;have h2:=HK2.out;simp [intOf];omega
    ·have hb0:beginsN (s.data.toList.drop (a + 1)) ≠ 0:=by rw [hb];decide
     obtain ⟨q,hq1,hq2⟩:=begins_two hb;have hq3:s.data.toList.drop (a + 2) = q:=by rw [<- drop_succ13 hq1]
     have HME:Hid (endL decE (s.data.toList.drop (a + 2)) = markL decE (s.data.toList.drop (a + 1))):=hide (by rw [hq2,hq3])
     have ha2:a + 2 <= s.size:=by
      have:=congrArg List.length hq1;rw [List.length_drop,toList_length,List.length_cons] at this;omega
     have HMK:=hide (fun e w' (h:MarkS w.heap.size w.heap.size s (vs.map Prod.fst) (endL decE (s.data.toList.drop (a + 2))) (vs.length + 1) w e w')=>h.more (Nat.le_succ (vs.length + 1)));have HMK:=hide ((tagEnd13_any _ _ s o vs a w wr HS.out (by omega) (by omega) ha2).mono HMK.out);rw [hb] at HBG;clear hb h60 hvl hq1 hq2 hq3 ha2;go_wp2_with fail;refine HBG.out.mono ?_;rintro e wb ⟨rfl,hwb⟩;subst hwb;go_wp2_with fail;refine HMK.out.mono ?_;rintro e w1 ⟨k,rfl,hk,hdk,o2,vs2,hs2,hm2,hl2⟩;have HA2:=hide ((HAT.out.mark hd hb0 hlt hk (hdk.trans (congrArg (fun z=>z.2.2) HME.out)) (hm2.trans (by rw [HME.out])) hl2));have HS2:=hide hs2;have HK2:=hide hk;clear hk hdk hs2 hm2 hl2;go_wp2_with fail;go_roundw
     case rel=>exact ⟨k,o2,vs2,HK2.out,rfl,HS2,hide HA2.out.1⟩
     case measure=>have h1:=HA2.out.2;have h2:=HK2.out;simp [intOf];omega
    ·have hb0:beginsN (s.data.toList.drop (a + 1)) ≠ 0:=by rw [hb];decide
     have HMK:=hide (fun e w' (h:MarkS w.heap.size w.heap.size s (vs.map Prod.fst) (markL decE (s.data.toList.drop (a + 1))) (vs.length + 1) w e w')=>h.more (Nat.le_succ (vs.length + 1)));have HMK:=hide ((markup13_any _ _ s o vs a _ w wr HS.out (by omega) (by omega) hd (.inl hb)).mono HMK.out);rw [hb] at HBG;clear hb h60 hvl;go_wp2_with fail;refine HBG.out.mono ?_;rintro e wb ⟨rfl,hwb⟩;subst hwb;go_wp2_with fail;refine HMK.out.mono ?_;rintro e w1 ⟨k,rfl,hk,hdk,o2,vs2,hs2,hm2,hl2⟩;have HA2:=hide ((HAT.out.mark hd hb0 hlt hk hdk hm2 hl2));have HS2:=hide hs2;have HK2:=hide hk;clear hk hdk hs2 hm2 hl2;go_wp2_with fail;go_roundw
     case rel=>exact ⟨k,o2,vs2,HK2.out,rfl,HS2,hide HA2.out.1⟩
     case measure=>have h1:=HA2.out.2;have h2:=HK2.out;simp [intOf];omega
    ·have hb0:beginsN (s.data.toList.drop (a + 1)) ≠ 0:=by rw [hb];decide
     have HMK:=hide (fun e w' (h:MarkS w.heap.size w.heap.size s (vs.map Prod.fst) (markL decE (s.data.toList.drop (a + 1))) (vs.length + 1) w e w')=>h.more (Nat.le_succ (vs.length + 1)));have HMK:=hide ((markup13_any _ _ s o vs a _ w wr HS.out (by omega) (by omega) hd (.inr hb)).mono HMK.out);rw [hb] at HBG;clear hb h60 hvl;go_wp2_with fail;refine HBG.out.mono ?_;rintro e wb ⟨rfl,hwb⟩;subst hwb;go_wp2_with fail;refine HMK.out.mono ?_;rintro e w1 ⟨k,rfl,hk,hdk,o2,vs2,hs2,hm2,hl2⟩;have HA2:=hide ((HAT.out.mark hd hb0 hlt hk hdk hm2 hl2));have HS2:=hide hs2;have HK2:=hide hk;clear hk hdk hs2 hm2 hl2;go_wp2_with fail;go_roundw
     case rel=>exact ⟨k,o2,vs2,HK2.out,rfl,HS2,hide HA2.out.1⟩
     case measure=>have h1:=HA2.out.2;have h2:=HK2.out;simp [intOf];omega
   ·have t60:((s[a].toNat:Int) == 60) = false:=tF 60 h60 (by omega);have hnm:isMarkB (s.data.toList.drop a) = false:=by rw [drop_cons s a hlt];exact isMark_off h60
    clear h60
    have HMK2:Hid (∀ t,a + 1 <= t -> markN (s.data.toList.drop (a + 1)) = t - (a + 1) -> markN (s.data.toList.drop a) = t - a):=hide fun t h1 h2=>by
     rw [drop_cons s a hlt,markN_next (by rw [<- drop_cons s a hlt];exact hnm),h2];omega
    clear hnm;go_wp2_with fail;go_loopw [6] (fun tv wr=>∃ t:Nat,a + 1 <= t /\ t <= s.size /\ tv = .int .i64 t /\ Hid (Sc w.heap.size w.heap.size s o vs w wr) /\ Hid (markN (s.data.toList.drop (a + 1)) = (t - (a + 1)) + markN (s.data.toList.drop t))) (fun tv _=>s.size - (intOf tv).toNat)
    case atStart=>exact ⟨a + 1,Nat.le_refl _,by omega,by first | rfl | go_num,HS,hide (by rw [Nat.sub_self,Nat.zero_add])⟩
    case round =>
     clear HS;obtain ⟨t,hat,hts,rfl,HS,HMI⟩:=hrel
     by_cases hlt2:t < s.size
     ·have hd2:=drop_cons s t hlt2
      by_cases g60:s[t] = 60
      ·have t61:((s[t].toNat:Int) == 60) = true:=tT 60 g60 (by omega);have t62:((s[t].toNat:Int) != 60) = false:=by rw [bne,t61];rfl
       have HBG:=hide (begins13_any s w.heap.size t wr (by omega) hlt2 g60 HS.out.c0);have hmk:=begins_mark (s.data.toList.drop (t + 1));rw [g60] at hd2;rw [<- hd2] at hmk;obtain ⟨n2,hn2⟩:∃ n2,beginsN (s.data.toList.drop (t + 1)) = n2:=⟨_,rfl⟩
       rw [hn2] at HBG hmk
       by_cases hz:n2 = 0
       ·have HMI2:Hid (markN (s.data.toList.drop (a + 1)) = (t + 1 - (a + 1)) + markN (s.data.toList.drop (t + 1))):=hide (by
         rw [HMI.out,hd2,markN_next (by rw [<- hd2,hmk,hz];rfl)];omega)
        subst hz;clear hd2 hmk hn2 g60;go_wp2_with fail;refine HBG.out.mono ?_;rintro e wb ⟨rfl,hwb⟩;subst hwb;go_wp2_with fail;go_roundw
        case rel=>exact ⟨t + 1,by omega,by omega,by go_num,HS,HMI2⟩
        case measure=>simp [intOf];omega
       ·have HMN:Hid (markN (s.data.toList.drop (a + 1)) = t - (a + 1)):=hide (by
         rw [HMI.out,hd2,markN_here (by rw [<- hd2,hmk];exact decide_eq_true hz)];omega)
        have t63:((n2:Int) == 0) = false:=by rw [beq_eq_false_iff_ne];omega
        clear hd2 hmk hn2 g60 hz HMI;go_wp2_with fail;refine HBG.out.mono ?_;rintro e wb ⟨rfl,hwb⟩;subst hwb;have hN:=HMN.out;obtain ⟨P,hP⟩:∃ P,s.extract a t = P:=⟨_,rfl⟩
        have hPl:P.data.toList = (s.data.toList.drop a).take (t - a):=by rw [<- hP,extract_list,List.drop_take]
        have zP:P.size <= 8000000:=by rw [<- toList_length,hPl,List.length_take,List.length_drop];omega
        obtain ⟨D,hD⟩:∃ D,D = str (decE P.data.toList):=⟨_,rfl⟩
        have zD:D.size <= 8000000:=by
         rw [hD,str_size];have:=decE_len _ P.data.toList (Nat.le_refl _);rw [toList_length] at this;omega
        have HDE:=hide (fun w2=>refDecode12_any P w2 (by omega));rw [<- hD] at HDE;have hDl:D.data.toList = decE ((s.data.toList.drop a).take (t - a)):=by rw [hD,str_toList,hPl]
        have HCH:=hide (fun w2 (h2:Sc w.heap.size w.heap.size s o vs w w2)=>chars13_any _ _ s o vs D w w2 h2 (by have:=HAT.out.len;omega) (fun p hp hk=>by have:=HAT.out.last hp hk;omega));have HDL:=hide hDl;have q0:(a:Int) <= t:=by omega
        have q1:(t:Int) <= s.size:=by omega
        have HMT:=hide (HMK2.out t (by omega) hN);clear hPl zP zD hD hDl hN;go_wp2_with fail;refine (HDE.out _).mono ?_;rintro e w3 ⟨rfl,hb3⟩;have HS3:=hide (HS.out.kept hb3);clear hb3;go_wp2_with fail;refine (HCH.out _ HS3.out).mono ?_;rintro e w4 ⟨rfl,o2,vs2,hs2,hm2,hl2⟩;have HA2:=hide (HAT.out.text hlt (by omega) (by omega) HMT.out (by rw [hm2,HDL.out]) hl2);have HS2:=hide hs2;clear hs2 hm2 hl2;go_wp2_with fail;go_roundw
        case rel=>exact ⟨t,o2,vs2,by omega,rfl,HS2,HA2⟩
        case measure=>simp [intOf];omega
      ·have t61:((s[t].toNat:Int) == 60) = false:=tF 60 g60 (by omega);have t62:((s[t].toNat:Int) != 60) = true:=by rw [bne,t61];rfl
       have HMI2:Hid (markN (s.data.toList.drop (a + 1)) = (t + 1 - (a + 1)) + markN (s.data.toList.drop (t + 1))):=hide (by
        rw [HMI.out,hd2,markN_next (isMark_off g60)];omega)
       clear hd2 g60;go_wp2_with fail;go_roundw
       case rel=>exact ⟨t + 1,by omega,by omega,by go_num,HS,HMI2⟩
       case measure=>simp [intOf];omega
     ·have HMN:Hid (markN (s.data.toList.drop (a + 1)) = t - (a + 1)):=hide (by
       have hdn:s.data.toList.drop t = []:=List.drop_eq_nil_of_le (by rw [toList_length];omega);rw [HMI.out,hdn];rfl)
      clear HMI;have hN:=HMN.out;obtain ⟨P,hP⟩:∃ P,s.extract a t = P:=⟨_,rfl⟩
      have hPl:P.data.toList = (s.data.toList.drop a).take (t - a):=by rw [<- hP,extract_list,List.drop_take]
      have zP:P.size <= 8000000:=by rw [<- toList_length,hPl,List.length_take,List.length_drop];omega
      obtain ⟨D,hD⟩:∃ D,D = str (decE P.data.toList):=⟨_,rfl⟩
      have zD:D.size <= 8000000:=by
       rw [hD,str_size];have:=decE_len _ P.data.toList (Nat.le_refl _);rw [toList_length] at this;omega
      have HDE:=hide (fun w2=>refDecode12_any P w2 (by omega));rw [<- hD] at HDE;have hDl:D.data.toList = decE ((s.data.toList.drop a).take (t - a)):=by rw [hD,str_toList,hPl]
      have HCH:=hide (fun w2 (h2:Sc w.heap.size w.heap.size s o vs w w2)=>chars13_any _ _ s o vs D w w2 h2 (by have:=HAT.out.len;omega) (fun p hp hk=>by have:=HAT.out.last hp hk;omega));have HDL:=hide hDl;have q0:(a:Int) <= t:=by omega
      have q1:(t:Int) <= s.size:=by omega
      have HMT:=hide (HMK2.out t (by omega) hN);clear hPl zP zD hD hDl hN;go_wp2_with fail;refine (HDE.out _).mono ?_;rintro e w3 ⟨rfl,hb3⟩;have HS3:=hide (HS.out.kept hb3);clear hb3;go_wp2_with fail;refine (HCH.out _ HS3.out).mono ?_;rintro e w4 ⟨rfl,o2,vs2,hs2,hm2,hl2⟩;have HA2:=hide (HAT.out.text hlt (by omega) (by omega) HMT.out (by rw [hm2,HDL.out]) hl2);have HS2:=hide hs2;clear hs2 hm2 hl2;go_wp2_with fail;go_roundw
      case rel=>exact ⟨t,o2,vs2,by omega,rfl,HS2,HA2⟩
      case measure=>simp [intOf];omega
  ·have HD:=hide (HAT.out.done (by omega));have d1:=HS.out.c1;go_wp2_with fail;go_ret;exact ⟨o,vs,rfl,HS.out.toks,HD.out,HS.out.below⟩
end Go.Proofs.YtiejmkjpgjbodaaGreatDoor
