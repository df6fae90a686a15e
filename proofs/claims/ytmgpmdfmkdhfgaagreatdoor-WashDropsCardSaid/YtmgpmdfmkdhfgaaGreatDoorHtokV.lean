import Derived.Test.YtmgpmdfmkdhfgaaGreatDoorHtokN
namespace Go.Proofs.YtmgpmdfmkdhfgaaGreatDoor
open Go.RowKit
set_option linter.unusedVariables false
set_option linter.unusedSimpArgs false
set_option maxRecDepth 100000
theorem hasPrefix_q (q a:UInt8) (r:List UInt8):Lib.hasPrefix (a :: r) [q] = decide (a = q):=by
 unfold Lib.hasPrefix;show ((q == a) && true) = _
 rw [Bool.and_true]
 by_cases h:a = q
 ·subst h;simp
 ·rw [decide_eq_false h];exact beq_false_of_ne (fun e=>h e.symm)
theorem quote_cut (q:UInt8) (l:List UInt8):(Lib.hasPrefix l [q] = true /\ ∃ r,l = q :: r /\ Lib.trimPrefix l [q] = r) \/ (Lib.hasPrefix l [q] = false /\ l.head? ≠ some q):=by
 cases l with
 | nil=>exact .inr ⟨rfl,by simp⟩
 | cons a r =>
  by_cases h:a = q
  ·subst h;have hp:Lib.hasPrefix (a :: r) [a] = true:=by rw [hasPrefix_q];exact decide_eq_true rfl
   refine .inl ⟨hp,r,rfl,?_⟩;unfold Lib.trimPrefix;rw [hp];rfl
  ·exact .inr ⟨by rw [hasPrefix_q];exact decide_eq_false h,by simpa using h⟩
theorem value_q1 (r:List UInt8):valueL (34 :: r) = (beforeC 34 r,afterC 34 r):=by unfold valueL;simp
theorem value_q2 (r:List UInt8):valueL (39 :: r) = (beforeC 39 r,afterC 39 r):=by unfold valueL;simp
theorem value_no {l:List UInt8} (h1:l.head? ≠ some 34) (h2:l.head? ≠ some 39):valueL l = upL valueEndB l:=by
 cases l with
 | nil=>rfl
 | cons c r =>
  unfold valueL;simp only;rw [if_neg (by simpa using h1),if_neg (by simpa using h2)]
theorem valueEnd_has (c:UInt8):(⟨#[32,9,10,12,13,62]⟩:ByteArray).data.toList.contains c = valueEndB c:=by
 show ([32,9,10,12,13,62]:List UInt8).contains c = valueEndB c
 unfold valueEndB whB;simp only [List.contains_cons,List.contains_nil,Bool.or_false,Bool.or_assoc]
theorem idxQ (k:Nat) (h:k < 2) (w:World):(Instr.index 142 (Value.agg #[.string ⟨#[34]⟩,.string ⟨#[39]⟩]) (.int .i64 k)).run Tryz.prog w = .ok (.string (if k = 0 then ⟨#[34]⟩ else ⟨#[39]⟩)) w:=by
 match k,h with
 | 0,_=>rfl
 | 1,_=>rfl
set_option maxHeartbeats 4000000 in
theorem readValue_any (s:ByteArray) (w:World) (hs:s.size <= 16777216) :
  Calls Tryz.prog 147 #[.string s] w fun e w'=>e = .returned (upV (valueL s.data.toList)) /\ Below w.heap.size w w':=by
 have hlen:=toList_length s;have i0:∀ w:World,(Instr.index 142 (Value.agg #[.string ⟨#[34]⟩,.string ⟨#[39]⟩]) (.int .i64 0)).run Tryz.prog w = .ok (.string ⟨#[34]⟩) w:=fun w=>idxQ 0 (by omega) w
 have i1:∀ w:World,(Instr.index 142 (Value.agg #[.string ⟨#[34]⟩,.string ⟨#[39]⟩]) (.int .i64 1)).run Tryz.prog w = .ok (.string ⟨#[39]⟩) w:=fun w=>idxQ 1 (by omega) w
 have HU0:=hide (fun w2=>upTo0_any s ⟨#[32,9,10,12,13,62]⟩ valueEndB w2 valueEnd_has hs (by decide) (by decide) (by decide));go_enter Tryz.func147,Tryz.ntmps147;go_wp2_with fail;go_loopw [12] (fun i wr=>∃ k:Nat,k <= 2 /\ i = .int .i64 k /\ Hid (1 <= k -> s.data.toList.head? ≠ some 34) /\ Hid (2 <= k -> s.data.toList.head? ≠ some 39) /\ Hid (wr = w)) (fun i _=>2 - (intOf i).toNat)
 case atStart=>exact ⟨0,Nat.zero_le _,rfl,hide (fun h=>absurd h (by omega)),hide (fun h=>absurd h (by omega)),hide rfl⟩
 case round =>
  obtain ⟨k,hk,rfl,H1,H2,HW⟩:=hrel;obtain rfl:=HW.out
  match k,hk with
  | 0,_ =>
   rcases quote_cut 34 s.data.toList with ⟨hp,r,hr,htr⟩ | ⟨hp,hno⟩
   ·obtain ⟨T,hT⟩:∃ T:ByteArray,T = str r:=⟨_,rfl⟩
    have HP:Hid (Lib.hasPrefix s.data.toList (⟨#[34]⟩:ByteArray).data.toList = true):=hide hp
    have HT:Hid ((⟨(Lib.trimPrefix s.data.toList (⟨#[34]⟩:ByteArray).data.toList).toArray⟩:ByteArray) = T):=hide (by
     rw [hT];exact congrArg str htr)
    have hTl:T.data.toList = r:=by rw [hT,str_toList]
    have hTs:T.size <= 70368744177664:=by
     have:=congrArg List.length hr;rw [hlen,List.length_cons] at this;rw [hT,str_size];omega
    have HC:=hide (fun w2=>strCut_any T 34 w2 hTs);rw [hTl] at HC;have HR:Hid (valueL s.data.toList = (beforeC 34 r,afterC 34 r)):=hide (by rw [hr];exact value_q1 r);clear hp hr htr hT hTl hTs;go_wp2_with fail;refine (Tryz.strings_CutPrefix s _ _).mono ?_;rintro e w1 ⟨rfl,hw⟩;subst hw;rw [HP.out,HT.out];go_wp2_with fail;refine (HC.out _).mono ?_;rintro e w2 ⟨rfl,hb⟩;have HB:=hide hb;clear hb;unfold cutV;go_wp2_with fail;go_ret2;exact ⟨by rw [HR.out];rfl,HB.out⟩
   ·have HP:Hid (Lib.hasPrefix s.data.toList (⟨#[34]⟩:ByteArray).data.toList = false):=hide hp;have HN:=hide hno;clear hp hno;go_wp2_with fail;refine (Tryz.strings_CutPrefix s _ _).mono ?_;rintro e w1 ⟨rfl,hw⟩;subst hw;rw [HP.out];go_wp2_with fail;go_roundw
    case rel=>exact ⟨0 + 1,by omega,by go_num,hide (fun _=>HN.out),hide (fun h=>absurd h (by omega)),by first | exact hide trivial | exact hide rfl | exact trivial⟩
    case measure=>simp [intOf]
  | 1,_ =>
   rcases quote_cut 39 s.data.toList with ⟨hp,r,hr,htr⟩ | ⟨hp,hno⟩
   ·obtain ⟨T,hT⟩:∃ T:ByteArray,T = str r:=⟨_,rfl⟩
    have HP:Hid (Lib.hasPrefix s.data.toList (⟨#[39]⟩:ByteArray).data.toList = true):=hide hp
    have HT:Hid ((⟨(Lib.trimPrefix s.data.toList (⟨#[39]⟩:ByteArray).data.toList).toArray⟩:ByteArray) = T):=hide (by
     rw [hT];exact congrArg str htr)
    have hTl:T.data.toList = r:=by rw [hT,str_toList]
    have hTs:T.size <= 70368744177664:=by
     have:=congrArg List.length hr;rw [hlen,List.length_cons] at this;rw [hT,str_size];omega
    have HC:=hide (fun w2=>strCut_any T 39 w2 hTs);rw [hTl] at HC;have HR:Hid (valueL s.data.toList = (beforeC 39 r,afterC 39 r)):=hide (by rw [hr];exact value_q2 r);clear hp hr htr hT hTl hTs;go_wp2_with fail;refine (Tryz.strings_CutPrefix s _ _).mono ?_;rintro e w1 ⟨rfl,hw⟩;subst hw;rw [HP.out,HT.out];go_wp2_with fail;refine (HC.out _).mono ?_;rintro e w2 ⟨rfl,hb⟩;have HB:=hide hb;clear hb;unfold cutV;go_wp2_with fail;go_ret2;exact ⟨by rw [HR.out];rfl,HB.out⟩
   ·have HP:Hid (Lib.hasPrefix s.data.toList (⟨#[39]⟩:ByteArray).data.toList = false):=hide hp;have HN:=hide hno;clear hp hno;go_wp2_with fail;refine (Tryz.strings_CutPrefix s _ _).mono ?_;rintro e w1 ⟨rfl,hw⟩;subst hw;rw [HP.out];go_wp2_with fail;go_roundw
    case rel=>exact ⟨1 + 1,by omega,by go_num,hide (fun _=>H1.out (by omega)),hide (fun _=>HN.out),by first | exact hide trivial | exact hide rfl | exact trivial⟩
    case measure=>simp [intOf]
  | 2,_ =>
   have HR:=hide (value_no (H1.out (by omega)) (H2.out (by omega)));go_wp2_with fail;refine (HU0.out _).mono ?_;rintro e w1 ⟨rfl,hb⟩;have HB:=hide hb;clear hb;unfold upV;go_wp2_with fail;go_ret2;exact ⟨by rw [HR.out];rfl,HB.out⟩
end Go.Proofs.YtmgpmdfmkdhfgaaGreatDoor
