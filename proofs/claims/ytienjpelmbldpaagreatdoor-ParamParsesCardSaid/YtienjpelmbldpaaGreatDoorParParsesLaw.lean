/- WALK of the law ParamParses. No statement is proved here. -/
import Derived.Test.YtienjpelmbldpaaGreatDoorRef07S
import Derived.Test.YtienjpelmbldpaaGreatDoorParS
import Derived.Test.YtienjpelmbldpaaGreatDoorRef07P
namespace Go.Proofs.YtienjpelmbldpaaGreatDoor
open Go.RowKit
set_option linter.unusedVariables false
set_option linter.unusedSimpArgs false
set_option maxRecDepth 100000
theorem refGet07_any (v : Value) (l : List ParL) (name : ByteArray) (w : World) (h : ParsIn w v l) (hl : l.length ≤ 1000000) :
    Calls Tryz.prog 13 #[v, .string name] w fun e w' => e = .returned (optV (getP l name.data.toList)) ∧ Below w.heap.size w w' := by
  obtain ⟨o, ho⟩ : ∃ o, o = getP l name.data.toList := ⟨_, rfl⟩
  have CF := hide (find07_any v l name w h hl)
  rw [← ho] at CF ⊢
  obtain ⟨A, cap, rfl⟩ := h.form
  obtain ⟨tv, htv⟩ : ∃ tv, tv = str (o.getD []) := ⟨_, rfl⟩
  have e : optV o = .tuple #[.string tv, .bool o.isSome] := by rw [htv]; cases o <;> rfl
  have HE := hide e
  rw [e] at CF
  rw [HE.out]
  generalize o.isSome = b at CF ⊢
  clear e ho htv h
  go_enter Tryz.func13, Tryz.ntmps13
  go_wp2_with fail
  refine CF.out.mono ?_
  rintro e w1 ⟨rfl, hb1⟩
  have HB1 := hide hb1
  clear hb1
  go_wp2_with fail
  go_ret2
  exact ⟨rfl, HB1.out⟩
set_option maxHeartbeats 8000000 in
theorem law_ParamParses (s : ByteArray) (hss : s.size ≤ maxLen) (name : ByteArray) (hns : name.size ≤ maxLen) (w : World) (hE : EnvP w) :
    Calls Tryz.prog 3 #[.string s, .string name] w fun e w' => e = .returned (.bool true) ∧ Below w.heap.size w w' := by
  have HE := hide hE
  clear hE hss hns
  rcases Nat.lt_or_ge 1500 s.size with hq | hs
  · have HD : Hid (decide (s.size ≤ 1500) = false) := hide (decide_eq_false (by omega))
    clear hq
    go_enter Tryz.func3, Tryz.ntmps3
    go_wp2_with fail
    refine (short07_any s _).mono ?_
    rintro e wq ⟨rfl, rfl⟩
    rw [HD.out]
    go_wp2_with fail
    refine (live07_any _ HE.out).mono ?_
    rintro e wl ⟨rfl, hbl⟩
    go_wp2_with fail
    go_ret
    exact ⟨rfl, hbl⟩
  have HD : Hid (decide (s.size ≤ 1500) = true) := hide (decide_eq_true hs)
  have hlen : (parsP s.data.toList).2.length ≤ 999999 := by
    have h1 := pars_sizes s.data.toList
    rw [toList_length] at h1
    omega
  have CP := hide (parse07 s w (by omega) HE.out)
  have CR := hide (fun (w : World) => refParse07_any s w (by omega))
  obtain ⟨T, hT⟩ : ∃ T, T = str (parsP s.data.toList).1 := ⟨_, rfl⟩
  obtain ⟨L, hL⟩ : ∃ L, L = (parsP s.data.toList).2 := ⟨_, rfl⟩
  rw [← hT, ← hL] at CP CR
  rw [← hL] at hlen
  obtain ⟨o, ho⟩ : ∃ o, o = getP L name.data.toList := ⟨_, rfl⟩
  have CG := hide (fun (w' : World) (v : Value) (h : ParsIn w' v L) => get07_any v L name w' h (by omega))
  have CH := hide (fun (w' : World) (v : Value) (h : ParsIn w' v L) => refGet07_any v L name w' h (by omega))
  rw [← ho] at CG CH
  obtain ⟨tv, htv⟩ : ∃ tv, tv = str (o.getD []) := ⟨_, rfl⟩
  have e : optV o = .tuple #[.string tv, .bool o.isSome] := by rw [htv]; cases o <;> rfl
  rw [e] at CG CH
  generalize o.isSome = b at CG CH
  have q1 : (T.toList == T.toList) = true := beq_self_eq_true _
  have q2 : (tv.toList == tv.toList) = true := beq_self_eq_true _
  have q3 : (b == b) = true := beq_self_eq_true _
  have HSL : Hid (∀ (v1 v2 : Value) (w : World), ParsIn w v1 L → ParsIn w v2 L → Calls Tryz.prog 14 #[v1, v2] w fun e w' => e = .returned (.bool true) ∧ Below w.heap.size w w') := hide (fun v1 v2 w h1 h2 => by
    have := same07_any v1 v2 L L w h1 h2 (by omega)
    rw [decide_eq_true (rfl : L = L)] at this
    exact this)
  clear hT hL ho htv e hs hlen
  go_enter Tryz.func3, Tryz.ntmps3
  go_wp2_with fail
  refine (short07_any s _).mono ?_
  rintro e wq ⟨rfl, rfl⟩
  rw [HD.out]
  go_wp2_with fail
  refine CP.out.mono ?_
  rintro e w1 ⟨v1, rfl, hf1⟩
  obtain ⟨A1, c1, rfl⟩ := hf1.slice_len
  have K1 := hide hf1.below
  have F1 := hide hf1.in
  clear hf1
  go_wp2_with fail
  refine (CR.out _).mono ?_
  rintro e w2 ⟨v2, rfl, hf2⟩
  obtain ⟨A2, c2, rfl⟩ := hf2.slice_len
  have K2 := hide (K1.out.trans (hf2.below.mono K1.out.size))
  have F12 := hide (F1.out.kept hf2.below)
  have F2 := hide hf2.in
  clear hf2
  go_wp2_with fail
  refine (CG.out _ _ F12.out).mono ?_
  rintro e w3 ⟨rfl, hb3⟩
  have K3 := hide (K2.out.trans (hb3.mono K2.out.size))
  have F13 := hide (F12.out.kept hb3)
  have F23 := hide (F2.out.kept hb3)
  clear hb3
  go_wp2_with fail
  refine (CH.out _ _ F23.out).mono ?_
  rintro e w4 ⟨rfl, hb4⟩
  have K4 := hide (K3.out.trans (hb4.mono K3.out.size))
  have F14 := hide (F13.out.kept hb4)
  have F24 := hide (F23.out.kept hb4)
  clear hb4
  go_wp2_with fail
  refine (HSL.out _ _ _ F14.out F24.out).mono ?_
  rintro e w5 ⟨rfl, hb5⟩
  have K5 := hide (K4.out.trans (hb5.mono K4.out.size))
  clear hb5
  go_wp2_with fail
  refine (live07_any _ (HE.out.kept K5.out)).mono ?_
  rintro e wl ⟨rfl, hbl⟩
  go_wp2_with fail
  go_ret
  exact ⟨rfl, K5.out.trans (hbl.mono K5.out.size)⟩
end Go.Proofs.YtienjpelmbldpaaGreatDoor
