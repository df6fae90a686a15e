/- WALK of the law ParamWrites. No statement is proved here. -/
import Derived.Test.YtienjpelmbldpaaGreatDoorParBackLaw
import Derived.Test.YtienjpelmbldpaaGreatDoorRef07X
namespace Go.Proofs.YtienjpelmbldpaaGreatDoor
open Go.RowKit
set_option linter.unusedVariables false
set_option linter.unusedSimpArgs false
set_option maxRecDepth 100000
set_option maxHeartbeats 4000000 in
theorem law_ParamWrites (s : ByteArray) (hss : s.size ≤ maxLen) (v : Value) (l : List ParL) {w : World} (hl : ParsIn w v l) (hE : EnvP w) :
    Calls Tryz.prog 4 #[.string s, v] w fun e w' => e = .returned (.bool true) ∧ Below w.heap.size w w' := by
  obtain ⟨A, cap, rfl⟩ := hl.form
  have HE := hide hE
  have HL := hide hl
  clear hl hE hss
  rcases Nat.lt_or_ge 1500 s.size with hq | hs
  · have HD : Hid (decide (s.size ≤ 1500) = false) := hide (decide_eq_false (by omega))
    clear hq
    go_enter Tryz.func4, Tryz.ntmps4
    go_wp2_with fail
    refine (short07_any s _).mono ?_
    rintro e wq ⟨rfl, rfl⟩
    rw [HD.out]
    go_wp2_with fail
    refine (live07_any _ HE.out).mono ?_
    rintro e wl ⟨rfl, hbl⟩
    go_wp2_with fail
    go_ret
    exact ⟨rfl, hbl⟩
  have HD : Hid (decide (s.size ≤ 1500) = true) := hide (decide_eq_true hs)
  cases hf_l : fewQ l with
  | false =>
    clear hs
    go_enter Tryz.func4, Tryz.ntmps4
    go_wp2_with fail
    refine (short07_any s _).mono ?_
    rintro e wq ⟨rfl, rfl⟩
    rw [HD.out]
    go_wp2_with fail
    refine (few07_any _ l _ HL.out).mono ?_
    rintro e wq ⟨rfl, rfl⟩
    rw [hf_l]
    go_wp2_with fail
    refine (live07_any _ HE.out).mono ?_
    rintro e wl ⟨rfl, hbl⟩
    go_wp2_with fail
    go_ret
    exact ⟨rfl, hbl⟩
  | true =>
  obtain ⟨hz, hn, hj⟩ := few_sizesQ hf_l s hs
  obtain ⟨m, hm⟩ := HE.out.2.1
  have CW := hide (write07_any s _ l m w HL.out (Nat.le_trans hs (by decide)) hz hn (Nat.le_trans hj (by decide)) hm)
  have CR := hide (fun (w' : World) (h : ParsIn w' (.slice A l.length cap) l) => refWrite07_any s _ l w' hs h hf_l)
  obtain ⟨S, hS⟩ : ∃ S, S = str (wrP s.data.toList l).1 := ⟨_, rfl⟩
  obtain ⟨z, hz2⟩ : ∃ z, z = (wrP s.data.toList l).2 := ⟨_, rfl⟩
  rw [← hS, ← hz2] at CW CR
  have q1 : (S.toList == S.toList) = true := beq_self_eq_true _
  have q2 : (z == z) = true := beq_self_eq_true _
  clear hm hS hz2 hz hn hj hs
  go_enter Tryz.func4, Tryz.ntmps4
  go_wp2_with fail
  refine (short07_any s _).mono ?_
  rintro e wq ⟨rfl, rfl⟩
  rw [HD.out]
  go_wp2_with fail
  refine (few07_any _ l _ HL.out).mono ?_
  rintro e wq ⟨rfl, rfl⟩
  rw [hf_l]
  go_wp2_with fail
  refine CW.out.mono ?_
  rintro e w1 ⟨rfl, hb1⟩
  have K1 := hide hb1
  clear hb1
  go_wp2_with fail
  refine (CR.out _ (HL.out.kept K1.out)).mono ?_
  rintro e w2 ⟨rfl, hb2⟩
  have K2 := hide (K1.out.trans (hb2.mono K1.out.size))
  clear hb2
  go_wp2_with fail
  refine (live07_any _ (HE.out.kept K2.out)).mono ?_
  rintro e wl ⟨rfl, hbl⟩
  go_wp2_with fail
  go_ret
  exact ⟨rfl, K2.out.trans (hbl.mono K2.out.size)⟩
end Go.Proofs.YtienjpelmbldpaaGreatDoor
