/- WALK of the law CssSafe. No statement is proved here. Own work of the verifier. -/
import Derived.Test.YtlhjdjjbmljilaaDoorCssL0
import Derived.Test.YtlhjdjjbmljilaaDoorCssT
namespace Go.Proofs.YtlhjdjjbmljilaaDoor
open Go.RowKit
set_option linter.unusedVariables false
set_option linter.unusedSimpArgs false
set_option maxRecDepth 100000
attribute [local go_sem] eqTwo
set_option maxHeartbeats 4000000 in
theorem law_CssSafe (s : ByteArray) (hss : s.size ≤ maxLen) (t : ByteArray) (hts : t.size ≤ maxLen) (w : World) (hE : EnvC w) :
    Calls Tryd.prog 8 #[.string s, .string t] w fun e w' => e = .returned (.bool true) ∧ Below w.heap.size w w' := by
  rcases Nat.lt_or_ge 3000 s.size with hqs | hls
  · have HDs : Hid (decide (s.size ≤ 3000) = false) := decide_eq_false (by omega)
    have HE := hide hE
    clear hE
    go_enter Tryd.func8, Tryd.ntmps8
    go_wp2_with fail
    refine (short17_any s _ hss).mono ?_
    rintro e w1 ⟨rfl, rfl⟩
    rw [HDs.out]
    go_wp2_with fail
    refine (live17_any _ HE.out).mono ?_
    rintro e w1 ⟨rfl, hb1⟩
    go_wp2_with fail
    go_ret
    exact ⟨rfl, hb1⟩
  have HDs : Hid (decide (s.size ≤ 3000) = true) := decide_eq_true hls
  rcases Nat.lt_or_ge 3000 t.size with hqt | hlt
  · have HDt : Hid (decide (t.size ≤ 3000) = false) := decide_eq_false (by omega)
    have HE := hide hE
    clear hE
    go_enter Tryd.func8, Tryd.ntmps8
    go_wp2_with fail
    refine (short17_any s _ hss).mono ?_
    rintro e w1 ⟨rfl, rfl⟩
    rw [HDs.out]
    go_wp2_with fail
    refine (short17_any t _ hts).mono ?_
    rintro e w1 ⟨rfl, rfl⟩
    rw [HDt.out]
    go_wp2_with fail
    refine (live17_any _ HE.out).mono ?_
    rintro e w1 ⟨rfl, hb1⟩
    go_wp2_with fail
    go_ret
    exact ⟨rfl, hb1⟩
  have HDt : Hid (decide (t.size ≤ 3000) = true) := decide_eq_true hlt
  obtain ⟨B, hB⟩ : ∃ B, safeD (s.data.toList, t.data.toList) = B := ⟨_, rfl⟩
  have HB := hide hB
  have t0 : (B == B) = true := by cases B <;> rfl
  have HE0 := hide hE
  have HB0 : Hid (Below w.heap.size w w) := hide (Below.refl _ _)
  clear hB hE
  go_enter Tryd.func8, Tryd.ntmps8
  go_wp2_with fail
  refine (short17_any s _ hss).mono ?_
  rintro e w1 ⟨rfl, rfl⟩
  rw [HDs.out]
  go_wp2_with fail
  refine (short17_any t _ hts).mono ?_
  rintro e w1 ⟨rfl, rfl⟩
  rw [HDt.out]
  go_wp2_with fail
  refine (cssSafe_any s t _ HE0.out hts).mono ?_
  rintro e w1 ⟨rfl, rfl⟩
  rw [HB.out]
  go_wp2_with fail
  refine (ref17Safe_any s t _ (by omega)).mono ?_
  rintro e w1 ⟨rfl, rfl⟩
  rw [HB.out]
  go_wp2_with fail
  refine (live17_any _ HE0.out).mono ?_
  rintro e w1_ ⟨rfl, hb⟩
  go_wp2_with fail
  go_ret
  exact ⟨rfl, HB0.out.trans (hb.mono HB0.out.size)⟩
end Go.Proofs.YtlhjdjjbmljilaaDoor
