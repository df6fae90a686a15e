/- WALK of the law PctExtended. No statement is proved here. -/
import Derived.Test.YtienjpelmbldpaaPctLaw0
import Derived.Test.YtienjpelmbldpaaPctRefX
namespace Go.Proofs.Ytienjpelmbldpaa
open Go.RowKit
set_option linter.unusedVariables false
set_option linter.unusedSimpArgs false

set_option maxHeartbeats 1000000 in
theorem law_PctExtended (s : ByteArray) (hss : s.size ≤ maxLen) (w : World) :
    Calls Try.prog 4 #[.string s] w fun e w' => e = .returned (.bool true) ∧ Below w.heap.size w w' := by
  rcases Nat.lt_or_ge 5000 s.size with hqs | hs
  · have HDs : Hid (decide (s.size ≤ 5000) = false) := decide_eq_false (by omega)
    go_enter Try.func4, Try.ntmps4
    go_wp2_with fail
    refine (short3_any s _ hss).mono ?_
    rintro e w1 ⟨rfl, rfl⟩
    rw [HDs.out]
    go_wp2_with fail
    refine (live3_any _).mono ?_
    rintro e w1 ⟨rfl, hb1⟩
    go_wp2_with fail
    go_ret
    exact ⟨rfl, hb1⟩
  have HDs : Hid (decide (s.size ≤ 5000) = true) := decide_eq_true hs
  have hcase : (∃ a b, pExt s.data.toList = some (a, b)) ∨ pExt s.data.toList = none := by
    cases h : pExt s.data.toList with
    | none => exact .inr rfl
    | some p => obtain ⟨a, b⟩ := p; exact .inl ⟨a, b, rfl⟩
  have hcase2 : ∃ a b c, extV (pExt s.data.toList) = .tuple #[.string a, .string b, .bool c] := by
    rcases hcase with ⟨a, b, h⟩ | h
    · rw [h]; exact ⟨_, _, _, rfl⟩
    · rw [h]; exact ⟨_, _, _, rfl⟩
  obtain ⟨xa, xb, xc, hx⟩ := hcase2
  have HX := hide hx
  clear hx hcase
  go_enter Try.func4, Try.ntmps4
  go_wp2_with fail
  refine (short3_any s _ hss).mono ?_
  rintro e w1 ⟨rfl, rfl⟩
  rw [HDs.out]
  go_wp2_with fail
  refine (extended_any _ _ (by omega)).mono ?_
  rintro e w1 ⟨rfl, hb1⟩
  rw [HX.out]
  go_wp2_with fail
  refine (refExtended_any _ _ (by omega)).mono ?_
  rintro e w2 ⟨rfl, hb2⟩
  rw [HX.out]
  go_wp2_with fail
  have k2 := hb1.trans (hb2.mono hb1.size)
  refine (live3_any _).mono ?_
  rintro e wl ⟨rfl, hbl⟩
  go_wp2_with fail
  go_ret
  exact ⟨rfl, k2.trans (hbl.mono k2.size)⟩
end Go.Proofs.Ytienjpelmbldpaa
