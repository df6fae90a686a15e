/- WALK of the law QpDecodes. No statement is proved here. -/
import Derived.Test.YtlllboleinnfiaaQpLaw0
import Derived.Test.YtlllboleinnfiaaQpRef2
namespace Go.Proofs.Ytlllboleinnfiaa
open Go.RowKit
set_option linter.unusedVariables false
set_option linter.unusedSimpArgs false

set_option maxHeartbeats 1000000 in
theorem law_QpDecodes (s : ByteArray) (hs : s.size ≤ maxLen) (w : World) :
    Calls Try.prog 3 #[.string s] w fun e w' => e = .returned (.bool true) ∧ Below w.heap.size w w' := by
  by_cases h3 : s.size ≤ 3000
  · have HD : Hid (decide (s.size ≤ 3000) = true) := decide_eq_true h3

    go_enter Try.func3, Try.ntmps3
    go_wp2_with fail
    refine (short2_any _ _ hs).mono ?_
    rintro e w1 ⟨rfl, rfl⟩
    rw [HD.out]
    go_wp2_with fail
    refine (decode_any _ _ (by omega)).mono ?_
    rintro e w1 ⟨rfl, hb1⟩
    go_wp2_with fail
    refine (refDecode_any _ _ (by omega)).mono ?_
    rintro e w2 ⟨rfl, hb2⟩

    go_wp2_with fail
    refine (live2_any _).mono ?_
    rintro e w3 ⟨rfl, hb3⟩
    go_wp2_with fail
    go_ret
    exact ⟨rfl, hb1.trans ((hb2.mono hb1.size).trans (hb3.mono (Nat.le_trans hb1.size hb2.size)))⟩
  · have HD : Hid (decide (s.size ≤ 3000) = false) := decide_eq_false h3
    go_enter Try.func3, Try.ntmps3
    go_wp2_with fail
    refine (short2_any _ _ hs).mono ?_
    rintro e w1 ⟨rfl, rfl⟩
    rw [HD.out]
    go_wp2_with fail
    refine (live2_any _).mono ?_
    rintro e w1 ⟨rfl, hb1⟩
    go_wp2_with fail
    go_ret
    exact ⟨rfl, hb1⟩
end Go.Proofs.Ytlllboleinnfiaa
