/- WALK of the law CharsValid. No statement is proved here. -/
import Derived.Test.YtommgcihcadeaaaDoorCharsLaw0
import Derived.Test.YtommgcihcadeaaaDoorRefValid
namespace Go.Proofs.YtommgcihcadeaaaDoor
open Go.RowKit
set_option linter.unusedVariables false
set_option linter.unusedSimpArgs false

set_option maxHeartbeats 2000000 in
theorem law_CharsValid (s : ByteArray) (hss : s.size ≤ maxLen) (w : World) (hT : Tab w) :
    Calls Tryd.prog 4 #[.string s] w fun e w' => e = .returned (.bool true) ∧ Below w.heap.size w w' := by
  have H0 := hide hT.lt
  have HT := hide hT
  clear hT
  rcases Nat.lt_or_ge 5000 s.size with hqs | hs
  · have HDs : Hid (decide (s.size ≤ 5000) = false) := decide_eq_false (by omega)
    go_enter Tryd.func4, Tryd.ntmps4
    go_wp2_with fail
    refine (short4_any s _ hss).mono ?_
    rintro e w1 ⟨rfl, rfl⟩
    rw [HDs.out]
    go_wp2_with fail
    refine (live4_any _ (HT.out.below (Below.refl _ _) H0.out)).mono ?_
    rintro e w1 ⟨rfl, hb1⟩
    go_wp2_with fail
    go_ret
    exact ⟨rfl, hb1⟩
  have HDs : Hid (decide (s.size ≤ 5000) = true) := decide_eq_true hs
  go_enter Tryd.func4, Tryd.ntmps4
  go_wp2_with fail
  refine (short4_any s _ hss).mono ?_
  rintro e w1 ⟨rfl, rfl⟩
  rw [HDs.out]
  go_wp2_with fail
  refine (valid_any s _ (by omega)).mono ?_
  rintro e w1 ⟨rfl, hb1⟩
  go_wp2_with fail
  refine (refValid_any s _ (by omega)).mono ?_
  rintro e w2 ⟨rfl, hb2⟩
  have k2 := hb1.trans (hb2.mono hb1.size)
  go_wp2_with fail
  refine (live4_any _ (HT.out.below k2 H0.out)).mono ?_
  rintro e wl ⟨rfl, hbl⟩
  go_wp2_with fail
  go_ret
  exact ⟨rfl, k2.trans (hbl.mono k2.size)⟩
end Go.Proofs.YtommgcihcadeaaaDoor
