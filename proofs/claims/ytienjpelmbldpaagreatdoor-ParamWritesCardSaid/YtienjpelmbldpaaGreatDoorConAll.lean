/- PURE: a text without `=?`. No statement is proved here. -/
import Derived.Test.YtienjpelmbldpaaGreatDoorBaseO
namespace Go.Proofs.YtienjpelmbldpaaGreatDoor
open Go.RowKit
set_option linter.unusedVariables false
set_option linter.unusedSimpArgs false
set_option maxRecDepth 100000
theorem contains_all (l : List UInt8) : (!Lib.contains l [61, 63]) = (List.range l.length).all fun i => decide ((l.drop i).take 2 ≠ [61, 63]) := by
  have hp : ∀ i, Lib.occAt l [61, 63] i = decide ((l.drop i).take 2 = [61, 63]) := fun i => prefix_take (l.drop i) [61, 63]
  unfold Lib.contains
  rcases Lib.index_spec l [61, 63] with ⟨h1, h2⟩ | ⟨j, h1, h2, h3, _⟩
  · rw [h1]
    have : (List.range l.length).all (fun i => decide ((l.drop i).take 2 ≠ [61, 63])) = true := by
      rw [List.all_eq_true]
      intro i hi
      have := h2 i (Nat.le_of_lt (List.mem_range.1 hi))
      rw [hp] at this
      exact decide_eq_true (of_decide_eq_false this)
    rw [this]; rfl
  · rw [h1]
    have hj : (l.drop j).take 2 = [61, 63] := by rw [hp] at h3; exact of_decide_eq_true h3
    have hjl : j < l.length := by
      rcases Nat.lt_or_ge j l.length with h | h
      · exact h
      · rw [List.drop_eq_nil_of_le h] at hj; cases hj
    have h4 : decide (0 ≤ (j : Int)) = true := decide_eq_true (by omega)
    rw [h4]
    symm
    rw [Bool.not_true, List.all_eq_false]
    exact ⟨j, List.mem_range.2 hjl, by simp [hj]⟩
end Go.Proofs.YtienjpelmbldpaaGreatDoor
