import Derived.Test.YtiejmkjpgjbodaaGreatDoorWordP
namespace Go.Proofs.YtiejmkjpgjbodaaGreatDoor
set_option linter.unusedVariables false
set_option linter.unusedSimpArgs false
theorem whole_first {l : List UInt8} (h : wholeN l ≠ 0) : contB (l.getD 0 0) = false ∧ ∀ p, 0 < p → p < wholeN l → contB (l.getD p 0) = true := by
  have nc : ∀ a : UInt8, (a.toNat < 128 ∨ 192 ≤ a.toNat) → contB a = false := fun a ha => by
    cases hc : contB a with
    | false => rfl
    | true => have := (contB_iff a).1 hc; omega
  rcases whole_cases l with e | ⟨a, r, rfl, h1, e⟩ | ⟨a, b, r, rfl, h1, h2, h3, h4, e⟩ | ⟨a, b, c, r, rfl, h1, h2, h3, h4, h5, h6, e⟩ | ⟨a, b, c, d, r, rfl, h1, h2, h3, h4, h5, h6, h7, e⟩
  · exact absurd e h
  · rw [e]; exact ⟨nc a (.inl h1), fun p h0 h1 => by omega⟩
  · rw [e]; exact ⟨nc a (.inr h1), fun p h0 h1 => by
      obtain rfl : p = 1 := by omega
      exact h3⟩
  · rw [e]; exact ⟨nc a (.inr (by omega)), fun p h0 h1 => by
      obtain rfl | rfl : p = 1 ∨ p = 2 := by omega
      · exact h3
      · exact h4⟩
  · rw [e]; exact ⟨nc a (.inr (by omega)), fun p h0 h1 => by
      obtain rfl | rfl | rfl : p = 1 ∨ p = 2 ∨ p = 3 := by omega
      · exact h3
      · exact h4
      · exact h5⟩
end Go.Proofs.YtiejmkjpgjbodaaGreatDoor
