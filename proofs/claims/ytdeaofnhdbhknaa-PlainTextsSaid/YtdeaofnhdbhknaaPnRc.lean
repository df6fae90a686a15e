/- Plain texts, pure: how large a tree's text gets. No statement is proved here. Own work of the verifier. -/
import Derived.Test.YtdeaofnhdbhknaaPnV
namespace Go.Proofs.Ytdeaofnhdbhknaa
set_option linter.unusedVariables false
set_option linter.unusedSimpArgs false
set_option maxRecDepth 100000
theorem cutL_lines (l : List UInt8) : (cutL l).length ≤ l.count 10 + 1 := by
  refine list_ind (p := fun l => (cutL l).length ≤ l.count 10 + 1) ?_ l
  intro l ih
  rcases cut_case 10 l with ⟨h1, _, _⟩ | ⟨a, r, e, h1, _, _⟩
  · rw [cut_last l h1]
    split <;> simp
  · subst e
    rw [cut_line a r h1]
    have hr := ih r (by simp; omega)
    simp only [List.length_cons, List.count_append, List.count_cons_self]
    omega
theorem quotedL_lf (L : List (List UInt8)) (h : ∀ x ∈ L, (10 : UInt8) ∉ x) : (quotedL L).count 10 = L.length := by
  induction L with
  | nil => rfl
  | cons x r ih =>
    have hx : x.count 10 = 0 := List.count_eq_zero.2 (h x (List.mem_cons_self ..))
    have hr := ih (fun y hy => h y (List.mem_cons_of_mem _ hy))
    unfold quotedL at hr ⊢
    rw [List.flatMap_cons, List.count_append, hr]
    simp [List.count_cons, List.count_append, hx]
    omega
theorem lfIf_size (out : List UInt8) : (lfIf out).length ≤ out.length + 1 ∧ (lfIf out).count 10 ≤ out.count 10 + 1 := by
  unfold lfIf
  split <;> simp
theorem textR_lf (T : Tr) (out : List UInt8) : (textR T out).count 10 ≤ out.count 10 + costT T := by
  induction T generalizing out with
  | nil => exact Nat.le_refl _
  | cons h K R ihK ihR =>
    rw [textR, costT]
    refine Nat.le_trans (ihR _) ?_
    have hK := ihK []
    rw [List.count_nil] at hK
    split
    · have := List.count_le_length (a := (10 : UInt8)) (l := h.text)
      rw [List.count_append]; omega
    · split
      · rw [List.count_append]; simp; omega
      · split
        · have h1 := (lfIf_size out).2
          have h2 := cutL_lines (textR K [])
          rw [List.count_append, quotedL_lf _ (cutL_lf _)]; omega
        · rw [List.count_append]; omega
theorem flat_len (L : List (List UInt8)) : (L.flatMap id).length = (L.map List.length).sum := by
  induction L with
  | nil => rfl
  | cons x r ih => rw [List.flatMap_cons, List.length_append, ih, List.map_cons, List.sum_cons]; rfl
theorem textR_len (T : Tr) (out : List UInt8) : (textR T out).length ≤ out.length + costT T * (3 * T.depth + 1) := by
  induction T generalizing out with
  | nil => exact Nat.le_add_right _ _
  | cons h K R ihK ihR =>
    rw [textR, costT]
    refine Nat.le_trans (ihR _) ?_
    have hK := ihK []
    have hLF := textR_lf K []
    rw [List.length_nil] at hK
    rw [List.count_nil] at hLF
    obtain ⟨M, hM⟩ : ∃ M, M = 3 * (Tr.cons h K R).depth + 1 := ⟨_, rfl⟩
    rw [← hM]
    rw [Tr.depth] at hM
    have m1 : 3 * R.depth + 1 ≤ M := by omega
    have m2 : 3 * K.depth + 4 ≤ M := by omega
    have a1 : costT R * (3 * R.depth + 1) ≤ costT R * M := Nat.mul_le_mul_left _ m1
    have a2 : costT K * (3 * K.depth + 4) ≤ costT K * M := Nat.mul_le_mul_left _ m2
    have a3 : h.text.length * 1 ≤ h.text.length * M := Nat.mul_le_mul_left _ (by omega)
    have a4 : costT K * (3 * K.depth + 4) = costT K * (3 * K.depth + 1) + 3 * costT K := by rw [show 3 * K.depth + 4 = (3 * K.depth + 1) + 3 by omega, Nat.mul_add, Nat.mul_comm (costT K) 3]
    have a5 : (h.text.length + 3 + costT K + costT R) * M = h.text.length * M + 3 * M + costT K * M + costT R * M := by rw [Nat.add_mul, Nat.add_mul, Nat.add_mul]
    rw [a5]
    split
    · rw [List.length_append]; omega
    · split
      · rw [List.length_append, List.length_singleton]; omega
      · split
        · have h1 := (lfIf_size out).1
          have h2 := cutL_lines (textR K [])
          have h3 := (cutL_sizes (textR K [])).2
          rw [List.length_append, quotedL_len, flat_len]; omega
        · rw [List.length_append]; omega
end Go.Proofs.Ytdeaofnhdbhknaa
