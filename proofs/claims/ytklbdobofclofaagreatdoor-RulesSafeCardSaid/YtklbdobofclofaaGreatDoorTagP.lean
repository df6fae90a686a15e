/- Lists: what stays of a text when three signs are left out. No statement is proved here. -/
import Derived.Test.YtklbdobofclofaaGreatDoorBaseN
namespace Go.Proofs.YtklbdobofclofaaGreatDoor
set_option linter.unusedVariables false
set_option linter.unusedSimpArgs false
def tagN (l : List UInt8) : Nat := l.count 13 + l.count 10 + l.count 9
theorem keep_len (l : List UInt8) : (keepL l).length + tagN l = l.length := by
  unfold tagN keepL
  induction l with
  | nil => rfl
  | cons c t ih =>
    rw [List.filter_cons, List.count_cons, List.count_cons, List.count_cons, List.length_cons]
    have h : (c = 13 ∧ tagB c = true) ∨ (c = 10 ∧ tagB c = true) ∨ (c = 9 ∧ tagB c = true) ∨ (c ≠ 13 ∧ c ≠ 10 ∧ c ≠ 9 ∧ tagB c = false) :=
      u8_all (p := fun c => (c = 13 ∧ tagB c = true) ∨ (c = 10 ∧ tagB c = true) ∨ (c = 9 ∧ tagB c = true) ∨ (c ≠ 13 ∧ c ≠ 10 ∧ c ≠ 9 ∧ tagB c = false)) (by decide +kernel) c
    rcases h with ⟨rfl, h⟩ | ⟨rfl, h⟩ | ⟨rfl, h⟩ | ⟨h1, h2, h3, h⟩
    · rw [h]; simp; omega
    · rw [h]; simp; omega
    · rw [h]; simp; omega
    · rw [h]; simp [h1, h2, h3]; omega
theorem keep_same (l : List UInt8) (h : tagN l = 0) : keepL l = l := by
  have e := keep_len l
  exact (List.filter_sublist (l := l)).eq_of_length (by unfold keepL at e; omega)
theorem keep_take (s : ByteArray) (k : Nat) (h : k < s.size) : keepL (s.data.toList.take (k + 1)) = keepL (s.data.toList.take k) ++ (if tagB s[k] = true then [] else [s[k]]) := by
  rw [take_snoc s k h]
  unfold keepL
  rw [List.filter_append, List.filter_cons, List.filter_nil]
  cases tagB s[k] <;> rfl
theorem tag_take (s : ByteArray) (k : Nat) (h : k < s.size) : tagN (s.data.toList.take (k + 1)) = tagN (s.data.toList.take k) + (if tagB s[k] = true then 1 else 0) := by
  have e1 := keep_len (s.data.toList.take (k + 1))
  have e2 := keep_len (s.data.toList.take k)
  rw [keep_take s k h, List.length_append, List.length_take, toList_length] at e1
  rw [List.length_take, toList_length] at e2
  by_cases hb : tagB s[k] = true
  · rw [if_pos hb] at e1 ⊢
    simp at e1
    omega
  · rw [if_neg hb] at e1 ⊢
    simp at e1
    omega
theorem keep_part (s : ByteArray) (k : Nat) : (keepL (s.data.toList.take k)).length ≤ (keepL s.data.toList).length := by
  unfold keepL
  exact ((List.take_sublist k _).filter _).length_le
theorem tag_le (l : List UInt8) : tagN l ≤ l.length := by have := keep_len l; omega
theorem tag_case (c : UInt8) : (tagB c = true ∧ (c.toNat = 9 ∨ c.toNat = 10 ∨ c.toNat = 13)) ∨ (tagB c = false ∧ ¬ c.toNat = 9 ∧ ¬ c.toNat = 10 ∧ ¬ c.toNat = 13) :=
  u8_all (p := fun c => (tagB c = true ∧ (c.toNat = 9 ∨ c.toNat = 10 ∨ c.toNat = 13)) ∨ (tagB c = false ∧ ¬ c.toNat = 9 ∧ ¬ c.toNat = 10 ∧ ¬ c.toNat = 13)) (by decide +kernel) c
end Go.Proofs.YtklbdobofclofaaGreatDoor
