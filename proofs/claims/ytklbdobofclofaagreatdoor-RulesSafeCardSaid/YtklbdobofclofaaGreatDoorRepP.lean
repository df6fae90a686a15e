/- How many signs a quoted stretch pairs. No statement is proved here. -/
import Derived.Test.YtklbdobofclofaaGreatDoorQuoteP
namespace Go.Proofs.YtklbdobofclofaaGreatDoor
set_option linter.unusedVariables false
set_option linter.unusedSimpArgs false
def cnB (c : UInt8) (l : List UInt8) : Nat := l.count c
def qn (l : List UInt8) : Nat := cnB 92 l + cnB 34 l
theorem qn_snoc (l : List UInt8) (c : UInt8) : qn (l ++ [c]) = qn l + (escC c).length - 1 := by
  unfold qn cnB escC
  rw [List.count_append, List.count_append, List.count_singleton, List.count_singleton]
  by_cases h1 : c = 34
  · subst h1; simp; omega
  · by_cases h2 : c = 92
    · subst h2; simp; omega
    · simp [h1, h2]
theorem escL_len (l : List UInt8) : (escL l).length = l.length + qn l := by
  induction l with
  | nil => rfl
  | cons c t ih =>
    show (escC c ++ escL t).length = _
    rw [List.length_append, ih]
    unfold qn cnB escC
    rw [List.count_cons, List.count_cons, List.length_cons]
    by_cases h1 : c = 34
    · subst h1; simp; omega
    · by_cases h2 : c = 92
      · subst h2; simp; omega
      · simp [h1, h2]; omega
theorem escL_same (l : List UInt8) (h : qn l = 0) : escL l = l := by
  unfold qn cnB at h
  induction l with
  | nil => rfl
  | cons c t ih =>
    rw [List.count_cons, List.count_cons] at h
    have h1 : ¬ c = 34 := fun e => by subst e; simp at h
    have h2 : ¬ c = 92 := fun e => by subst e; simp at h
    show escC c ++ escL t = _
    rw [ih (by omega)]
    simp [escC, h1, h2]
theorem escL_snoc (l : List UInt8) (c : UInt8) : escL (l ++ [c]) = escL l ++ escC c := by simp [escL]
theorem escL_take (s : ByteArray) (k : Nat) (h : k < s.size) : escL (s.data.toList.take (k + 1)) = escL (s.data.toList.take k) ++ escC s[k] := by rw [take_snoc s k h, escL_snoc]
theorem qn_take (s : ByteArray) (k : Nat) (h : k < s.size) : qn (s.data.toList.take (k + 1)) = qn (s.data.toList.take k) + (escC s[k]).length - 1 := by rw [take_snoc s k h, qn_snoc]
theorem qn_le (l : List UInt8) : qn l ≤ l.length := by
  have h1 := escL_len l
  have h2 := escL_length l
  omega
theorem escL_part (s : ByteArray) (k : Nat) : (escL (s.data.toList.take k)).length ≤ (escL s.data.toList).length := by
  have e : escL s.data.toList = escL (s.data.toList.take k) ++ escL (s.data.toList.drop k) := by
    unfold escL
    rw [← List.flatMap_append, List.take_append_drop]
  rw [e, List.length_append]; exact Nat.le_add_right _ _
/-- o, then as many zeroes as N wants -/
def padL (N : Nat) (o : List UInt8) : List UInt8 := o ++ List.replicate (N - o.length) 0
theorem padL_length {N : Nat} {o : List UInt8} (h : o.length ≤ N) : (padL N o).length = N := by unfold padL; simp; omega
theorem padL_set {N : Nat} {o : List UInt8} (c : UInt8) (h : o.length < N) : (padL N o).set o.length c = padL N (o ++ [c]) := by
  unfold padL
  rw [List.set_append_right _ _ (Nat.le_refl _), Nat.sub_self]
  obtain ⟨m, hm⟩ : ∃ m, N - o.length = m + 1 := ⟨N - o.length - 1, by omega⟩
  have hm2 : N - (o ++ [c]).length = m := by simp; omega
  rw [hm, hm2, List.replicate_succ]
  simp
theorem padL_full (o : List UInt8) : padL o.length o = o := by unfold padL; simp
end Go.Proofs.YtklbdobofclofaaGreatDoor
