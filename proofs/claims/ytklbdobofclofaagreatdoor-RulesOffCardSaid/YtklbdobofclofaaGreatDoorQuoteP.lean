/- What package quote computes, as functions on lists of bytes, and facts on them. No statement is proved here. -/
import Derived.Test.YtklbdobofclofaaGreatDoorBaseM
namespace Go.Proofs.YtklbdobofclofaaGreatDoor
set_option linter.unusedVariables false
set_option linter.unusedSimpArgs false

/-- a quoted stretch behind its sign: what it says, how many bytes it has with the sign that ends it; p: does the byte ahead pair the next one? -/
def qrd : Bool → List UInt8 → List UInt8 × Nat
  | _, [] => ([], 0)
  | p, c :: r =>
    if !p && c == 34 then ([], 1)
    else if !p && c == 92 then ((qrd true r).1, (qrd true r).2 + 1)
    else (c :: (qrd false r).1, (qrd false r).2 + 1)
def readQ (l : List UInt8) : List UInt8 × Nat :=
  match l with
  | [] => ([], 0)
  | c :: r => if c == 34 then ((qrd false r).1, (qrd false r).2 + 1) else ([], 0)
def escC (c : UInt8) : List UInt8 := if c = 34 ∨ c = 92 then [92, c] else [c]
def escL (l : List UInt8) : List UInt8 := l.flatMap escC
def quoteL (l : List UInt8) : List UInt8 := 34 :: (escL l ++ [34])
theorem qrd_le (p : Bool) (l : List UInt8) : (qrd p l).1.length ≤ l.length ∧ (qrd p l).2 ≤ l.length := by
  induction l generalizing p with
  | nil => exact ⟨Nat.le_refl _, Nat.le_refl _⟩
  | cons c r ih =>
    unfold qrd
    split
    · simp
    · split
      · have := ih true; simp; omega
      · have := ih false; simp; omega
theorem readQ_le (l : List UInt8) : (readQ l).1.length ≤ l.length ∧ (readQ l).2 ≤ l.length := by
  cases l with
  | nil => exact ⟨Nat.le_refl _, Nat.le_refl _⟩
  | cons c r =>
    have := qrd_le false r
    unfold readQ
    simp only []
    split
    · simp; omega
    · simp
theorem qrd_esc (x r : List UInt8) : qrd false (escL x ++ 34 :: r) = (x, (escL x).length + 1) := by
  induction x with
  | nil => rfl
  | cons c t ih =>
    have e : escL (c :: t) = escC c ++ escL t := rfl
    rw [e]
    by_cases h : c = 34 ∨ c = 92
    · rw [show escC c = [92, c] from if_pos h]
      show qrd false (92 :: c :: (escL t ++ 34 :: r)) = _
      have h1 : qrd false (92 :: c :: (escL t ++ 34 :: r)) = ((qrd true (c :: (escL t ++ 34 :: r))).1, (qrd true (c :: (escL t ++ 34 :: r))).2 + 1) := rfl
      have h2 : qrd true (c :: (escL t ++ 34 :: r)) = (c :: (qrd false (escL t ++ 34 :: r)).1, (qrd false (escL t ++ 34 :: r)).2 + 1) := rfl
      rw [h1, h2, ih]
      simp
    · rw [show escC c = [c] from if_neg h]
      have h34 : (c == 34) = false := beq_eq_false_iff_ne.2 (fun e => h (.inl e))
      have h92 : (c == 92) = false := beq_eq_false_iff_ne.2 (fun e => h (.inr e))
      show qrd false (c :: (escL t ++ 34 :: r)) = _
      unfold qrd
      rw [h34, h92, ih]
      simp
/-- what is written is read, whatever follows -/
theorem readQ_quote (x r : List UInt8) : readQ (quoteL x ++ r) = (x, (quoteL x).length) := by
  have e : quoteL x ++ r = 34 :: (escL x ++ 34 :: r) := by simp [quoteL]
  rw [e]
  show ((qrd false (escL x ++ 34 :: r)).1, (qrd false (escL x ++ 34 :: r)).2 + 1) = _
  rw [qrd_esc]
  simp [quoteL]
theorem escC_length (c : UInt8) : (escC c).length ≤ 2 := by unfold escC; split <;> simp
theorem escL_length (l : List UInt8) : (escL l).length ≤ 2 * l.length := by
  induction l with
  | nil => exact Nat.le_refl _
  | cons c r ih =>
    have := escC_length c
    show (escC c ++ escL r).length ≤ _
    rw [List.length_append, List.length_cons]; omega
/-- a control sign: below 32, or 127 -/
def ctlB (c : UInt8) : Bool := decide (c.toNat < 32) || c == 127
end Go.Proofs.YtklbdobofclofaaGreatDoor
