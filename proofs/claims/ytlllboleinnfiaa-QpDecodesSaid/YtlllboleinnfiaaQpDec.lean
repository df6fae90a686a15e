/- What qp.Decode computes, as a function on lists of bytes, and facts on it. No statement is proved here. -/
import Derived.Test.YtlllboleinnfiaaQpPlain
namespace Go.Proofs.Ytlllboleinnfiaa
set_option linter.unusedVariables false
set_option linter.unusedSimpArgs false

/-- what the bytes ahead stand for, and how many of them are read -/
def decStep : List UInt8 → List UInt8 × Nat
  | [] => ([], 1)
  | c :: r => if c = 61 then eqF r else if isW c = true then
      (if (c :: r).drop (whiteN (c :: r)) = [] ∨ 0 < eolN ((c :: r).drop (whiteN (c :: r))) then ([], whiteN (c :: r)) else ((c :: r).take (whiteN (c :: r)), whiteN (c :: r)))
    else ([c], 1)

theorem decStep_eq (r : List UInt8) : decStep (61 :: r) = eqF r := by simp [decStep]
theorem decStep_plain {c : UInt8} (r : List UInt8) (h : c ≠ 61) (hw : isW c = false) : decStep (c :: r) = ([c], 1) := by simp [decStep, h, hw]
theorem decStep_white {c : UInt8} (r : List UInt8) (hw : isW c = true) :
    decStep (c :: r) = if (c :: r).drop (whiteN (c :: r)) = [] ∨ 0 < eolN ((c :: r).drop (whiteN (c :: r))) then ([], whiteN (c :: r)) else ((c :: r).take (whiteN (c :: r)), whiteN (c :: r)) := by
  have : c ≠ 61 := by rintro rfl; cases hw
  simp only [decStep, this, hw, if_true, if_false]

theorem eqF_pos (r : List UInt8) : 1 ≤ (eqF r).2 := by
  unfold eqF
  split
  · simp
  · split
    · simp; omega
    · simp
theorem eqF_le (r : List UInt8) : (eqF r).2 ≤ r.length + 1 := by
  unfold eqF
  split
  · have := hex2_len ‹_›; simp; omega
  · split
    · have h1 := whiteN_le r
      have h2 := (eolN_le (r.drop (whiteN r))).2
      rw [List.length_drop] at h2
      simp; omega
    · simp
theorem eqF_out (r : List UInt8) : (eqF r).1.length ≤ (eqF r).2 := by
  unfold eqF
  split
  · simp
  · split <;> simp
theorem decStep_pos (l : List UInt8) : 1 ≤ (decStep l).2 := by
  match l with
  | [] => simp [decStep]
  | c :: r =>
    by_cases h : c = 61
    · subst h; rw [decStep_eq]; exact eqF_pos r
    · by_cases hw : isW c = true
      · rw [decStep_white r hw]
        split <;> simp [whiteN_yes hw]
      · rw [decStep_plain r h (by simpa using hw)]; exact Nat.le_refl _
theorem decStep_le (l : List UInt8) (hl : l ≠ []) : (decStep l).2 ≤ l.length := by
  match l, hl with
  | c :: r, _ =>
    by_cases h : c = 61
    · subst h; rw [decStep_eq]; exact eqF_le r
    · by_cases hw : isW c = true
      · rw [decStep_white r hw]
        have := whiteN_le (c :: r)
        split <;> exact this
      · rw [decStep_plain r h (by simpa using hw)]; simp
theorem decStep_out (l : List UInt8) : (decStep l).1.length ≤ (decStep l).2 := by
  match l with
  | [] => simp [decStep]
  | c :: r =>
    by_cases h : c = 61
    · subst h; rw [decStep_eq]; exact eqF_out r
    · by_cases hw : isW c = true
      · rw [decStep_white r hw]
        split
        · simp
        · simp; omega
      · rw [decStep_plain r h (by simpa using hw)]; simp

/-- the bytes of a text -/
def dec (l : List UInt8) : List UInt8 := if h : l = [] then [] else (decStep l).1 ++ dec (l.drop (decStep l).2)
termination_by l.length
decreasing_by
  have h1 := decStep_pos l
  have h2 : 0 < l.length := List.length_pos_iff.2 h
  rw [List.length_drop]; omega

theorem dec_nil : dec [] = [] := by rw [dec]; simp
theorem dec_cons {l : List UInt8} (h : l ≠ []) : dec l = (decStep l).1 ++ dec (l.drop (decStep l).2) := by rw [dec, dif_neg h]
theorem dec_length (l : List UInt8) : (dec l).length ≤ l.length := by
  suffices H : ∀ n, ∀ l : List UInt8, l.length ≤ n → (dec l).length ≤ l.length from H _ l (Nat.le_refl _)
  intro n
  induction n with
  | zero => intro l hl; have : l = [] := List.eq_nil_of_length_eq_zero (by omega); subst this; simp [dec_nil]
  | succ n ih =>
    intro l hl
    by_cases h : l = []
    · subst h; simp [dec_nil]
    · have h1 := decStep_pos l
      have h2 := decStep_le l h
      have h3 := decStep_out l
      rw [dec_cons h, List.length_append]
      have := ih (l.drop (decStep l).2) (by rw [List.length_drop]; omega)
      rw [List.length_drop] at this
      omega

/-- a round of a reader: what has been read, and what is still to come -/
theorem dec_round {L acc : List UInt8} {i : Nat} (h : acc ++ dec (L.drop i) = dec L) (hi : i < L.length) :
    (acc ++ (decStep (L.drop i)).1) ++ dec (L.drop (i + (decStep (L.drop i)).2)) = dec L := by
  have hne : L.drop i ≠ [] := by intro e; have := congrArg List.length e; simp at this; omega
  rw [← h, dec_cons hne, List.drop_drop, List.append_assoc]
end Go.Proofs.Ytlllboleinnfiaa
