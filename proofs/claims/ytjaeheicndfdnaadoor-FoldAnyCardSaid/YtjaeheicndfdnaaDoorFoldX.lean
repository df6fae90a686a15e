/- What fold takes for blank, byte by byte. No statement is proved here. Own work of the verifier. -/
import Derived.Test.YtjaeheicndfdnaaDoorFoldU
import Derived.Lib.MapLaws
import Derived.Lib.SpaceUEq
namespace Go.Proofs.YtjaeheicndfdnaaDoor
open Go.RowKit
set_option linter.unusedVariables false
set_option linter.unusedSimpArgs false
set_option maxRecDepth 100000
def whiteC (c : UInt8) : Bool := c == 32 || (c == 9 || (c == 10 || c == 13))
/-- a row of blanks, the no-break space in two bytes -/
def units : List UInt8 → Bool
  | [] => true
  | [c] => whiteC c
  | c :: d :: r => if c = 194 ∧ d = 160 then units r else whiteC c && units (d :: r)
theorem white_no {c : UInt8} (h : whiteC c = true) : c ≠ 194 := by
  intro e
  subst e
  exact absurd h (by decide)
theorem units_white {c : UInt8} (h : whiteC c = true) (l : List UInt8) : units (c :: l) = units l := by
  cases l with
  | nil => simp [units, h]
  | cons d r => rw [units, if_neg (fun e => white_no h e.1), h, Bool.true_and]
theorem units_pair (l : List UInt8) : units (194 :: 160 :: l) = units l := by rw [units, if_pos ⟨rfl, rfl⟩]
theorem units_app : ∀ (n : Nat) (a b : List UInt8), a.length ≤ n → units a = true → units b = true → units (a ++ b) = true
  | _, [], b, _, _, hb => hb
  | 0, c :: r, b, hn, _, _ => by simp at hn
  | n + 1, [c], b, hn, ha, hb => by
    rw [List.singleton_append, units_white (by simpa [units] using ha)]; exact hb
  | n + 1, c :: d :: r, b, hn, ha, hb => by
    rw [units] at ha
    simp only [List.length_cons] at hn
    by_cases e : c = 194 ∧ d = 160
    · rw [if_pos e] at ha
      obtain ⟨rfl, rfl⟩ := e
      rw [List.cons_append, List.cons_append, units_pair]
      exact units_app n r b (by omega) ha hb
    · rw [if_neg e] at ha
      obtain ⟨h1, h2⟩ := Bool.and_eq_true_iff.1 ha
      rw [List.cons_append, units_white h1]
      exact units_app n (d :: r) b (by simp only [List.length_cons]; omega) h2 hb
/-- a row of blanks ends in one -/
theorem units_last : ∀ (n : Nat) (l : List UInt8), l.length ≤ n → units l = true → l ≠ [] → (∃ a c, l = a ++ [c] ∧ whiteC c = true ∧ units a = true) ∨ ∃ a, l = a ++ [194, 160] ∧ units a = true
  | _, [], _, _, h => absurd rfl h
  | 0, c :: r, hn, _, _ => by simp at hn
  | n + 1, [c], hn, h, _ => .inl ⟨[], c, rfl, by simpa [units] using h, rfl⟩
  | n + 1, c :: d :: r, hn, h, _ => by
    rw [units] at h
    simp only [List.length_cons] at hn
    by_cases e : c = 194 ∧ d = 160
    · rw [if_pos e] at h
      obtain ⟨rfl, rfl⟩ := e
      by_cases hr : r = []
      · subst hr; exact .inr ⟨[], rfl, rfl⟩
      · rcases units_last n r (by omega) h hr with ⟨a, x, rfl, h1, h2⟩ | ⟨a, rfl, h2⟩
        · exact .inl ⟨194 :: 160 :: a, x, rfl, h1, by rw [units_pair]; exact h2⟩
        · exact .inr ⟨194 :: 160 :: a, rfl, by rw [units_pair]; exact h2⟩
    · rw [if_neg e] at h
      obtain ⟨h0, h⟩ := Bool.and_eq_true_iff.1 h
      rcases units_last n (d :: r) (by simp only [List.length_cons]; omega) h (by simp) with ⟨a, x, e1, h1, h2⟩ | ⟨a, e1, h2⟩
      · exact .inl ⟨c :: a, x, by rw [e1]; rfl, h1, by rw [units_white h0]; exact h2⟩
      · exact .inr ⟨c :: a, by rw [e1]; rfl, by rw [units_white h0]; exact h2⟩
theorem white_rune {c : UInt8} (h : whiteC c = true) : c.toNat < 128 ∧ blankR c.toNat = true := by
  unfold whiteC at h
  simp only [Bool.or_eq_true, beq_iff_eq] at h
  rcases h with h | h | h | h <;> subst h <;> exact ⟨by decide, by decide⟩
theorem units_rtrim : ∀ (n : Nat) (l : List UInt8), l.length ≤ n → units l = true → rtrim l.length l = []
  | _, [], _, _ => rfl
  | 0, c :: r, hn, _ => by simp at hn
  | n + 1, c :: r, hn, h => by
    rw [rtrim_step (by simp)]
    rcases units_last (n + 1) (c :: r) hn h (by simp) with ⟨a, x, e, h1, h2⟩ | ⟨a, e, h2⟩
    · rw [e] at hn ⊢
      obtain ⟨h3, h4⟩ := white_rune h1
      rw [Lib.decodeLastL_ascii a x h3]
      simp only
      rw [if_pos h4, List.length_append, List.length_singleton, Nat.add_sub_cancel, List.take_left' rfl]
      exact units_rtrim n a (by rw [List.length_append, List.length_singleton] at hn; omega) h2
    · rw [e] at hn ⊢
      have hd : Lib.decodeLastL (a ++ [194, 160]) = (160, 2) := by rw [Lib.last2 a _ _ (by decide) (by decide) (by decide)]; decide
      rw [hd]
      simp only
      rw [if_pos (by decide), List.length_append, show ([194, 160] : List UInt8).length = 2 from rfl, Nat.add_sub_cancel, List.take_left' rfl]
      exact units_rtrim n a (by rw [List.length_append, show ([194, 160] : List UInt8).length = 2 from rfl] at hn; omega) h2
theorem blank_cases {r : Nat} (h : blankR r = true) : r = 32 ∨ r = 9 ∨ r = 10 ∨ r = 13 ∨ r = 160 := by
  unfold blankR at h
  simpa [Bool.or_eq_true, beq_iff_eq] using h
theorem ltrim_units : ∀ (n : Nat) (l : List UInt8), l.length ≤ n → ltrim l.length l = [] → units l = true
  | _, [], _, _ => rfl
  | 0, c :: r, hn, _ => by simp at hn
  | n + 1, c :: r, hn, h => by
    rw [ltrim_step (by simp)] at h
    by_cases hb : blankR (Lib.decodeL (c :: r)).1 = true
    · rw [if_pos hb] at h
      have hw := Lib.decodeL_width (c :: r)
      have ih := ltrim_units n ((c :: r).drop (Lib.decodeL (c :: r)).2) (by rw [List.length_drop]; omega) h
      have hc := blank_cases hb
      have he := Lib.encode_decode (c :: r) (by simp) (fun e => by omega)
      rw [← List.take_append_drop (Lib.decodeL (c :: r)).2 (c :: r), ← he]
      rcases hc with e | e | e | e | e <;> rw [e]
      · exact units_app 1 _ _ (by decide) (by decide) ih
      · exact units_app 1 _ _ (by decide) (by decide) ih
      · exact units_app 1 _ _ (by decide) (by decide) ih
      · exact units_app 1 _ _ (by decide) (by decide) ih
      · exact units_app 2 _ _ (by decide) (by decide) ih
    · rw [if_neg hb] at h
      cases h
theorem blank_space {r : Nat} (h : blankR r = true) : Lib.isSpaceR r = true := by
  rcases blank_cases h with e | e | e | e | e <;> subst e <;> decide
theorem last_units (l : List UInt8) (hne : l ≠ []) (h : blankR (Lib.decodeLastL l).1 = true) : units (l.drop (l.length - (Lib.decodeLastL l).2)) = true := by
  have hq := Lib.space_has_seq_last l hne (blank_space h)
  have hl := (List.take_append_drop (l.length - (Lib.decodeLastL l).2) l).symm
  obtain ⟨a, ha⟩ : ∃ a, a = l.take (l.length - (Lib.decodeLastL l).2) := ⟨_, rfl⟩
  obtain ⟨q, hqq⟩ : ∃ q, q = l.drop (l.length - (Lib.decodeLastL l).2) := ⟨_, rfl⟩
  rw [← ha, ← hqq] at hl
  rw [← hqq] at hq ⊢
  rw [hl] at h
  clear ha hqq hl hne
  simp only [Lib.spaceSeqs, List.mem_cons, List.not_mem_nil, or_false] at hq
  rcases hq with rfl | rfl | rfl | rfl | rfl | rfl | rfl | rfl | rfl | rfl | rfl | rfl | rfl | rfl | rfl | rfl | rfl | rfl | rfl | rfl | rfl | rfl | rfl | rfl | rfl
  all_goals first
    | decide
    | (rw [Lib.decodeLastL_ascii a _ (by decide)] at h; exact absurd h (by decide))
    | (rw [Lib.last2 a _ _ (by decide) (by decide) (by decide)] at h; exact absurd h (by decide))
    | (rw [Lib.last3 a _ _ _ (by decide) (by decide) (by decide) (by decide)] at h; exact absurd h (by decide))
theorem rtrim_units : ∀ (n : Nat) (l : List UInt8), l.length ≤ n → units (rtrim l.length l) = true → units l = true
  | _, [], _, _ => rfl
  | 0, c :: r, hn, _ => by simp at hn
  | n + 1, c :: r, hn, h => by
    rw [rtrim_step (by simp)] at h
    by_cases hb : blankR (Lib.decodeLastL (c :: r)).1 = true
    · rw [if_pos hb] at h
      have hw := Lib.decodeLastL_width (c :: r) (by simp)
      have ih := rtrim_units n _ (by rw [List.length_take]; omega) h
      rw [← List.take_append_drop ((c :: r).length - (Lib.decodeLastL (c :: r)).2) (c :: r)]
      exact units_app _ _ _ (Nat.le_refl _) ih (last_units _ (by simp) hb)
    · rw [if_neg hb] at h
      exact h
theorem trim_units (l : List UInt8) : decide (trimB l = []) = units l := by
  cases hu : units l with
  | true =>
    refine decide_eq_true ?_
    unfold trimB
    rw [units_rtrim l.length l (Nat.le_refl _) hu]
    rfl
  | false =>
    refine decide_eq_false (fun h => ?_)
    have h1 := ltrim_units _ _ (Nat.le_refl _) h
    rw [rtrim_units l.length l (Nat.le_refl _) h1] at hu
    cases hu
theorem blankN_units (h : NdH) : blankN h = if h.name = [] then units h.text else decide (h.name = [98, 114]) := by
  unfold blankN
  rw [trim_units]
end Go.Proofs.YtjaeheicndfdnaaDoor
