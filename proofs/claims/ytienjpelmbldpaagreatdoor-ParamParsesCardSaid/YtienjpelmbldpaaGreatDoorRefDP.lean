/- Facts on rows of units. No statement is proved here. -/
import Derived.Test.YtienjpelmbldpaaGreatDoorInts
namespace Go.Proofs.YtienjpelmbldpaaGreatDoor
open Go.RowKit
set_option linter.unusedVariables false
set_option linter.unusedSimpArgs false

theorem u16_pair {a b : Nat} {r : List Nat} (h : 55296 ≤ a ∧ a ≤ 56319 ∧ 56320 ≤ b ∧ b ≤ 57343) : u16 (a :: b :: r) = runeL (pairV a b) ++ u16 r := by rw [u16, if_pos h]
theorem u16_one {a : Nat} {r : List Nat} (h : ∀ b t, r = b :: t → ¬ (55296 ≤ a ∧ a ≤ 56319 ∧ 56320 ≤ b ∧ b ≤ 57343)) : u16 (a :: r) = runeL a ++ u16 r := by
  cases r with
  | nil => rw [u16, u16, List.append_nil]
  | cons b t => rw [u16, if_neg (h b t rfl)]
theorem u16_length (u : List Nat) (h : ∀ a ∈ u, a < 65536) : (u16 u).length ≤ 3 * u.length := by
  suffices H : ∀ n, ∀ u : List Nat, u.length < n → (∀ a ∈ u, a < 65536) → (u16 u).length ≤ 3 * u.length from H (u.length + 1) u (by omega) h
  intro n
  induction n with
  | zero => intro u hu; omega
  | succ n ih =>
    intro u hu h
    match u, hu, h with
    | [], _, _ => simp [u16]
    | [a], _, h =>
      have := (runeL_length a).2.2 (by have := h a (by simp); omega)
      simp [u16]; omega
    | a :: b :: r, hu, h =>
      simp only [List.length_cons] at hu
      rw [u16]
      split
      · have := (runeL_length (pairV a b)).2.1
        have := ih r (by omega) (fun x hx => h x (by simp [hx]))
        simp; omega
      · have := (runeL_length a).2.2 (by have := h a (by simp); omega)
        have := ih (b :: r) (by simp; omega) (fun x hx => h x (by simp at hx ⊢; exact .inr hx))
        simp at this ⊢; omega
theorem units_lt (big : Bool) (l : List UInt8) : ∀ a ∈ unitsL big l, a < 65536 := by
  refine list_ind (p := fun l => ∀ a ∈ unitsL big l, a < 65536) ?_ l
  intro l ih
  match l, ih with
  | [], _ => intro a ha; simp [unitsL] at ha
  | [_], _ => intro a ha; simp [unitsL] at ha
  | x :: y :: r, ih =>
    intro a ha
    rw [units_cons] at ha
    rcases List.mem_cons.1 ha with e | e
    · rw [e]; exact num_lt _ _ _
    · exact ih r (by simp; omega) a e
/-- what is ahead in a row of units: a pair, or one -/
theorem ahead_case (l : List Nat) (j : Nat) (hj : j < l.length) : (∃ (h1 : j + 1 < l.length), 55296 ≤ l[j] ∧ l[j] ≤ 56319 ∧ 56320 ≤ l[j + 1] ∧ l[j + 1] ≤ 57343 ∧ u16 (l.drop j) = runeL (pairV l[j] l[j + 1]) ++ u16 (l.drop (j + 2))) ∨
    (u16 (l.drop j) = runeL l[j] ++ u16 (l.drop (j + 1)) ∧ (l[j] < 55296 ∨ (55296 ≤ l[j] ∧ 56319 < l[j]) ∨ (55296 ≤ l[j] ∧ l[j] ≤ 56319 ∧ l.length ≤ j + 1) ∨ (∃ (h1 : j + 1 < l.length), 55296 ≤ l[j] ∧ l[j] ≤ 56319 ∧ l[j + 1] < 56320) ∨ (∃ (h1 : j + 1 < l.length), 55296 ≤ l[j] ∧ l[j] ≤ 56319 ∧ 56320 ≤ l[j + 1] ∧ 57343 < l[j + 1]))) := by
  have e := List.drop_eq_getElem_cons hj
  by_cases h1 : j + 1 < l.length
  · have e2 := List.drop_eq_getElem_cons h1
    by_cases hp : 55296 ≤ l[j] ∧ l[j] ≤ 56319 ∧ 56320 ≤ l[j + 1] ∧ l[j + 1] ≤ 57343
    · exact .inl ⟨h1, hp.1, hp.2.1, hp.2.2.1, hp.2.2.2, by rw [e, e2, u16_pair hp]⟩
    · refine .inr ⟨by rw [e, u16_one (fun b t hb => by rw [e2] at hb; injection hb with hb _; rw [← hb]; exact hp)], ?_⟩
      by_cases a1 : l[j] < 55296
      · exact .inl a1
      by_cases a2 : 56319 < l[j]
      · exact .inr (.inl ⟨by omega, a2⟩)
      by_cases a3 : l[j + 1] < 56320
      · exact .inr (.inr (.inr (.inl ⟨h1, by omega, by omega, a3⟩)))
      · exact .inr (.inr (.inr (.inr ⟨h1, by omega, by omega, by omega, by omega⟩)))
  · refine .inr ⟨by rw [e, u16_one (fun b t hb => by rw [List.drop_eq_nil_of_le (by omega)] at hb; cases hb)], ?_⟩
    by_cases a1 : l[j] < 55296
    · exact .inl a1
    by_cases a2 : 56319 < l[j]
    · exact .inr (.inl ⟨by omega, a2⟩)
    · exact .inr (.inr (.inl ⟨by omega, by omega, by omega⟩))
end Go.Proofs.YtienjpelmbldpaaGreatDoor
