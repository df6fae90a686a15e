/- PURE: what param reads stays within its bounds. No statement is proved here. -/
import Derived.Test.YtienjpelmbldpaaGreatDoorParK
namespace Go.Proofs.YtienjpelmbldpaaGreatDoor
open Go.RowKit
set_option linter.unusedVariables false
set_option linter.unusedSimpArgs false
set_option maxRecDepth 100000
def dval (l : List UInt8) : Nat := l.foldl (fun a c => a * 10 + (c.toNat - 48)) 0
theorem ofNat_48 (d : Nat) (h : d < 10) : (UInt8.ofNat (48 + d)).toNat = 48 + d := by
  rw [UInt8.toNat_ofNat']; omega
theorem dval_dec (u : Nat) : dval (Lib.decDigits u) = u ∧ ∀ c ∈ Lib.decDigits u, c ≠ 42 := by
  induction u using Nat.strongRecOn with
  | _ u ih =>
    have n42 : ∀ d, d < 10 → UInt8.ofNat (48 + d) ≠ 42 := by decide
    rw [Lib.decDigits]
    by_cases h : u < 10
    · rw [dif_pos h]
      refine ⟨?_, fun c hc => ?_⟩
      · show 0 * 10 + ((UInt8.ofNat (48 + u)).toNat - 48) = u
        rw [ofNat_48 u h]; omega
      · rw [List.mem_singleton] at hc; rw [hc]; exact n42 u h
    · rw [dif_neg h]
      obtain ⟨h1, h2⟩ := ih (u / 10) (by omega)
      refine ⟨?_, fun c hc => ?_⟩
      · unfold dval at h1 ⊢
        rw [List.foldl_append, h1]
        show u / 10 * 10 + ((UInt8.ofNat (48 + u % 10)).toNat - 48) = u
        rw [ofNat_48 _ (by omega)]; omega
      · rcases List.mem_append.1 hc with hc | hc
        · exact h2 c hc
        · rw [List.mem_singleton] at hc; rw [hc]; exact n42 _ (by omega)
theorem numP_eq (n : Nat) : numP n = Lib.decDigits n := by unfold numP; exact Lib.itoa_nonneg n
theorem numP_inj {a b : Nat} (h : numP a = numP b) : a = b := by
  have h1 := (dval_dec a).1
  have h2 := (dval_dec b).1
  rw [← numP_eq] at h1 h2
  rw [← h1, ← h2, h]
theorem numP_star (n : Nat) : (42 : UInt8) ∉ numP n := fun h => (dval_dec n).2 42 (by rw [← numP_eq]; exact h) rfl
theorem tw_star (n : Nat) (t : List UInt8) (ht : t = [] ∨ t = [42]) : (numP n ++ t).filter (fun x => x != 42) = numP n := by
  have h1 : (numP n).filter (fun x => x != 42) = numP n := List.filter_eq_self.2 (fun x hx => by
    have : x ≠ 42 := fun e => numP_star n (e ▸ hx)
    simpa using this)
  rw [List.filter_append, h1]
  rcases ht with rfl | rfl <;> simp
theorem key_inj (name : List UInt8) {a b : Nat} {s t : List UInt8} (hs : s = [] ∨ s = [42]) (ht : t = [] ∨ t = [42]) (h : name ++ 42 :: numP a ++ s = name ++ 42 :: numP b ++ t) : a = b := by
  rw [List.append_assoc, List.append_assoc] at h
  have h := List.append_cancel_left h
  rw [List.cons_append, List.cons_append] at h
  injection h with _ h
  have h1 := congrArg (List.filter (fun x => x != 42)) h
  rw [tw_star a s hs, tw_star b t ht] at h1
  exact numP_inj h1
/-- the key of a section of a number less than n -/
def isSec (name : List UInt8) (n : Nat) (k : List UInt8) : Prop := ∃ m s, m < n ∧ (s = [] ∨ s = [42]) ∧ k = name ++ 42 :: numP m ++ s
abbrev Ent := List (List UInt8 × List UInt8)
open Classical in
noncomputable def wSec (E : Ent) (name : List UInt8) (n : Nat) : Nat := ((E.filter fun e => decide (isSec name n e.1)).map fun e => e.2.length + 1).sum
def wAll (E : Ent) : Nat := (E.map fun e => e.2.length + 1).sum
theorem filter_sum_le (E : Ent) (p : List UInt8 × List UInt8 → Bool) : ((E.filter p).map fun e => e.2.length + 1).sum ≤ wAll E := by
  unfold wAll
  induction E with
  | nil => exact Nat.le_refl _
  | cons e E ih =>
    rw [List.filter_cons]
    split
    · simp only [List.map_cons, List.sum_cons]; omega
    · simp only [List.map_cons, List.sum_cons]; omega
theorem filter_sum_mono (E : Ent) (p q : List UInt8 × List UInt8 → Bool) (h : ∀ e, p e = true → q e = true) :
    ((E.filter p).map fun e => e.2.length + 1).sum ≤ ((E.filter q).map fun e => e.2.length + 1).sum := by
  induction E with
  | nil => exact Nat.le_refl _
  | cons e E ih =>
    rw [List.filter_cons, List.filter_cons]
    by_cases hp : p e = true
    · rw [if_pos hp, if_pos (h e hp)]; simp only [List.map_cons, List.sum_cons]; omega
    · rw [if_neg hp]
      split
      · simp only [List.map_cons, List.sum_cons]; omega
      · exact ih
theorem filter_sum_step (E : Ent) (p q : List UInt8 × List UInt8 → Bool) (h : ∀ e, p e = true → q e = true) (e0 : List UInt8 × List UInt8) (h0 : e0 ∈ E) (hp0 : p e0 = false) (hq0 : q e0 = true) :
    ((E.filter p).map fun e => e.2.length + 1).sum + (e0.2.length + 1) ≤ ((E.filter q).map fun e => e.2.length + 1).sum := by
  induction E with
  | nil => cases h0
  | cons e E ih =>
    rw [List.filter_cons, List.filter_cons]
    rcases List.mem_cons.1 h0 with rfl | h1
    · rw [if_neg (by rw [hp0]; decide), if_pos hq0]
      have := filter_sum_mono E p q h
      simp only [List.map_cons, List.sum_cons]; omega
    · have := ih h1
      by_cases hp : p e = true
      · rw [if_pos hp, if_pos (h e hp)]; simp only [List.map_cons, List.sum_cons]; omega
      · rw [if_neg hp]
        split
        · simp only [List.map_cons, List.sum_cons]; omega
        · exact this
theorem wSec_le (E : Ent) (name : List UInt8) (n : Nat) : wSec E name n ≤ wAll E := filter_sum_le E _
theorem wSec_step (E : Ent) (name : List UInt8) (n : Nat) (s x : List UInt8) (hs : s = [] ∨ s = [42]) (h : (name ++ 42 :: numP n ++ s, x) ∈ E) : wSec E name n + (x.length + 1) ≤ wSec E name (n + 1) := by
  classical
  refine filter_sum_step E _ _ (fun e he => ?_) _ h ?_ ?_
  · obtain ⟨m, t, h1, h2, h3⟩ := of_decide_eq_true he
    exact decide_eq_true ⟨m, t, Nat.lt_succ_of_lt h1, h2, h3⟩
  · refine decide_eq_false ?_
    rintro ⟨m, t, h1, h2, h3⟩
    have := key_inj name hs h2 h3
    omega
  · exact decide_eq_true ⟨n, s, Nat.lt_succ_self n, hs, rfl⟩
/-- f's values are entries of E -/
def Ents (f : ValF) (E : Ent) : Prop := ∀ k x, f k = some x → (k, x) ∈ E
theorem sec_ent {f : ValF} {E : Ent} (hE : Ents f E) {name : List UInt8} {n : Nat} {x : List UInt8} {b : Bool} (h : secL f name n = some (x, b)) : wSec E name n + (x.length + 1) ≤ wSec E name (n + 1) := by
  unfold secL at h
  cases h1 : f (name ++ 42 :: numP n ++ [42]) with
  | some y =>
    rw [h1] at h
    injection h with h
    injection h with h _
    subst h
    exact wSec_step E name n [42] y (.inr rfl) (hE _ _ h1)
  | none =>
    rw [h1] at h
    cases h2 : f (name ++ 42 :: numP n) with
    | some y =>
      rw [h2] at h
      injection h with h
      injection h with h _
      subst h
      exact wSec_step E name n [] y (.inl rfl) (by rw [List.append_nil]; exact hE _ _ h2)
    | none => rw [h2] at h; cases h
theorem coStep_le (lab x : List UInt8) (st : Bool) (n : Nat) : ((coStep lab x st n).1.length ≤ lab.length + x.length) ∧ (coStep lab x st n).2.length ≤ x.length := by
  have hd := (pdec_length x).1
  unfold coStep
  split
  · split
    · cases hx : pExt x with
      | some p => obtain ⟨p1, p2⟩ := p; have := pExt_sizes hx; exact ⟨by show p1.length ≤ _; omega, this.2⟩
      | none => exact ⟨by show lab.length ≤ _; omega, hd⟩
    · exact ⟨by show lab.length ≤ _; omega, hd⟩
  · exact ⟨by show lab.length ≤ _; omega, Nat.le_refl _⟩
theorem coAt_le {f : ValF} {E : Ent} (hE : Ents f E) (name : List UInt8) (n : Nat) (hy : ∀ i, i < n → secL f name i ≠ none) :
    (coAt f name n).1.length + n ≤ 5 + wSec E name n ∧ (coAt f name n).2.length + n ≤ wSec E name n := by
  induction n with
  | zero => exact ⟨by show 5 + 0 ≤ _; omega, by show 0 + 0 ≤ _; omega⟩
  | succ n ih =>
    obtain ⟨h1, h2⟩ := ih (fun i hi => hy i (Nat.lt_succ_of_lt hi))
    cases hs : secL f name n with
    | none => exact absurd hs (hy n (Nat.lt_succ_self n))
    | some p =>
      obtain ⟨x, b⟩ := p
      rw [coAt_succ hs]
      have h3 := sec_ent hE hs
      obtain ⟨h4, h5⟩ := coStep_le (coAt f name n).1 x b n
      refine ⟨?_, ?_⟩
      · show (coStep (coAt f name n).1 x b n).1.length + (n + 1) ≤ _
        omega
      · show ((coAt f name n).2 ++ (coStep (coAt f name n).1 x b n).2).length + (n + 1) ≤ _
        rw [List.length_append]; omega
theorem firstNo_at (f : ValF) (name : List UInt8) (k n : Nat) (hy : ∀ i, i < n → secL f name i ≠ none) :
    (∀ i, i < firstNo f name k n → secL f name i ≠ none) ∧ firstNo f name k n ≤ n + k ∧ (secL f name (firstNo f name k n) = none ∨ firstNo f name k n = n + k) := by
  induction k generalizing n with
  | zero => exact ⟨hy, Nat.le_refl _, .inr rfl⟩
  | succ k ih =>
    unfold firstNo
    by_cases h : (secL f name n).isNone = true
    · rw [if_pos h]
      exact ⟨hy, by omega, .inl (by simpa using h)⟩
    · rw [if_neg h]
      obtain ⟨g1, g2, g3⟩ := ih (n + 1) (fun i hi => by
        rcases Nat.lt_succ_iff_lt_or_eq.1 hi with h1 | rfl
        · exact hy i h1
        · intro e; rw [e] at h; exact h rfl)
      exact ⟨g1, by omega, g3.imp id (fun e => by omega)⟩
theorem secOK_of {f : ValF} {E : Ent} (hE : Ents f E) (hw : wAll E ≤ 900000) (name : List UInt8) : SecOK f name (nSec f name) := by
  obtain ⟨h1, h2, h3⟩ := firstNo_at f name 1000000 0 (fun i hi => absurd hi (Nat.not_lt_zero i))
  have hb : ∀ n, n ≤ nSec f name → (coAt f name n).1.length + n ≤ 5 + wAll E ∧ (coAt f name n).2.length + n ≤ wAll E := fun n hn => by
    obtain ⟨a, b⟩ := coAt_le hE name n (fun i hi => h1 i (Nat.lt_of_lt_of_le hi hn))
    have := wSec_le E name n
    exact ⟨by omega, by omega⟩
  have hN := (hb (nSec f name) (Nat.le_refl _)).2
  refine ⟨by omega, ?_, h1, fun n hn => ?_⟩
  · rcases h3 with h3 | h3
    · exact h3
    · exact absurd (show nSec f name = 1000000 by unfold nSec; omega) (by omega)
  · obtain ⟨a, b⟩ := hb n hn
    exact ⟨by omega, by omega⟩
end Go.Proofs.YtienjpelmbldpaaGreatDoor
