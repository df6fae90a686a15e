/- PLAIN MATHEMATICS of dates: leap years, months, days since 1970; a day's number tells its date. No statement is proved here. -/
import Derived.Lib.ItoaNum
namespace Go.Proofs.YtiojfknphpnlhaaDoor
set_option linter.unusedVariables false

def leapB (y : Int) : Bool := decide ((y % 4 = 0 ∧ ¬ y % 100 = 0) ∨ y % 400 = 0)
def lp (y : Int) : Int := y / 4 - y / 100 + y / 400
def dim (y m : Int) : Int := if m = 2 then (if leapB y = true then 29 else 28) else if m = 4 ∨ m = 6 ∨ m = 9 ∨ m = 11 then 30 else 31
/-- the days of a year's first k months -/
def cumN (y : Int) : Nat → Int
  | 0 => 0
  | k + 1 => cumN y k + dim y (k + 1)
def newY (y : Int) : Int := 365 * (y - 1970) + lp (y - 1) - 477
def yl (y : Int) : Int := if leapB y = true then 366 else 365
def daysZ (y m d : Int) : Int := newY y + cumN y (m - 1).toNat + d - 1
def MayD (y m d : Int) : Prop := 1900 ≤ y ∧ y ≤ 9999 ∧ 1 ≤ m ∧ m ≤ 12 ∧ 1 ≤ d ∧ d ≤ dim y m
instance (y m d : Int) : Decidable (MayD y m d) := inferInstanceAs (Decidable (_ ∧ _))
def mayB (y m d : Int) : Bool := decide (MayD y m d)

theorem leapB_iff (y : Int) : leapB y = true ↔ ((y % 4 = 0 ∧ ¬ y % 100 = 0) ∨ y % 400 = 0) := by unfold leapB; exact decide_eq_true_iff
theorem leapB_no (y : Int) : leapB y = false ↔ ¬ ((y % 4 = 0 ∧ ¬ y % 100 = 0) ∨ y % 400 = 0) := by unfold leapB; exact decide_eq_false_iff_not
theorem yl_bd (y : Int) : yl y = 365 ∨ yl y = 366 := by unfold yl; split <;> simp
theorem newY_succ (y : Int) : newY (y + 1) = newY y + yl y := by
  unfold newY yl lp
  cases h : leapB y
  · have := (leapB_no y).1 h
    rw [if_neg (by simp)]; omega
  · have := (leapB_iff y).1 h
    rw [if_pos rfl]; omega
theorem newY_mono (a b : Int) (h : a ≤ b) : newY a ≤ newY b := by unfold newY lp; omega
theorem newY_lt (a b : Int) (h : a < b) : newY a + yl a ≤ newY b := by rw [← newY_succ]; exact newY_mono _ _ (by omega)
theorem newY_first : newY 1900 = -25567 := by decide
theorem newY_last : newY 10000 = 2932897 := by decide
theorem newY_bd (y : Int) (h0 : 1900 ≤ y) (h1 : y ≤ 10000) : -25567 ≤ newY y ∧ newY y ≤ 2932897 := by
  rw [← newY_first, ← newY_last]; exact ⟨newY_mono _ _ h0, newY_mono _ _ h1⟩
theorem dim_bd (y m : Int) : 28 ≤ dim y m ∧ dim y m ≤ 31 := by unfold dim; split <;> split <;> omega
theorem cumN_succ (y : Int) (k : Nat) : cumN y (k + 1) = cumN y k + dim y (k + 1) := rfl
theorem cumN_mono (y : Int) {a b : Nat} (h : a ≤ b) : cumN y a ≤ cumN y b := by
  induction b with
  | zero => obtain rfl : a = 0 := by omega
            exact Int.le_refl _
  | succ b ih =>
    rcases Nat.eq_or_lt_of_le h with rfl | h
    · exact Int.le_refl _
    · have := ih (by omega); have := dim_bd y (b + 1); rw [cumN_succ]; omega
theorem cumN_nn (y : Int) (k : Nat) : 0 ≤ cumN y k := cumN_mono y (Nat.zero_le k)
theorem cumN_12 (y : Int) : cumN y 12 = yl y := by
  simp only [cumN, dim, yl]
  cases h : leapB y <;> simp
theorem cumN_le (y : Int) (k : Nat) (h : k ≤ 12) : cumN y k ≤ 366 := by
  have := cumN_mono y h; rw [cumN_12] at this; have := yl_bd y; omega
theorem cum_step (y m : Int) (h : 1 ≤ m) : cumN y m.toNat = cumN y (m - 1).toNat + dim y m := by
  obtain ⟨k, rfl⟩ : ∃ k : Nat, m = k + 1 := ⟨(m - 1).toNat, by omega⟩
  rw [show ((k : Int) + 1).toNat = k + 1 by omega, show ((k : Int) + 1 - 1).toNat = k by omega]; rfl
theorem days_in (y m d : Int) (h : MayD y m d) : newY y ≤ daysZ y m d ∧ daysZ y m d < newY y + yl y := by
  obtain ⟨h1, h2, h3, h4, h5, h6⟩ := h
  have a := cumN_nn y (m - 1).toNat
  have b := cum_step y m h3
  have c := cumN_mono y (a := m.toNat) (b := 12) (by omega)
  rw [cumN_12] at c
  unfold daysZ
  constructor <;> omega
theorem days_bd (y m d : Int) (h : MayD y m d) : -25567 ≤ daysZ y m d ∧ daysZ y m d < 2932897 := by
  have a := days_in y m d h
  obtain ⟨h1, h2, _⟩ := h
  have b := newY_mono 1900 y h1
  have c := newY_lt y 10000 (by omega)
  rw [newY_first] at b; rw [newY_last] at c
  constructor <;> omega
/-- a day's number tells its date -/
theorem days_one {y m d y' m' d' : Int} (h : MayD y m d) (h' : MayD y' m' d') (e : daysZ y m d = daysZ y' m' d') : y = y' ∧ m = m' ∧ d = d' := by
  have a := days_in _ _ _ h
  have a' := days_in _ _ _ h'
  have ey : y = y' := by
    rcases Int.lt_trichotomy y y' with hlt | rfl | hlt
    · have := newY_lt _ _ hlt; omega
    · rfl
    · have := newY_lt _ _ hlt; omega
  subst ey
  obtain ⟨h1, h2, h3, h4, h5, h6⟩ := h
  obtain ⟨_, _, g3, g4, g5, g6⟩ := h'
  have b := cum_step y m h3
  have b' := cum_step y m' g3
  unfold daysZ at e
  have em : m = m' := by
    rcases Int.lt_trichotomy m m' with hlt | rfl | hlt
    · have := cumN_mono y (a := m.toNat) (b := (m' - 1).toNat) (by omega); omega
    · rfl
    · have := cumN_mono y (a := m'.toNat) (b := (m - 1).toNat) (by omega); omega
  subst em
  refine ⟨rfl, rfl, ?_⟩
  omega
theorem cumN_0 (y : Int) : cumN y (1 - 1 : Int).toNat = 0 := rfl
theorem daysZ_first (y : Int) : daysZ y 1 1 = newY y := by unfold daysZ; rw [cumN_0]; omega
theorem daysZ_next (y m d : Int) : daysZ y m (d + 1) = daysZ y m d + 1 := by unfold daysZ; omega
theorem daysZ_month (y m : Int) (h : 1 ≤ m) : daysZ y (m + 1) 1 = daysZ y m (dim y m) + 1 := by
  unfold daysZ
  rw [show m + 1 - 1 = m by omega, cum_step y m h]; omega
theorem daysZ_year (y : Int) : daysZ (y + 1) 1 1 = daysZ y 12 31 + 1 := by
  rw [daysZ_first, newY_succ]
  unfold daysZ
  have := cumN_12 y
  have b := cum_step y 12 (by omega)
  have c : dim y 12 = 31 := rfl
  rw [show (12 : Int).toNat = 12 from rfl] at b
  omega
theorem mayB_iff {y m d : Int} : mayB y m d = true ↔ MayD y m d := by unfold mayB; exact decide_eq_true_iff
theorem mayB_no {y m d : Int} : mayB y m d = false ↔ ¬ MayD y m d := by unfold mayB; exact decide_eq_false_iff_not

/-! ### digits -/
def dg (n : Int) : UInt8 := UInt8.ofNat (48 + n.toNat)
def two (n : Int) : List UInt8 := [dg (n / 10), dg (n % 10)]
def four (n : Int) : List UInt8 := [dg (n / 1000), dg (n / 100 % 10), dg (n / 10 % 10), dg (n % 10)]
end Go.Proofs.YtiojfknphpnlhaaDoor
