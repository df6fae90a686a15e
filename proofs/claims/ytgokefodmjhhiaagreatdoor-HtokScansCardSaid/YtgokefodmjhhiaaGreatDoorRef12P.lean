/- The reference's way to read a reference's sign, as lists, held against ent's. No statement is proved here. -/
import Derived.Test.YtgokefodmjhhiaaGreatDoorBaseP
import Derived.Test.YtgokefodmjhhiaaGreatDoorBaseM
import Derived.StillTailTactics
namespace Go.Proofs.YtgokefodmjhhiaaGreatDoor
open Go.RowKit
set_option linter.unusedVariables false
set_option linter.unusedSimpArgs false
set_option maxRecDepth 100000
def isRB (c : UInt8) : Bool := letterB c || digitB c || c == 35
theorem dig10_rb (c : UInt8) : digB 10 c ≠ none → isRB c = true := u8_all (p := fun c => digB 10 c ≠ none → isRB c = true) (by decide +kernel) c
theorem dig16_rb (c : UInt8) : digB 16 c ≠ none → isRB c = true := u8_all (p := fun c => digB 16 c ≠ none → isRB c = true) (by decide +kernel) c
theorem parse_rb {b : Nat} (hb : ∀ c, digB b c ≠ none → isRB c = true) (l : List UInt8) : ∀ m n, parseB b m l = some n → l.all isRB = true := by
  induction l with
  | nil => intro _ _ _; rfl
  | cons c r ih =>
    intro m n h
    rw [parseB] at h
    cases hd : digB b c with
    | none => rw [hd] at h; cases h
    | some d =>
      rw [hd] at h
      rw [List.all_cons, hb c (by rw [hd]; intro e; cases e), ih _ _ h]; rfl
theorem numAt_rb {b m : Nat} (hb : ∀ c, digB b c ≠ none → isRB c = true) {l : List UInt8} {x : Int} (h : numAt b m l = some x) : l.all isRB = true ∧ l.length ≤ m := by
  unfold numAt at h
  split at h
  · cases h
  · rename_i n hn
    split at h
    · cases h
    · rename_i hl
      refine ⟨?_, by omega⟩
      unfold parseU at hn
      split at hn
      · cases hn
      · exact parse_rb hb l _ _ hn
/-- the names -/
def namesL : List (List UInt8) := [[97, 109, 112], [108, 116], [103, 116], [113, 117, 111, 116], [97, 112, 111, 115], [110, 98, 115, 112], [99, 111, 112, 121], [114, 101, 103], [101, 117, 114, 111], [104, 101, 108, 108, 105, 112], [110, 100, 97, 115, 104], [109, 100, 97, 115, 104], [108, 115, 113, 117, 111], [114, 115, 113, 117, 111], [108, 100, 113, 117, 111], [114, 100, 113, 117, 111]]
theorem putN_mem {f : List UInt8 → Option Int} {k : List UInt8} {c : Int} (hk : k ∈ namesL) (hf : ∀ y x, f y = some x → y ∈ namesL) : ∀ y x, putN f k c y = some x → y ∈ namesL := by
  intro y x h
  unfold putN at h
  split at h
  · rename_i e; rw [e]; exact hk
  · exact hf y x h
theorem name_mem : ∀ y x, nameN y = some x → y ∈ namesL := by
  unfold nameN
  repeat (refine putN_mem (by decide) ?_)
  intro y x h; cases h
theorem pref_one (l : List UInt8) (c : UInt8) : Lib.hasPrefix l [c] = true ↔ ∃ r, l = c :: r := by
  cases l with
  | nil => exact ⟨fun h => by simp [Lib.hasPrefix] at h, fun ⟨r, h⟩ => by cases h⟩
  | cons a r =>
    refine ⟨fun h => ⟨r, ?_⟩, fun ⟨q, h⟩ => by injection h with h1 h2; subst h1; simp [Lib.hasPrefix]⟩
    have : c = a := by simpa [Lib.hasPrefix] using h
    rw [this]
theorem trim_one (c : UInt8) (r : List UInt8) : Lib.trimPrefix (c :: r) [c] = r := by
  unfold Lib.trimPrefix
  rw [(pref_one _ c).2 ⟨r, rfl⟩]; rfl
/-- the sign behind a `#` -/
theorem sgn_num (r : List UInt8) : sgn (35 :: r) = byN r := by
  unfold sgn
  rw [if_pos ((pref_one _ 35).2 ⟨r, rfl⟩), trim_one]
theorem byN_x (c : UInt8) (r : List UInt8) (h : c = 120 ∨ c = 88) : byN (c :: r) = numAt 16 6 r := by
  unfold byN
  rcases h with rfl | rfl
  · rw [(pref_one _ 120).2 ⟨r, rfl⟩]; rfl
  · rw [(pref_one _ 88).2 ⟨r, rfl⟩, Bool.or_true]; rfl
theorem byN_d (l : List UInt8) (h : ∀ c r, l = c :: r → ¬(c = 120 ∨ c = 88)) : byN l = numAt 10 7 l := by
  unfold byN
  have h1 : Lib.hasPrefix l [120] = false := by
    cases e : Lib.hasPrefix l [120] with
    | false => rfl
    | true => obtain ⟨r, hr⟩ := (pref_one _ _).1 e; exact absurd (.inl rfl) (h _ _ hr)
  have h2 : Lib.hasPrefix l [88] = false := by
    cases e : Lib.hasPrefix l [88] with
    | false => rfl
    | true => obtain ⟨r, hr⟩ := (pref_one _ _).1 e; exact absurd (.inr rfl) (h _ _ hr)
  rw [h1, h2]; rfl
theorem sgn_name (l : List UInt8) (h : ∀ r, l ≠ 35 :: r) : sgn l = nameN l := by
  unfold sgn
  rw [if_neg (by intro e; obtain ⟨r, hr⟩ := (pref_one _ _).1 e; exact h r hr)]
theorem byN_rb {l : List UInt8} {x : Int} (h : byN l = some x) : l.all isRB = true ∧ l.length ≤ 7 := by
  match l, h with
  | [], h => rw [show byN [] = none by decide] at h; cases h
  | c :: r, h =>
    by_cases hc : c = 120 ∨ c = 88
    · rw [byN_x c r hc] at h
      obtain ⟨h1, h2⟩ := numAt_rb dig16_rb h
      refine ⟨?_, by simp; omega⟩
      rw [List.all_cons, h1]
      rcases hc with rfl | rfl <;> decide
    · rw [byN_d (c :: r) (by intro c' r' e; injection e with e1 e2; subst e1; exact hc)] at h
      exact numAt_rb dig10_rb h
theorem sgn_rb {k : List UInt8} {x : Int} (h : sgn k = some x) : k.all isRB = true ∧ k.length ≤ 8 := by
  by_cases hk : ∃ r, k = 35 :: r
  · obtain ⟨r, rfl⟩ := hk
    rw [sgn_num] at h
    obtain ⟨h1, h2⟩ := byN_rb h
    exact ⟨by rw [List.all_cons, h1]; decide, by simp; omega⟩
  · rw [sgn_name k (fun r e => hk ⟨r, e⟩)] at h
    have := name_mem k x h
    have ha : ∀ y ∈ namesL, y.all isRB = true ∧ y.length ≤ 8 := by decide
    exact ha k this
theorem take_while_app {p : UInt8 → Bool} (l : List UInt8) : ∃ r, l = l.takeWhile p ++ r ∧ (l.takeWhile p).all p = true ∧ ∀ c q, r = c :: q → p c = false := by
  induction l with
  | nil => exact ⟨[], rfl, rfl, fun c q h => by cases h⟩
  | cons a l ih =>
    obtain ⟨r, h1, h2, h3⟩ := ih
    cases hp : p a with
    | true =>
      refine ⟨r, ?_, ?_, h3⟩
      · rw [List.takeWhile_cons, hp]; simp only [if_true]; rw [List.cons_append, ← h1]
      · rw [List.takeWhile_cons, hp]; simp only [if_true]; rw [List.all_cons, hp, h2]; rfl
    | false =>
      refine ⟨a :: l, ?_, ?_, ?_⟩
      · rw [List.takeWhile_cons, hp]; rfl
      · rw [List.takeWhile_cons, hp]; rfl
      · intro c q e; injection e with e1 _; rw [← e1]; exact hp
theorem rb_semi {k : List UInt8} (h : k.all isRB = true) : (59 : UInt8) ∉ k := fun hm => absurd (List.all_eq_true.1 h 59 hm) (by decide)
/-- the sign told by k where q stands behind it -/
def runV (k q : List UInt8) : Int × Nat := match q with
  | 59 :: _ => (match sgn k with | some x => (x, k.length + 1) | none => (0, 0))
  | _ => (0, 0)
theorem runV_semi (k X : List UInt8) : runV k (59 :: X) = match sgn k with | some x => (x, k.length + 1) | none => (0, 0) := rfl
theorem runV_no {k q : List UInt8} (h : ∀ X, q ≠ 59 :: X) : runV k q = (0, 0) := by
  unfold runV
  split
  · rename_i X; exact absurd rfl (h X)
  · rfl
/-- the reference's way: as many signs of a name as there are, then a `;` -/
theorem refN_run {r k q : List UInt8} (e : r = k ++ q) (hk : k.all isRB = true) (hq : ∀ c t, q = c :: t → isRB c = false) :
    refN r = runV k q := by
  by_cases hs : ∃ X, q = 59 :: X
  · obtain ⟨X, rfl⟩ := hs
    subst e
    rw [runV_semi]
    by_cases hl : k.length ≤ 8
    · exact refN_at (rb_semi hk) hl X
    · have hn : sgn k = none := by
        cases h : sgn k with
        | none => rfl
        | some x => exact absurd (sgn_rb h).2 hl
      rw [hn]
      have ht : (k ++ 59 :: X).take 9 = k.take 9 := by rw [List.take_append_of_le_length (by omega)]
      have hh : hasC 59 ((k ++ 59 :: X).take 9) = false := by
        rw [ht]
        exact hasC_false (fun hm => rb_semi hk (List.mem_of_mem_take hm))
      unfold refN
      rw [hh]
      split
      · rename_i h; cases h
      · rfl
  · rw [runV_no (fun X e => hs ⟨X, e⟩)]
    unfold refN
    split
    · rename_i x h1 h2
      exfalso
      rcases cut_case 59 (r.take 9) with ⟨h3, _, _⟩ | ⟨a, t, h3, h4, h5, _⟩
      · rw [hasC_false h3] at h2; cases h2
      · rw [h5] at h1
        have ha := (sgn_rb h1).1
        have h6 : r = a ++ 59 :: (t ++ r.drop 9) := by
          conv => lhs; rw [← List.take_append_drop 9 r, h3]
          simp
        rw [e] at h6
        rcases List.append_eq_append_iff.1 h6 with ⟨u, hu1, hu2⟩ | ⟨u, hu1, hu2⟩
        · cases u with
          | nil => exact hs ⟨_, by simpa using hu2⟩
          | cons c u =>
            have := hq c _ hu2
            rw [hu1, List.all_append, Bool.and_eq_true] at ha
            rw [List.all_cons, Bool.and_eq_true] at ha
            rw [this] at ha
            exact absurd ha.2.1 (by decide)
        · cases u with
          | nil => exact hs ⟨_, by simpa using hu2.symm⟩
          | cons c u =>
            rw [List.cons_append] at hu2
            injection hu2 with hu3 _
            rw [hu1, List.all_append, Bool.and_eq_true] at hk
            rw [List.all_cons, Bool.and_eq_true, ← hu3] at hk
            exact absurd hk.2.1 (by decide)
    · rfl
end Go.Proofs.YtgokefodmjhhiaaGreatDoor
