/- A time's pieces between its signs ':', as lists of bytes, and as the library's Split has them. No statement is proved here. -/
import Derived.Test.YtiojfknphpnlhaaDoorStampT
import Derived.Test.YtiojfknphpnlhaaDoorKit
import Derived.Lib.Split
import Derived.Lib.CountLaws
import Derived.Lib.IndexLaws
namespace Go.Proofs.YtiojfknphpnlhaaDoor
open Go.RowKit
set_option linter.unusedVariables false

def splitC : List UInt8 → List (List UInt8)
  | [] => [[]]
  | x :: r => if x = 58 then [] :: splitC r else match splitC r with
    | [] => [[x]]
    | p :: ps => (x :: p) :: ps
theorem splitC_no : ∀ (a : List UInt8), (∀ x ∈ a, x ≠ 58) → splitC a = [a]
  | [], _ => rfl
  | x :: a, h => by
    rw [splitC, if_neg (h x (List.mem_cons_self ..)), splitC_no a (fun y hy => h y (List.mem_cons_of_mem _ hy))]
theorem splitC_at : ∀ (a r : List UInt8), (∀ x ∈ a, x ≠ 58) → splitC (a ++ 58 :: r) = a :: splitC r
  | [], r, _ => by rw [List.nil_append, splitC, if_pos rfl]
  | x :: a, r, h => by
    rw [List.cons_append, splitC, if_neg (h x (List.mem_cons_self ..)), splitC_at a r (fun y hy => h y (List.mem_cons_of_mem _ hy))]
def joinC : List (List UInt8) → List UInt8
  | [] => []
  | [p] => p
  | p :: q :: ps => p ++ 58 :: joinC (q :: ps)
theorem splitC_ne (l : List UInt8) : splitC l ≠ [] := by
  cases l with
  | nil => simp [splitC]
  | cons x r =>
    rw [splitC]
    split
    · simp
    · split <;> simp
theorem splitC_join : ∀ (l : List UInt8), joinC (splitC l) = l
  | [] => rfl
  | x :: r => by
    have ih := splitC_join r
    have hne := splitC_ne r
    rw [splitC]
    cases h : splitC r with
    | nil => exact absurd h hne
    | cons p ps =>
      rw [h] at ih
      split
      · rename_i e; rw [joinC, ih, e]; rfl
      · cases ps with
        | nil => simp only [joinC] at ih ⊢; rw [ih]
        | cons q qs => simp only [joinC, List.cons_append] at ih ⊢; rw [ih]
theorem clock_some {a b c : List UInt8} {v : Int} (h : clockV a b c = some v) : (a.length = 2 ∧ b.length = 2 ∧ c.length = 2) ∧ digB a = true ∧ digB b = true ∧ digB c = true := by
  unfold clockV clockB belowB at h
  split at h
  · rename_i e
    simp only [Bool.and_eq_true, decide_eq_true_eq] at e
    exact ⟨⟨e.1.2.1, e.2.1.2.1, e.2.2.2.1⟩, e.1.1, e.2.1.1, e.2.2.1⟩
  · cases h
theorem dig_ne {a : List UInt8} (h : digB a = true) : ∀ x ∈ a, x ≠ 58 := by
  intro x hx e
  subst e
  have := List.all_eq_true.1 h 58 hx
  revert this; decide
theorem len_two {a : List UInt8} (h : a.length = 2) : ∃ x y, a = [x, y] := by
  match a, h with
  | [x, y], _ => exact ⟨x, y, rfl⟩
def timeS : List (List UInt8) → Option Int
  | [a, b] => clockV a b [48, 48]
  | [a, b, c] => clockV a b c
  | _ => none
theorem time_split (l : List UInt8) : timeV l = timeS (splitC l) := by
  apply Option.ext
  intro v
  constructor
  · intro h
    unfold timeV at h
    split at h
    · rename_i a b x c d
      split at h
      · rename_i e
        subst e
        have hs := clock_some h
        have h1 := splitC_at [a, b] [c, d] (dig_ne hs.2.1)
        rw [splitC_no [c, d] (dig_ne hs.2.2.1)] at h1
        rw [show [a, b, 58, c, d] = [a, b] ++ 58 :: [c, d] from rfl, h1]
        exact h
      · cases h
    · rename_i a b x c d y e f
      split at h
      · rename_i e1
        obtain ⟨rfl, rfl⟩ := e1
        have hs := clock_some h
        have h1 := splitC_at [a, b] ([c, d] ++ 58 :: [e, f]) (dig_ne hs.2.1)
        rw [splitC_at [c, d] [e, f] (dig_ne hs.2.2.1), splitC_no [e, f] (dig_ne hs.2.2.2)] at h1
        rw [show [a, b, 58, c, d, 58, e, f] = [a, b] ++ 58 :: ([c, d] ++ 58 :: [e, f]) from rfl, h1]
        exact h
      · cases h
    · cases h
  · intro h
    have hj := splitC_join l
    unfold timeS at h
    split at h
    · rename_i a b e
      have hs := clock_some h
      obtain ⟨x, y, rfl⟩ := len_two hs.1.1
      obtain ⟨c, d, rfl⟩ := len_two hs.1.2.1
      rw [e] at hj
      rw [← hj]
      exact h
    · rename_i a b c e
      have hs := clock_some h
      obtain ⟨x, y, rfl⟩ := len_two hs.1.1
      obtain ⟨p, q, rfl⟩ := len_two hs.1.2.1
      obtain ⟨r, t, rfl⟩ := len_two hs.1.2.2
      rw [e] at hj
      rw [← hj]
      exact h
    · cases h

theorem splitC_len : ∀ (l : List UInt8), ∀ p ∈ splitC l, p.length ≤ l.length
  | [], p, h => by simp [splitC] at h; subst h; exact Nat.le_refl _
  | x :: r, p, h => by
    have ih := splitC_len r
    rw [splitC] at h
    split at h
    · rcases List.mem_cons.1 h with rfl | h
      · exact Nat.zero_le _
      · have := ih p h; simp; omega
    · cases hr : splitC r with
      | nil => exact absurd hr (splitC_ne r)
      | cons q qs =>
        rw [hr] at h ih
        rcases List.mem_cons.1 h with rfl | h
        · have := ih q (List.mem_cons_self ..); simp; omega
        · have := ih p (List.mem_cons_of_mem _ h); simp; omega
/-! ### the library's pieces -/
theorem lib_split (n : Nat) : ∀ (s : ByteArray), s.size ≤ n → (Lib.splitB ⟨#[58]⟩ 0 (Lib.countB s ⟨#[58]⟩) s).map (fun p => p.data.toList) = splitC s.data.toList ∧ (Lib.splitB ⟨#[58]⟩ 0 (Lib.countB s ⟨#[58]⟩) s).length = Lib.countB s ⟨#[58]⟩ + 1 := by
  induction n with
  | zero =>
    intro s hs
    have hnil : s.data.toList = [] := List.eq_nil_of_length_eq_zero (by rw [toList_length]; omega)
    have hi : Lib.indexB s ⟨#[58]⟩ = -1 := by
      rw [Lib.one s ⟨#[58]⟩ rfl, hnil]; rfl
    rw [Lib.splitB_miss _ _ _ _ hi, Lib.countB_miss _ _ hi, List.map_cons, List.map_nil, hnil]
    exact ⟨rfl, rfl⟩
  | succ n ih =>
    intro s hs
    rcases Lib.indexB_cases s ⟨#[58]⟩ with hi | ⟨i, hi, hlt⟩
    · have h1 := hi
      rw [Lib.one s ⟨#[58]⟩ rfl] at h1
      have hno := Lib.indexByte_none h1
      rw [Lib.splitB_miss _ _ _ _ hi, Lib.countB_miss _ _ hi, List.map_cons, List.map_nil, splitC_no]
      · exact ⟨rfl, rfl⟩
      · intro x hx e
        obtain ⟨k, hk⟩ := List.getElem?_of_mem hx
        exact hno k (by rw [hk, e]; rfl)
    · have h1 := hi
      rw [Lib.one s ⟨#[58]⟩ rfl] at h1
      obtain ⟨hat, hno⟩ := Lib.indexByte_some h1
      have hlt' : i + 1 ≤ s.size := hlt
      have hz : (s.extract (i + 1) s.size).size ≤ n := by rw [ByteArray.size_extract]; omega
      obtain ⟨ih1, ih2⟩ := ih (s.extract (i + 1) s.size) hz
      have hc := Lib.countB_hit s ⟨#[58]⟩ i (by decide) hi
      rw [show (⟨#[58]⟩ : ByteArray).size = 1 from rfl, Nat.add_comm 1] at hc
      rw [hc, Lib.splitB_hit _ _ _ _ i hi, show (⟨#[58]⟩ : ByteArray).size = 1 from rfl, List.map_cons, ih1, List.length_cons, ih2]
      refine ⟨?_, rfl⟩
      have hget : s.data.toList[i]'(by rw [toList_length]; omega) = 58 := by
        rw [List.getElem?_eq_getElem (by rw [toList_length]; omega)] at hat
        exact Option.some.inj hat
      have e : s.data.toList = s.data.toList.take i ++ 58 :: s.data.toList.drop (i + 1) := by
        conv => lhs; rw [← List.take_append_drop i s.data.toList, List.drop_eq_getElem_cons (by rw [toList_length]; omega), hget]
      rw [extract_end, show i + 0 = i from rfl, extract_list, List.drop_zero]
      conv => rhs; rw [e]
      rw [splitC_at]
      intro x hx ex
      obtain ⟨k, hk⟩ := List.getElem?_of_mem hx
      have hki : k < i := by
        have := (List.getElem?_eq_some_iff.1 hk).1
        rw [List.length_take] at this; omega
      rw [List.getElem?_take_of_lt hki] at hk
      exact hno k hki (by rw [hk, ex]; rfl)
end Go.Proofs.YtiojfknphpnlhaaDoor
