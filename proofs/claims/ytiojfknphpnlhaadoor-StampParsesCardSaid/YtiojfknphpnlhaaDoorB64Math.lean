/- Base64 on lists of bytes: what is encoded is decoded, whatever else stands between; lengths; texts one behind the other. No statement is proved here. -/
import Derived.Test.YtiojfknphpnlhaaDoorB64Plain
namespace Go.Proofs.YtiojfknphpnlhaaDoor
set_option linter.unusedVariables false
set_option linter.unusedSimpArgs false

/-- the letters ahead of the sign of the end -/
def lettersOf : List UInt8 → List UInt8
  | [] => []
  | c :: r => if c = 61 then [] else if val c < 64 then c :: lettersOf r else lettersOf r
theorem decFrom_letters (l : List UInt8) : ∀ h w, decFrom h w (ahead l) = decFrom h w (lettersOf l) := by
  induction l with
  | nil => intro h w; rfl
  | cons c r ih =>
    intro h w
    rw [lettersOf]
    by_cases h61 : c = 61
    · rw [if_pos h61]; subst h61; rfl
    · have ea : ahead (c :: r) = c :: ahead r := by simp [ahead, h61]
      rw [if_neg h61, ea, decFrom]
      by_cases hv : val c < 64
      · rw [if_pos hv, decFrom, ih, ih, ih]
      · have := val_le c
        rw [if_neg hv, if_pos (by omega), ih]
theorem decB_letters (l : List UInt8) : decB l = decFrom 0 0 (lettersOf l) := decFrom_letters l 0 0

theorem lettersOf_congr (a : List UInt8) {x y : List UInt8} (h : lettersOf x = lettersOf y) : lettersOf (a ++ x) = lettersOf (a ++ y) := by
  induction a with
  | nil => exact h
  | cons c r ih => rw [List.cons_append, List.cons_append, lettersOf, lettersOf, ih]
theorem lettersOf_end (a b : List UInt8) : lettersOf (a ++ 61 :: b) = lettersOf a := by
  induction a with
  | nil => rfl
  | cons c r ih => rw [List.cons_append, lettersOf, lettersOf, ih]
theorem lettersOf_junk {c : UInt8} (r : List UInt8) (h : c ≠ 61) (hv : ¬ val c < 64) : lettersOf (c :: r) = lettersOf r := by
  rw [lettersOf, if_neg h, if_neg hv]
theorem lettersOf_letter {n : Nat} (r : List UInt8) (h : n < 64) : lettersOf (letter n :: r) = letter n :: lettersOf r := by
  have := letter_facts n h
  rw [lettersOf, if_neg this.2, if_pos (by omega)]
theorem lettersOf_wrap (n : Nat) (hn : 0 < n) (l : List UInt8) : lettersOf (wrapL n l) = lettersOf l := by
  suffices H : ∀ m, ∀ l : List UInt8, l.length ≤ m → lettersOf (wrapL n l) = lettersOf l from H _ l (Nat.le_refl _)
  intro m
  induction m with
  | zero =>
    intro l hl
    have : l = [] := List.eq_nil_of_length_eq_zero (by omega)
    subst this
    rw [wrapL_end (by simp)]
  | succ m ih =>
    intro l hl
    by_cases h : n < l.length
    · rw [wrapL_go hn h, List.append_assoc]
      have h1 := ih (l.drop n) (by rw [List.length_drop]; omega)
      have h2 : lettersOf ([13, 10] ++ wrapL n (l.drop n)) = lettersOf (l.drop n) := by
        rw [show [13, 10] ++ wrapL n (l.drop n) = 13 :: 10 :: wrapL n (l.drop n) from rfl, lettersOf_junk _ (by decide) (by decide), lettersOf_junk _ (by decide) (by decide), h1]
      rw [lettersOf_congr (l.take n) h2, List.take_append_drop]
    · rw [wrapL_end h]

theorem dec_letter (h w n : Nat) (r : List UInt8) (hn : n < 64) : decFrom h w (letter n :: r) = if h + 6 < 8 then decFrom (h + 6) (w * 64 + n) r else UInt8.ofNat ((w * 64 + n) / 2 ^ (h - 2)) :: decFrom (h - 2) ((w * 64 + n) % 2 ^ (h - 2)) r := by
  have := (letter_facts n hn).1
  rw [decFrom, this, if_neg (by omega)]

theorem back_all (l : List UInt8) : decFrom 0 0 (lettersOf (encFrom 0 0 l)) = l ∧ (∀ a : UInt8, decFrom 6 (a.toNat / 4) (lettersOf (encFrom 2 (a.toNat % 4) l)) = a :: l) ∧ (∀ b : UInt8, decFrom 4 (b.toNat / 16) (lettersOf (encFrom 4 (b.toNat % 16) l)) = b :: l) := by
  induction l with
  | nil =>
    refine ⟨rfl, fun a => ?_, fun b => ?_⟩
    · have ha := byte_lt a
      rw [show encFrom 2 (a.toNat % 4) [] = [letter (a.toNat % 4 * 16), 61, 61] from rfl, lettersOf_letter _ (by omega), dec_letter _ _ _ _ (by omega), if_neg (by omega)]
      have e : (a.toNat / 4 * 64 + a.toNat % 4 * 16) / 2 ^ (6 - 2) = a.toNat := by omega
      rw [e, UInt8.ofNat_toNat]; rfl
    · have hb := byte_lt b
      rw [show encFrom 4 (b.toNat % 16) [] = [letter (b.toNat % 16 * 4), 61] from rfl, lettersOf_letter _ (by omega), dec_letter _ _ _ _ (by omega), if_neg (by omega)]
      have e : (b.toNat / 16 * 64 + b.toNat % 16 * 4) / 2 ^ (4 - 2) = b.toNat := by omega
      rw [e, UInt8.ofNat_toNat]; rfl
  | cons c r ih =>
    have hc := byte_lt c
    obtain ⟨i0, i2, i4⟩ := ih
    refine ⟨?_, fun a => ?_, fun b => ?_⟩
    · rw [show encFrom 0 0 (c :: r) = letter (c.toNat / 4) :: encFrom 2 (c.toNat % 4) r from rfl, lettersOf_letter _ (by omega), dec_letter _ _ _ _ (by omega), if_pos (by omega)]
      rw [show 0 + 6 = 6 from rfl, show 0 * 64 + c.toNat / 4 = c.toNat / 4 by omega]
      exact i2 c
    · have ha := byte_lt a
      rw [show encFrom 2 (a.toNat % 4) (c :: r) = letter (a.toNat % 4 * 16 + c.toNat / 16) :: encFrom 4 (c.toNat % 16) r from rfl, lettersOf_letter _ (by omega), dec_letter _ _ _ _ (by omega), if_neg (by omega)]
      have e : (a.toNat / 4 * 64 + (a.toNat % 4 * 16 + c.toNat / 16)) / 2 ^ (6 - 2) = a.toNat := by omega
      have e2 : (a.toNat / 4 * 64 + (a.toNat % 4 * 16 + c.toNat / 16)) % 2 ^ (6 - 2) = c.toNat / 16 := by omega
      rw [e, e2, UInt8.ofNat_toNat, show 6 - 2 = 4 from rfl, i4 c]
    · have hb := byte_lt b
      rw [show encFrom 4 (b.toNat % 16) (c :: r) = letter (b.toNat % 16 * 4 + c.toNat / 64) :: letter (c.toNat % 64) :: encFrom 0 0 r from rfl, lettersOf_letter _ (by omega), lettersOf_letter _ (by omega), dec_letter _ _ _ _ (by omega), if_neg (by omega), dec_letter _ _ _ _ (by omega), if_neg (by omega)]
      have e : (b.toNat / 16 * 64 + (b.toNat % 16 * 4 + c.toNat / 64)) / 2 ^ (4 - 2) = b.toNat := by omega
      have e2 : (b.toNat / 16 * 64 + (b.toNat % 16 * 4 + c.toNat / 64)) % 2 ^ (4 - 2) = c.toNat / 64 := by omega
      rw [e, e2]
      have e3 : (c.toNat / 64 * 64 + c.toNat % 64) / 2 ^ (4 - 2 - 2) = c.toNat := by simp; omega
      have e4 : (c.toNat / 64 * 64 + c.toNat % 64) % 2 ^ (4 - 2 - 2) = 0 := by simp; omega
      rw [e3, e4, UInt8.ofNat_toNat, UInt8.ofNat_toNat, show 4 - 2 - 2 = 0 from rfl, i0]
theorem back_letters (l : List UInt8) : decFrom 0 0 (lettersOf (encB l)) = l := (back_all l).1
theorem decB_encB (l : List UInt8) : decB (encB l) = l := by rw [decB_letters, back_letters]
theorem decB_wrap (n : Nat) (hn : 0 < n) (l : List UInt8) : decB (wrapL n (encB l)) = l := by rw [decB_letters, lettersOf_wrap n hn, back_letters]
theorem decB_around (l b : List UInt8) : decB ([32, 10] ++ encB l ++ [61] ++ b) = l := by
  rw [decB_letters, show [32, 10] ++ encB l ++ [61] ++ b = 32 :: 10 :: (encB l ++ 61 :: b) by simp, lettersOf_junk _ (by decide) (by decide), lettersOf_junk _ (by decide) (by decide), lettersOf_end, back_letters]
theorem decB_junk (l : List UInt8) (k : Nat) (c : UInt8) (h : c ≠ 61) (hv : ¬ val c < 64) : decB ((encB l).take k ++ [c] ++ (encB l).drop k) = l := by
  have e : lettersOf ((encB l).take k ++ ([c] ++ (encB l).drop k)) = lettersOf ((encB l).take k ++ (encB l).drop k) := lettersOf_congr _ (lettersOf_junk _ h hv)
  rw [decB_letters, List.append_assoc, e, List.take_append_drop, back_letters]

/-! ### lengths -/
theorem wrapL_length (n : Nat) (hn : 0 < n) (l : List UInt8) : (wrapL n l).length ≤ 3 * l.length := by
  suffices H : ∀ m, ∀ l : List UInt8, l.length ≤ m → (wrapL n l).length ≤ 3 * l.length from H _ l (Nat.le_refl _)
  intro m
  induction m with
  | zero =>
    intro l hl
    rw [wrapL_end (by omega)]; omega
  | succ m ih =>
    intro l hl
    by_cases h : n < l.length
    · rw [wrapL_go hn h]
      have h1 := ih (l.drop n) (by rw [List.length_drop]; omega)
      rw [List.length_drop] at h1
      simp only [List.length_append, List.length_take, List.length_cons, List.length_nil]
      omega
    · rw [wrapL_end h]; omega
theorem wrapL_small (n : Nat) (hn : 0 < n) (l : List UInt8) (h : l.length ≤ 20000) : (wrapL n l).length ≤ 1048576 := by
  have := wrapL_length n hn l; omega
theorem enc_len (l : List UInt8) : (∀ w, (encFrom 0 w l).length = (l.length + 2) / 3 * 4) ∧ (∀ w, (encFrom 2 w l).length + 1 = (l.length + 3) / 3 * 4) ∧ (∀ w, (encFrom 4 w l).length + 2 = (l.length + 4) / 3 * 4) := by
  induction l with
  | nil => exact ⟨fun _ => rfl, fun _ => rfl, fun _ => rfl⟩
  | cons c r ih =>
    obtain ⟨i0, i2, i4⟩ := ih
    refine ⟨fun w => ?_, fun w => ?_, fun w => ?_⟩
    · have := i2 (c.toNat % 4)
      show (encFrom 2 (c.toNat % 4) r).length + 1 = (r.length + 1 + 2) / 3 * 4
      exact this
    · have := i4 (c.toNat % 16)
      show (encFrom 4 (c.toNat % 16) r).length + 1 + 1 = (r.length + 1 + 3) / 3 * 4
      exact this
    · have := i0 0
      show (encFrom 0 0 r).length + 1 + 1 + 2 = (r.length + 1 + 4) / 3 * 4
      omega
theorem encB_len (l : List UInt8) : (encB l).length = (l.length + 2) / 3 * 4 := (enc_len l).1 0
theorem dec_len (l : List UInt8) : ∀ h w, h < 8 → 8 * (decFrom h w l).length ≤ h + 6 * l.length := by
  induction l with
  | nil => intro h w _; simp [decFrom]
  | cons c r ih =>
    intro h w hh
    rw [decFrom, List.length_cons]
    split
    · have := ih h w hh; omega
    · split
      · have := ih (h + 6) (w * 64 + val c) (by omega); omega
      · have := ih (h - 2) ((w * 64 + val c) % 2 ^ (h - 2)) (by omega)
        rw [List.length_cons]; omega
theorem decB_len (l : List UInt8) : (decB l).length ≤ l.length * 3 / 4 := by
  have h1 := dec_len (ahead l) 0 0 (by omega)
  have h2 : (ahead l).length ≤ l.length := (List.takeWhile_sublist _).length_le
  unfold decB
  omega
theorem encB_append (s t : List UInt8) (h : s.length % 3 = 0) : encB (s ++ t) = encB s ++ encB t := by
  suffices H : ∀ m, ∀ s : List UInt8, s.length ≤ m → s.length % 3 = 0 → encFrom 0 0 (s ++ t) = encFrom 0 0 s ++ encFrom 0 0 t from H _ s (Nat.le_refl _) h
  intro m
  induction m with
  | zero =>
    intro s hs _
    have : s = [] := List.eq_nil_of_length_eq_zero (by omega)
    subst this
    rfl
  | succ m ih =>
    intro s hs h3
    match s, hs, h3 with
    | [], _, _ => rfl
    | [a], _, h3 => simp at h3
    | [a, b], _, h3 => simp at h3
    | a :: b :: c :: r, hs, h3 =>
      have hr := ih r (by simp at hs; omega) (by simp at h3; omega)
      show letter (a.toNat / 4) :: letter (a.toNat % 4 * 16 + b.toNat / 16) :: letter (b.toNat % 16 * 4 + c.toNat / 64) :: letter (c.toNat % 64) :: encFrom 0 0 (r ++ t) = letter (a.toNat / 4) :: letter (a.toNat % 4 * 16 + b.toNat / 16) :: letter (b.toNat % 16 * 4 + c.toNat / 64) :: letter (c.toNat % 64) :: (encFrom 0 0 r ++ encFrom 0 0 t)
      rw [hr]
end Go.Proofs.YtiojfknphpnlhaaDoor
