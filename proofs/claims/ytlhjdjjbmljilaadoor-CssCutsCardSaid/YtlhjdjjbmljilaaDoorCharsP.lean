/- What package chars computes, as functions on lists of bytes, and facts on them. No statement is proved here. -/
import Derived.Test.YtlhjdjjbmljilaaDoorLow
import Derived.Lib.RuneBytes
import Derived.Lib.SlTrimSet
import Derived.Laws.RangeAny
namespace Go.Proofs.YtlhjdjjbmljilaaDoor
set_option linter.unusedVariables false
set_option linter.unusedSimpArgs false

/-- a number's sign, as UTF-8 -/
def runeL (r : Int) : List UInt8 := Lib.encodeRune r
def bad : List UInt8 := [239, 191, 189]
theorem runeL_cases (r : Int) : ∃ n : Nat, ((n < 128 ∧ runeL r = [UInt8.ofNat n]) ∨ (128 ≤ n ∧ n ≤ 2047 ∧ runeL r = [UInt8.ofNat (192 + n / 64), UInt8.ofNat (128 + n % 64)]) ∨
    (2048 ≤ n ∧ n ≤ 65535 ∧ ¬ (55296 ≤ n ∧ n ≤ 57343) ∧ runeL r = [UInt8.ofNat (224 + n / 4096), UInt8.ofNat (128 + n / 64 % 64), UInt8.ofNat (128 + n % 64)]) ∨
    (65536 ≤ n ∧ n ≤ 1114111 ∧ runeL r = [UInt8.ofNat (240 + n / 262144), UInt8.ofNat (128 + n / 4096 % 64), UInt8.ofNat (128 + n / 64 % 64), UInt8.ofNat (128 + n % 64)])) ∧ (r = n ∨ (n = 65533 ∧ (r < 0 ∨ (55296 ≤ r ∧ r ≤ 57343) ∨ 1114111 < r))) := by
  by_cases h : r < 0 ∨ (55296 ≤ r ∧ r ≤ 57343) ∨ 1114111 < r
  · refine ⟨65533, .inr (.inr (.inl ⟨by omega, by omega, by omega, ?_⟩)), .inr ⟨rfl, h⟩⟩
    unfold runeL Lib.encodeRune
    rw [Lib.encodeRuneZ_bad h]; rfl
  · obtain ⟨n, rfl⟩ : ∃ n : Nat, r = n := ⟨r.toNat, by omega⟩
    refine ⟨n, ?_, .inl rfl⟩
    have hn : ∀ m : Nat, (m : Int).toNat.toUInt8 = UInt8.ofNat m := fun m => by rw [Int.toNat_natCast]
    unfold runeL Lib.encodeRune
    by_cases h1 : n < 128
    · rw [Lib.encodeRuneZ_one (by omega) (by omega)]
      exact .inl ⟨h1, by simp only [List.map_cons, List.map_nil, hn]⟩
    · by_cases h2 : n ≤ 2047
      · rw [Lib.encodeRuneZ_two (by omega) (by omega)]
        refine .inr (.inl ⟨by omega, h2, ?_⟩)
        simp only [List.map_cons, List.map_nil]
        rw [show (192 + (n : Int) / 64) = ((192 + n / 64 : Nat) : Int) from by omega, show (128 + (n : Int) % 64) = ((128 + n % 64 : Nat) : Int) from by omega, hn, hn]
      · by_cases h3 : n ≤ 65535
        · rw [Lib.encodeRuneZ_three (by omega)]
          refine .inr (.inr (.inl ⟨by omega, h3, by omega, ?_⟩))
          simp only [List.map_cons, List.map_nil]
          rw [show (224 + (n : Int) / 4096) = ((224 + n / 4096 : Nat) : Int) from by omega, show (128 + (n : Int) / 64 % 64) = ((128 + n / 64 % 64 : Nat) : Int) from by omega, show (128 + (n : Int) % 64) = ((128 + n % 64 : Nat) : Int) from by omega, hn, hn, hn]
        · rw [Lib.encodeRuneZ_four (by omega) (by omega)]
          refine .inr (.inr (.inr ⟨by omega, by omega, ?_⟩))
          simp only [List.map_cons, List.map_nil]
          rw [show (240 + (n : Int) / 262144) = ((240 + n / 262144 : Nat) : Int) from by omega, show (128 + (n : Int) / 4096 % 64) = ((128 + n / 4096 % 64 : Nat) : Int) from by omega, show (128 + (n : Int) / 64 % 64) = ((128 + n / 64 % 64 : Nat) : Int) from by omega, show (128 + (n : Int) % 64) = ((128 + n % 64 : Nat) : Int) from by omega, hn, hn, hn, hn]
theorem runeL_bad {r : Int} (h : r < 0 ∨ (55296 ≤ r ∧ r ≤ 57343) ∨ 1114111 < r) : runeL r = bad := by
  unfold runeL Lib.encodeRune; rw [Lib.encodeRuneZ_bad h]; rfl
theorem runeL_bad' : runeL 65533 = bad := by decide +kernel
theorem runeL_length (r : Int) : 1 ≤ (runeL r).length ∧ (runeL r).length ≤ 4 ∧ (r ≤ 65535 → (runeL r).length ≤ 3) := by
  obtain ⟨n, h, hr⟩ := runeL_cases r
  rcases h with ⟨_, e⟩ | ⟨_, _, e⟩ | ⟨_, _, _, e⟩ | ⟨h1, _, e⟩
  all_goals rw [e]; simp
  omega

def contB (c : UInt8) : Bool := decide (128 ≤ c.toNat) && decide (c.toNat ≤ 191)
def wh2 (a : Nat) : List UInt8 → Nat
  | b :: _ => if contB b = true ∧ 128 ≤ 64 * (a - 192) + (b.toNat - 128) then 2 else 0
  | _ => 0
def wh3 (a : Nat) : List UInt8 → Nat
  | b :: c :: _ => if contB b = true ∧ contB c = true ∧ 2048 ≤ 64 * (64 * (a - 224) + (b.toNat - 128)) + (c.toNat - 128) ∧ ¬ (55296 ≤ 64 * (64 * (a - 224) + (b.toNat - 128)) + (c.toNat - 128) ∧ 64 * (64 * (a - 224) + (b.toNat - 128)) + (c.toNat - 128) ≤ 57343) then 3 else 0
  | _ => 0
def wh4 (a : Nat) : List UInt8 → Nat
  | b :: c :: d :: _ => if contB b = true ∧ contB c = true ∧ contB d = true ∧ 65536 ≤ 64 * (64 * (64 * (a - 240) + (b.toNat - 128)) + (c.toNat - 128)) + (d.toNat - 128) ∧ 64 * (64 * (64 * (a - 240) + (b.toNat - 128)) + (c.toNat - 128)) + (d.toNat - 128) ≤ 1114111 then 4 else 0
  | _ => 0
/-- how many bytes the whole sequence has that is ahead; 0: none is -/
def wholeN : List UInt8 → Nat
  | [] => 0
  | a :: r => if a.toNat < 128 then 1 else if a.toNat < 192 then 0 else if a.toNat < 224 then wh2 a.toNat r else if a.toNat < 240 then wh3 a.toNat r else if a.toNat < 248 then wh4 a.toNat r else 0

theorem w1 {a : UInt8} {r : List UInt8} (h : a.toNat < 128) : wholeN (a :: r) = 1 := by rw [wholeN, if_pos h]
theorem w0 {a : UInt8} {r : List UInt8} (h : 128 ≤ a.toNat) (h' : a.toNat < 192 ∨ 248 ≤ a.toNat) : wholeN (a :: r) = 0 := by
  rw [wholeN, if_neg (by omega)]
  by_cases h2 : a.toNat < 192
  · rw [if_pos h2]
  · rw [if_neg h2, if_neg (by omega), if_neg (by omega), if_neg (by omega)]
theorem wN2 {a : UInt8} {r : List UInt8} (h : 192 ≤ a.toNat) (h' : a.toNat < 224) : wholeN (a :: r) = wh2 a.toNat r := by
  rw [wholeN, if_neg (by omega), if_neg (by omega), if_pos h']
theorem wN3 {a : UInt8} {r : List UInt8} (h : 224 ≤ a.toNat) (h' : a.toNat < 240) : wholeN (a :: r) = wh3 a.toNat r := by
  rw [wholeN, if_neg (by omega), if_neg (by omega), if_neg (by omega), if_pos h']
theorem wN4 {a : UInt8} {r : List UInt8} (h : 240 ≤ a.toNat) (h' : a.toNat < 248) : wholeN (a :: r) = wh4 a.toNat r := by
  rw [wholeN, if_neg (by omega), if_neg (by omega), if_neg (by omega), if_neg (by omega), if_pos h']
theorem w2 {a b : UInt8} {r : List UInt8} (h : 192 ≤ a.toNat) (h' : a.toNat < 224) : wholeN (a :: b :: r) = if contB b = true ∧ 128 ≤ 64 * (a.toNat - 192) + (b.toNat - 128) then 2 else 0 := wN2 h h'
theorem w2' {a : UInt8} (h : 192 ≤ a.toNat) (h' : a.toNat < 224) : wholeN [a] = 0 := wN2 h h'
theorem w3 {a b c : UInt8} {r : List UInt8} (h : 224 ≤ a.toNat) (h' : a.toNat < 240) : wholeN (a :: b :: c :: r) = if contB b = true ∧ contB c = true ∧ 2048 ≤ 64 * (64 * (a.toNat - 224) + (b.toNat - 128)) + (c.toNat - 128) ∧ ¬ (55296 ≤ 64 * (64 * (a.toNat - 224) + (b.toNat - 128)) + (c.toNat - 128) ∧ 64 * (64 * (a.toNat - 224) + (b.toNat - 128)) + (c.toNat - 128) ≤ 57343) then 3 else 0 := wN3 h h'
theorem w3' {a : UInt8} {r : List UInt8} (h : 224 ≤ a.toNat) (h' : a.toNat < 240) (hr : r.length < 2) : wholeN (a :: r) = 0 := by
  match r, hr with
  | [], _ => exact wN3 h h'
  | [_], _ => exact wN3 h h'
theorem w4 {a b c d : UInt8} {r : List UInt8} (h : 240 ≤ a.toNat) (h' : a.toNat < 248) : wholeN (a :: b :: c :: d :: r) = if contB b = true ∧ contB c = true ∧ contB d = true ∧ 65536 ≤ 64 * (64 * (64 * (a.toNat - 240) + (b.toNat - 128)) + (c.toNat - 128)) + (d.toNat - 128) ∧ 64 * (64 * (64 * (a.toNat - 240) + (b.toNat - 128)) + (c.toNat - 128)) + (d.toNat - 128) ≤ 1114111 then 4 else 0 := wN4 h h'
theorem w4' {a : UInt8} {r : List UInt8} (h : 240 ≤ a.toNat) (h' : a.toNat < 248) (hr : r.length < 3) : wholeN (a :: r) = 0 := by
  match r, hr with
  | [], _ => exact wN4 h h'
  | [_], _ => exact wN4 h h'
  | [_, _], _ => exact wN4 h h'
theorem contB_iff (c : UInt8) : contB c = true ↔ 128 ≤ c.toNat ∧ c.toNat ≤ 191 := by simp [contB]

/-- the ways in which a sequence may be whole -/
theorem whole_cases (l : List UInt8) : wholeN l = 0 ∨ (∃ a r, l = a :: r ∧ a.toNat < 128 ∧ wholeN l = 1) ∨
    (∃ a b r, l = a :: b :: r ∧ 192 ≤ a.toNat ∧ a.toNat < 224 ∧ contB b = true ∧ 128 ≤ 64 * (a.toNat - 192) + (b.toNat - 128) ∧ wholeN l = 2) ∨
    (∃ a b c r, l = a :: b :: c :: r ∧ 224 ≤ a.toNat ∧ a.toNat < 240 ∧ contB b = true ∧ contB c = true ∧ 2048 ≤ 64 * (64 * (a.toNat - 224) + (b.toNat - 128)) + (c.toNat - 128) ∧ ¬ (55296 ≤ 64 * (64 * (a.toNat - 224) + (b.toNat - 128)) + (c.toNat - 128) ∧ 64 * (64 * (a.toNat - 224) + (b.toNat - 128)) + (c.toNat - 128) ≤ 57343) ∧ wholeN l = 3) ∨
    (∃ a b c d r, l = a :: b :: c :: d :: r ∧ 240 ≤ a.toNat ∧ a.toNat < 248 ∧ contB b = true ∧ contB c = true ∧ contB d = true ∧ 65536 ≤ 64 * (64 * (64 * (a.toNat - 240) + (b.toNat - 128)) + (c.toNat - 128)) + (d.toNat - 128) ∧ 64 * (64 * (64 * (a.toNat - 240) + (b.toNat - 128)) + (c.toNat - 128)) + (d.toNat - 128) ≤ 1114111 ∧ wholeN l = 4) := by
  match l with
  | [] => exact .inl rfl
  | a :: r =>
    by_cases h1 : a.toNat < 128
    · exact .inr (.inl ⟨a, r, rfl, h1, w1 h1⟩)
    by_cases h2 : a.toNat < 192
    · exact .inl (w0 (by omega) (.inl h2))
    by_cases h3 : a.toNat < 224
    · match r with
      | [] => exact .inl (w2' (by omega) h3)
      | b :: r =>
        have e := w2 (b := b) (r := r) (by omega) h3
        by_cases hc : contB b = true ∧ 128 ≤ 64 * (a.toNat - 192) + (b.toNat - 128)
        · rw [if_pos hc] at e
          exact .inr (.inr (.inl ⟨a, b, r, rfl, by omega, h3, hc.1, hc.2, e⟩))
        · rw [if_neg hc] at e; exact .inl e
    by_cases h4 : a.toNat < 240
    · match r with
      | [] => exact .inl (w3' (by omega) h4 (by simp))
      | [_] => exact .inl (w3' (by omega) h4 (by simp))
      | b :: c :: r =>
        have e := w3 (b := b) (c := c) (r := r) (by omega) h4
        split at e
        · rename_i hc
          exact .inr (.inr (.inr (.inl ⟨a, b, c, r, rfl, by omega, h4, hc.1, hc.2.1, hc.2.2.1, hc.2.2.2, e⟩)))
        · exact .inl e
    by_cases h5 : a.toNat < 248
    · match r with
      | [] => exact .inl (w4' (by omega) h5 (by simp))
      | [_] => exact .inl (w4' (by omega) h5 (by simp))
      | [_, _] => exact .inl (w4' (by omega) h5 (by simp))
      | b :: c :: d :: r =>
        have e := w4 (b := b) (c := c) (d := d) (r := r) (by omega) h5
        split at e
        · rename_i hc
          exact .inr (.inr (.inr (.inr ⟨a, b, c, d, r, rfl, by omega, h5, hc.1, hc.2.1, hc.2.2.1, hc.2.2.2.1, hc.2.2.2.2, e⟩)))
        · exact .inl e
    · exact .inl (w0 (by omega) (.inr (by omega)))
theorem wholeN_le (l : List UInt8) : wholeN l ≤ l.length ∧ wholeN l ≤ 4 := by
  rcases whole_cases l with e | ⟨a, r, rfl, _, e⟩ | ⟨a, b, r, rfl, _, _, _, _, e⟩ | ⟨a, b, c, r, rfl, _, _, _, _, _, _, e⟩ | ⟨a, b, c, d, r, rfl, _, _, _, _, _, _, _, e⟩
  all_goals rw [e]; simp
/-- whether a sequence is whole hangs on its own bytes -/
theorem whole_local (l t : List UInt8) (h : 0 < wholeN l) : wholeN (l.take (wholeN l) ++ t) = wholeN l := by
  rcases whole_cases l with e | ⟨a, r, rfl, h1, e⟩ | ⟨a, b, r, rfl, h1, h2, h3, h4, e⟩ | ⟨a, b, c, r, rfl, h1, h2, h3, h4, h5, h6, e⟩ | ⟨a, b, c, d, r, rfl, h1, h2, h3, h4, h5, h6, h7, e⟩
  · omega
  · rw [e]; exact w1 h1
  · rw [e]
    show wholeN (a :: b :: t) = 2
    rw [w2 h1 h2, if_pos ⟨h3, h4⟩]
  · rw [e]
    show wholeN (a :: b :: c :: t) = 3
    rw [w3 h1 h2, if_pos ⟨h3, h4, h5, h6⟩]
  · rw [e]
    show wholeN (a :: b :: c :: d :: t) = 4
    rw [w4 h1 h2, if_pos ⟨h3, h4, h5, h6, h7⟩]
theorem u8n {n : Nat} (h : n < 256) : (UInt8.ofNat n).toNat = n := by rw [UInt8.toNat_ofNat', Nat.mod_eq_of_lt h]
theorem u8b {n : Nat} {c : UInt8} (h : n = c.toNat) : UInt8.ofNat n = c := by subst h; exact UInt8.ofNat_toNat
/-- a sign is whole -/
theorem whole_rune (r : Int) (t : List UInt8) : wholeN (runeL r ++ t) = (runeL r).length := by
  obtain ⟨n, h, _⟩ := runeL_cases r
  rcases h with ⟨h1, e⟩ | ⟨h1, h2, e⟩ | ⟨h1, h2, h3, e⟩ | ⟨h1, h2, e⟩
  · rw [e]
    exact w1 (by rw [u8n (by omega)]; exact h1)
  · rw [e]
    show wholeN (_ :: _ :: t) = 2
    have e1 := u8n (n := 192 + n / 64) (by omega)
    have e2 := u8n (n := 128 + n % 64) (by omega)
    rw [w2 (by rw [e1]; omega) (by rw [e1]; omega), if_pos ⟨(contB_iff _).2 (by rw [e2]; omega), by rw [e1, e2]; omega⟩]
  · rw [e]
    show wholeN (_ :: _ :: _ :: t) = 3
    have e1 := u8n (n := 224 + n / 4096) (by omega)
    have e2 := u8n (n := 128 + n / 64 % 64) (by omega)
    have e3 := u8n (n := 128 + n % 64) (by omega)
    rw [w3 (by rw [e1]; omega) (by rw [e1]; omega), if_pos ⟨(contB_iff _).2 (by rw [e2]; omega), (contB_iff _).2 (by rw [e3]; omega), by rw [e1, e2, e3]; omega, by rw [e1, e2, e3]; omega⟩]
  · rw [e]
    show wholeN (_ :: _ :: _ :: _ :: t) = 4
    have e1 := u8n (n := 240 + n / 262144) (by omega)
    have e2 := u8n (n := 128 + n / 4096 % 64) (by omega)
    have e3 := u8n (n := 128 + n / 64 % 64) (by omega)
    have e4 := u8n (n := 128 + n % 64) (by omega)
    rw [w4 (by rw [e1]; omega) (by rw [e1]; omega), if_pos ⟨(contB_iff _).2 (by rw [e2]; omega), (contB_iff _).2 (by rw [e3]; omega), (contB_iff _).2 (by rw [e4]; omega), by rw [e1, e2, e3, e4]; omega, by rw [e1, e2, e3, e4]; omega⟩]

/-! ### Go's own reading of a text, rune by rune -/
def dec4 (b0 : Nat) (c1 : Bool) (x1 : Nat) (c2 : Bool) (x2 : Nat) (c3 : Bool) (x3 : Nat) : Nat × Nat :=
  if b0 < 0x80 then (b0, 1)
  else if b0 / 32 == 6 && c1 then
    if (b0 % 32) * 64 + x1 % 64 ≥ 0x80 then ((b0 % 32) * 64 + x1 % 64, 2) else (Utf8.runeError, 1)
  else if b0 / 16 == 14 && c1 && c2 then
    if (b0 % 16) * 4096 + (x1 % 64) * 64 + x2 % 64 ≥ 0x800 && Utf8.valid ((b0 % 16) * 4096 + (x1 % 64) * 64 + x2 % 64 : Nat) then ((b0 % 16) * 4096 + (x1 % 64) * 64 + x2 % 64, 3) else (Utf8.runeError, 1)
  else if b0 / 8 == 30 && c1 && c2 && c3 then
    if (b0 % 8) * 262144 + (x1 % 64) * 4096 + (x2 % 64) * 64 + x3 % 64 ≥ 0x10000 && Utf8.valid ((b0 % 8) * 262144 + (x1 % 64) * 4096 + (x2 % 64) * 64 + x3 % 64 : Nat) then ((b0 % 8) * 262144 + (x1 % 64) * 4096 + (x2 % 64) * 64 + x3 % 64, 4) else (Utf8.runeError, 1)
  else (Utf8.runeError, 1)
theorem decode_dec4 (s : ByteArray) (i : Nat) : Utf8.decode s i = dec4 (s.get! (i + 0)).toNat (i + 1 < s.size && (s.get! (i + 1)).toNat / 64 == 2) (s.get! (i + 1)).toNat (i + 2 < s.size && (s.get! (i + 2)).toNat / 64 == 2) (s.get! (i + 2)).toNat (i + 3 < s.size && (s.get! (i + 3)).toNat / 64 == 2) (s.get! (i + 3)).toNat := rfl
theorem valid_iff (n : Nat) : Utf8.valid (n : Int) = true ↔ n < 55296 ∨ (57344 ≤ n ∧ n ≤ 1114111) := by
  unfold Utf8.valid
  simp only [Bool.or_eq_true, Bool.and_eq_true, decide_eq_true_eq]
  omega

/-- what is ahead: whole, or a byte that belongs to nothing -/
def vStep (l : List UInt8) : List UInt8 × Nat := if wholeN l = 0 then (bad, 1) else (l.take (wholeN l), wholeN l)
theorem get_drop (s : ByteArray) (i k : Nat) (h : i + k < s.size) : s.get! (i + k) = (s.data.toList.drop i)[k]'(by rw [List.length_drop, toList_length]; omega) := by
  rw [List.getElem_drop]
  simp [ByteArray.get!, getElem!_pos, h]
theorem runeL_one {n : Nat} (h : n < 128) : runeL n = [UInt8.ofNat n] := by
  obtain ⟨m, hm, e⟩ := runeL_cases n
  have : m = n := by rcases e with e | ⟨_, e⟩ <;> omega
  subst this
  rcases hm with ⟨_, e⟩ | ⟨_, _, e⟩ | ⟨_, _, _, e⟩ | ⟨_, _, e⟩
  · exact e
  all_goals omega
theorem runeL_two {n : Nat} (h : 128 ≤ n) (h' : n ≤ 2047) : runeL n = [UInt8.ofNat (192 + n / 64), UInt8.ofNat (128 + n % 64)] := by
  obtain ⟨m, hm, e⟩ := runeL_cases n
  have : m = n := by rcases e with e | ⟨_, e⟩ <;> omega
  subst this
  rcases hm with ⟨_, e⟩ | ⟨_, _, e⟩ | ⟨_, _, _, e⟩ | ⟨_, _, e⟩
  · omega
  · exact e
  all_goals omega
theorem runeL_three {n : Nat} (h : 2048 ≤ n) (h' : n ≤ 65535) (h2 : ¬ (55296 ≤ n ∧ n ≤ 57343)) : runeL n = [UInt8.ofNat (224 + n / 4096), UInt8.ofNat (128 + n / 64 % 64), UInt8.ofNat (128 + n % 64)] := by
  obtain ⟨m, hm, e⟩ := runeL_cases n
  have : m = n := by rcases e with e | ⟨_, e⟩ <;> omega
  subst this
  rcases hm with ⟨_, e⟩ | ⟨_, _, e⟩ | ⟨_, _, _, e⟩ | ⟨_, _, e⟩
  · omega
  · omega
  · exact e
  · omega
theorem runeL_four {n : Nat} (h : 65536 ≤ n) (h' : n ≤ 1114111) : runeL n = [UInt8.ofNat (240 + n / 262144), UInt8.ofNat (128 + n / 4096 % 64), UInt8.ofNat (128 + n / 64 % 64), UInt8.ofNat (128 + n % 64)] := by
  obtain ⟨m, hm, e⟩ := runeL_cases n
  have : m = n := by rcases e with e | ⟨_, e⟩ <;> omega
  subst this
  rcases hm with ⟨_, e⟩ | ⟨_, _, e⟩ | ⟨_, _, _, e⟩ | ⟨_, _, e⟩
  · omega
  · omega
  · omega
  · exact e
theorem cont_div (c : UInt8) : (c.toNat / 64 == 2) = contB c := by
  unfold contB
  rw [Bool.eq_iff_iff]
  simp only [beq_iff_eq, Bool.and_eq_true, decide_eq_true_eq]
  omega
/-- dec4 on what is ahead -/
def decL : List UInt8 → Nat × Nat
  | [] => (65533, 1)
  | a :: r => dec4 a.toNat ((r[0]?).elim false contB) ((r[0]?).elim 0 (·.toNat)) ((r[1]?).elim false contB) ((r[1]?).elim 0 (·.toNat)) ((r[2]?).elim false contB) ((r[2]?).elim 0 (·.toNat))
theorem decode_decL (s : ByteArray) (i : Nat) (h : i < s.size) : Utf8.decode s i = decL (s.data.toList.drop i) := by
  have hl : (s.data.toList.drop i).length = s.size - i := by rw [List.length_drop, toList_length]
  have key : ∀ k, ((decide (i + (k + 1) < s.size) && (s.get! (i + (k + 1))).toNat / 64 == 2) = ((s.data.toList.drop (i + 1))[k]?).elim false contB) ∧ ((s.get! (i + (k + 1))).toNat = ((s.data.toList.drop (i + 1))[k]?).elim 0 (·.toNat)) := by
    intro k
    rw [List.getElem?_drop]
    by_cases hk : i + (k + 1) < s.size
    · have e : s.data.toList[i + 1 + k]? = some (s.get! (i + (k + 1))) := by
        rw [List.getElem?_eq_getElem (by rw [toList_length]; omega)]
        congr 1
        have e := get_at s (i + (k + 1)) hk
        rw [Nat.add_zero] at e
        rw [e]
        have e2 : i + 1 + k = i + (k + 1) := by omega
        simp only [e2, Array.getElem_toList]
        rfl
      rw [e]
      rw [decide_eq_true hk, Bool.true_and, cont_div]
      exact ⟨rfl, rfl⟩
    · have e : s.data.toList[i + 1 + k]? = none := List.getElem?_eq_none (by rw [toList_length]; omega)
      rw [e]
      rw [decide_eq_false hk, Bool.false_and]
      refine ⟨rfl, ?_⟩
      have : s.get! (i + (k + 1)) = default := by
        simp [ByteArray.get!]
        rw [getElem!_neg]
        exact hk
      rw [this]; rfl
  rw [decode_dec4, drop_cons s i h]
  have k0 := key 0
  have k1 := key 1
  have k2 := key 2
  have e0 : s.get! (i + 0) = s[i] := get_at s i h
  simp only [Nat.zero_add] at k0
  unfold decL
  simp only
  rw [e0, k0.1, k1.1, k2.1, k0.2, k1.2, k2.2]
theorem d1 {b0 : Nat} {c1 c2 c3 : Bool} {x1 x2 x3 : Nat} (h : b0 < 128) : dec4 b0 c1 x1 c2 x2 c3 x3 = (b0, 1) := if_pos h
theorem d0 {b0 : Nat} {c1 c2 c3 : Bool} {x1 x2 x3 : Nat} (h : 128 ≤ b0) (h' : b0 < 192 ∨ 248 ≤ b0) (h2 : b0 < 256) : dec4 b0 c1 x1 c2 x2 c3 x3 = (65533, 1) := by
  have e0 : ¬ b0 < 128 := by omega
  have e1 : b0 / 32 ≠ 6 := by omega
  have e2 : b0 / 16 ≠ 14 := by omega
  have e3 : b0 / 8 ≠ 30 := by omega
  simp [dec4, e0, e1, e2, e3, Utf8.runeError]
theorem d2 {b0 : Nat} {c1 c2 c3 : Bool} {x1 x2 x3 : Nat} (h : 192 ≤ b0) (h' : b0 < 224) : dec4 b0 c1 x1 c2 x2 c3 x3 = if c1 = true ∧ 128 ≤ (b0 % 32) * 64 + x1 % 64 then ((b0 % 32) * 64 + x1 % 64, 2) else (65533, 1) := by
  have e0 : ¬ b0 < 128 := by omega
  have e1 : b0 / 32 = 6 := by omega
  have e2 : b0 / 16 ≠ 14 := by omega
  have e3 : b0 / 8 ≠ 30 := by omega
  cases c1 <;> simp [dec4, e0, e1, e2, e3, Utf8.runeError]
theorem d3 {b0 : Nat} {c1 c2 c3 : Bool} {x1 x2 x3 : Nat} (h : 224 ≤ b0) (h' : b0 < 240) : dec4 b0 c1 x1 c2 x2 c3 x3 = if c1 = true ∧ c2 = true ∧ 2048 ≤ (b0 % 16) * 4096 + (x1 % 64) * 64 + x2 % 64 ∧ Utf8.valid ((b0 % 16) * 4096 + (x1 % 64) * 64 + x2 % 64 : Nat) = true then ((b0 % 16) * 4096 + (x1 % 64) * 64 + x2 % 64, 3) else (65533, 1) := by
  have e0 : ¬ b0 < 128 := by omega
  have e1 : b0 / 32 ≠ 6 := by omega
  have e2 : b0 / 16 = 14 := by omega
  have e3 : b0 / 8 ≠ 30 := by omega
  cases c1 <;> cases c2 <;> simp [dec4, e0, e1, e2, e3, Utf8.runeError]
theorem d4 {b0 : Nat} {c1 c2 c3 : Bool} {x1 x2 x3 : Nat} (h : 240 ≤ b0) (h' : b0 < 248) : dec4 b0 c1 x1 c2 x2 c3 x3 = if c1 = true ∧ c2 = true ∧ c3 = true ∧ 65536 ≤ (b0 % 8) * 262144 + (x1 % 64) * 4096 + (x2 % 64) * 64 + x3 % 64 ∧ Utf8.valid ((b0 % 8) * 262144 + (x1 % 64) * 4096 + (x2 % 64) * 64 + x3 % 64 : Nat) = true then ((b0 % 8) * 262144 + (x1 % 64) * 4096 + (x2 % 64) * 64 + x3 % 64, 4) else (65533, 1) := by
  have e0 : ¬ b0 < 128 := by omega
  have e1 : b0 / 32 ≠ 6 := by omega
  have e2 : b0 / 16 ≠ 14 := by omega
  have e3 : b0 / 8 = 30 := by omega
  cases c1 <;> cases c2 <;> cases c3 <;> simp [dec4, e0, e1, e2, e3, Utf8.runeError]

theorem vStep_zero {l : List UInt8} (h : wholeN l = 0) : vStep l = (bad, 1) := if_pos h
theorem vStep_pos {l : List UInt8} {n : Nat} (h : wholeN l = n) (hn : n ≠ 0) : vStep l = (l.take n, n) := by
  unfold vStep; rw [if_neg (by omega), h]
theorem decL_spec (l : List UInt8) (hl : l ≠ []) : runeL (decL l).1 = (vStep l).1 ∧ (decL l).2 = (vStep l).2 ∧ (decL l).1 ≤ 1114111 := by
  have hbad : ∀ {l : List UInt8}, decL l = (65533, 1) → wholeN l = 0 → runeL (decL l).1 = (vStep l).1 ∧ (decL l).2 = (vStep l).2 ∧ (decL l).1 ≤ 1114111 := by
    intro l h1 h2
    rw [h1, vStep_zero h2]
    exact ⟨runeL_bad', rfl, by decide⟩
  match l, hl with
  | a :: r, _ =>
    have ha := byte_lt a
    by_cases h1 : a.toNat < 128
    · have e : decL (a :: r) = (a.toNat, 1) := d1 h1
      rw [e, vStep_pos (w1 h1) (by decide)]
      refine ⟨?_, rfl, by show a.toNat ≤ _; omega⟩
      show runeL a.toNat = [a]
      rw [runeL_one h1, u8b rfl]
    by_cases h2 : a.toNat < 192
    · exact hbad (d0 (by omega) (.inl h2) ha) (w0 (by omega) (.inl h2))
    by_cases h3 : a.toNat < 224
    · match r with
      | [] => exact hbad (by unfold decL; simp only []; rw [d2 (by omega) h3]; exact if_neg (fun h => by cases h.1)) (w2' (by omega) h3)
      | b :: r =>
        have e : decL (a :: b :: r) = if contB b = true ∧ 128 ≤ (a.toNat % 32) * 64 + b.toNat % 64 then ((a.toNat % 32) * 64 + b.toNat % 64, 2) else (65533, 1) := d2 (by omega) h3
        have ew := w2 (b := b) (r := r) (by omega) h3
        have hb := contB_iff b
        by_cases hc : contB b = true ∧ 128 ≤ 64 * (a.toNat - 192) + (b.toNat - 128)
        · have hb' := hb.1 hc.1
          have hv : (a.toNat % 32) * 64 + b.toNat % 64 = 64 * (a.toNat - 192) + (b.toNat - 128) := by omega
          rw [if_pos hc] at ew
          rw [if_pos ⟨hc.1, by omega⟩] at e
          rw [e, vStep_pos ew (by decide), hv]
          refine ⟨?_, rfl, by show 64 * (a.toNat - 192) + (b.toNat - 128) ≤ _; omega⟩
          show runeL ((64 * (a.toNat - 192) + (b.toNat - 128) : Nat) : Int) = [a, b]
          rw [runeL_two hc.2 (by omega), u8b (c := a) (by omega), u8b (c := b) (by omega)]
        · rw [if_neg hc] at ew
          refine hbad (e.trans (if_neg (fun h => hc ⟨h.1, ?_⟩))) ew
          have hb' := hb.1 h.1
          omega
    by_cases h4 : a.toNat < 240
    · match r with
      | [] => exact hbad (by unfold decL; simp only []; rw [d3 (by omega) h4]; exact if_neg (fun h => by cases h.1)) (w3' (by omega) h4 (by simp))
      | [_] => exact hbad (by unfold decL; simp only []; rw [d3 (by omega) h4]; exact if_neg (fun h => by cases h.2.1)) (w3' (by omega) h4 (by simp))
      | b :: c :: r =>
        have e : decL (a :: b :: c :: r) = if contB b = true ∧ contB c = true ∧ 2048 ≤ (a.toNat % 16) * 4096 + (b.toNat % 64) * 64 + c.toNat % 64 ∧ Utf8.valid ((a.toNat % 16) * 4096 + (b.toNat % 64) * 64 + c.toNat % 64 : Nat) = true then ((a.toNat % 16) * 4096 + (b.toNat % 64) * 64 + c.toNat % 64, 3) else (65533, 1) := d3 (by omega) h4
        have ew := w3 (b := b) (c := c) (r := r) (by omega) h4
        have hb := contB_iff b
        have hcc := contB_iff c
        split at ew
        · rename_i hc
          have hb' := hb.1 hc.1
          have hc' := hcc.1 hc.2.1
          have hv : (a.toNat % 16) * 4096 + (b.toNat % 64) * 64 + c.toNat % 64 = 64 * (64 * (a.toNat - 224) + (b.toNat - 128)) + (c.toNat - 128) := by omega
          have h5 := hc.2.2
          rw [← hv] at h5
          rw [if_pos ⟨hc.1, hc.2.1, h5.1, (valid_iff _).2 (by omega)⟩] at e
          rw [e, vStep_pos ew (by decide)]
          refine ⟨?_, rfl, by show (a.toNat % 16) * 4096 + (b.toNat % 64) * 64 + c.toNat % 64 ≤ _; omega⟩
          show runeL (((a.toNat % 16) * 4096 + (b.toNat % 64) * 64 + c.toNat % 64 : Nat) : Int) = [a, b, c]
          rw [runeL_three h5.1 (by omega) h5.2, u8b (c := a) (by omega), u8b (c := b) (by omega), u8b (c := c) (by omega)]
        · rename_i hc
          refine hbad (e.trans (if_neg (fun h => hc ⟨h.1, h.2.1, ?_⟩))) ew
          have hb' := hb.1 h.1
          have hc' := hcc.1 h.2.1
          have hvv := (valid_iff _).1 h.2.2.2
          omega
    by_cases h5 : a.toNat < 248
    · match r with
      | [] => exact hbad (by unfold decL; simp only []; rw [d4 (by omega) h5]; exact if_neg (fun h => by cases h.1)) (w4' (by omega) h5 (by simp))
      | [_] => exact hbad (by unfold decL; simp only []; rw [d4 (by omega) h5]; exact if_neg (fun h => by cases h.2.1)) (w4' (by omega) h5 (by simp))
      | [_, _] => exact hbad (by unfold decL; simp only []; rw [d4 (by omega) h5]; exact if_neg (fun h => by cases h.2.2.1)) (w4' (by omega) h5 (by simp))
      | b :: c :: d :: r =>
        have e : decL (a :: b :: c :: d :: r) = if contB b = true ∧ contB c = true ∧ contB d = true ∧ 65536 ≤ (a.toNat % 8) * 262144 + (b.toNat % 64) * 4096 + (c.toNat % 64) * 64 + d.toNat % 64 ∧ Utf8.valid ((a.toNat % 8) * 262144 + (b.toNat % 64) * 4096 + (c.toNat % 64) * 64 + d.toNat % 64 : Nat) = true then ((a.toNat % 8) * 262144 + (b.toNat % 64) * 4096 + (c.toNat % 64) * 64 + d.toNat % 64, 4) else (65533, 1) := d4 (by omega) h5
        have ew := w4 (b := b) (c := c) (d := d) (r := r) (by omega) h5
        have hb := contB_iff b
        have hcc := contB_iff c
        have hdd := contB_iff d
        split at ew
        · rename_i hc
          have hb' := hb.1 hc.1
          have hc' := hcc.1 hc.2.1
          have hd' := hdd.1 hc.2.2.1
          have hv : (a.toNat % 8) * 262144 + (b.toNat % 64) * 4096 + (c.toNat % 64) * 64 + d.toNat % 64 = 64 * (64 * (64 * (a.toNat - 240) + (b.toNat - 128)) + (c.toNat - 128)) + (d.toNat - 128) := by omega
          have h5 := hc.2.2.2
          rw [← hv] at h5
          rw [if_pos ⟨hc.1, hc.2.1, hc.2.2.1, h5.1, (valid_iff _).2 (by omega)⟩] at e
          rw [e, vStep_pos ew (by decide)]
          refine ⟨?_, rfl, h5.2⟩
          show runeL (((a.toNat % 8) * 262144 + (b.toNat % 64) * 4096 + (c.toNat % 64) * 64 + d.toNat % 64 : Nat) : Int) = [a, b, c, d]
          rw [runeL_four h5.1 h5.2, u8b (c := a) (by omega), u8b (c := b) (by omega), u8b (c := c) (by omega), u8b (c := d) (by omega)]
        · rename_i hc
          refine hbad (e.trans (if_neg (fun h => hc ⟨h.1, h.2.1, h.2.2.1, ?_⟩))) ew
          have hb' := hb.1 h.1
          have hc' := hcc.1 h.2.1
          have hd' := hdd.1 h.2.2.1
          have hvv := (valid_iff _).1 h.2.2.2.2
          omega
    · exact hbad (d0 (by omega) (.inr (by omega)) ha) (w0 (by omega) (.inr (by omega)))
end Go.Proofs.YtlhjdjjbmljilaaDoor
