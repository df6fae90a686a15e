/- More of the first texts of this claim in one: each with its own head. No statement is proved here. -/
import Derived.Test.YtklbdobofclofaaGreatDoorBaseM
import Derived.Lib.TrimUEq
import Derived.Shelf.GgClosure.StringsTrimFunc
import Derived.Test.YtklbdobofclofaaGreatDoorShelf
import Derived.Lib.ParseIntB
import Derived.Lib.ItoaNum
import Derived.Laws.AppendOwnNone
import Derived.Lib.SlTrimSet
import Derived.Shelf.Strings.SlTrimAscii
/- Small facts: empty texts, a byte made small. No statement is proved here. Own work of the verifier. -/
namespace Go.Proofs.YtklbdobofclofaaGreatDoor
open Go.RowKit
set_option linter.unusedVariables false
theorem size0 {t : ByteArray} (h : t.size = 0) : t.data.toList = [] ∧ t.toList.isEmpty = true := by
  have e : t.data.toList = [] := List.eq_nil_of_length_eq_zero (by rw [toList_length]; exact h)
  exact ⟨e, by rw [bytes_list, e]; rfl⟩
theorem sizeP {t : ByteArray} (h : ¬ t.size = 0) : t.data.toList ≠ [] ∧ t.toList.isEmpty = false := by
  have hne : t.data.toList ≠ [] := fun e => by have := toList_length t; rw [e] at this; simp at this; omega
  refine ⟨hne, ?_⟩
  rw [bytes_list]
  cases h : t.data.toList with
  | nil => exact absurd h hne
  | cons _ _ => rfl
theorem or32 (c : UInt8) : bits .or .u8 (c.toNat : Int) 32 = ((c ||| 32).toNat : Int) := u8_all (p := fun c => bits .or .u8 (c.toNat : Int) 32 = ((c ||| 32).toNat : Int)) (by decide +kernel) c
end Go.Proofs.YtklbdobofclofaaGreatDoor

/- PURE: layer 18: which elements stay, are dropped, are opened; which attributes may be. No statement is proved here. Own work of the verifier. -/
namespace Go.Proofs.YtklbdobofclofaaGreatDoor
set_option linter.unusedVariables false
set_option linter.unusedSimpArgs false
def staysL : List (List UInt8) := [
  [97],
  [98],
  [98, 108, 111, 99, 107, 113, 117, 111, 116, 101],
  [98, 114],
  [99, 111, 100, 101],
  [100, 100],
  [100, 105, 118],
  [100, 108],
  [100, 116],
  [101, 109],
  [104, 49],
  [104, 50],
  [104, 51],
  [104, 52],
  [104, 53],
  [104, 54],
  [104, 114],
  [105],
  [105, 109, 103],
  [108, 105],
  [111, 108],
  [112],
  [112, 114, 101],
  [115],
  [115, 109, 97, 108, 108],
  [115, 112, 97, 110],
  [115, 116, 114, 111, 110, 103],
  [115, 117, 98],
  [115, 117, 112],
  [117],
  [117, 108]]
def dropsL : List (List UInt8) := [
  [97, 112, 112, 108, 101, 116],
  [97, 117, 100, 105, 111],
  [98, 97, 115, 101],
  [98, 117, 116, 116, 111, 110],
  [99, 97, 110, 118, 97, 115],
  [101, 109, 98, 101, 100],
  [102, 114, 97, 109, 101],
  [102, 114, 97, 109, 101, 115, 101, 116],
  [104, 101, 97, 100],
  [105, 110, 112, 117, 116],
  [108, 105, 110, 107],
  [109, 97, 116, 104],
  [109, 101, 116, 97],
  [111, 98, 106, 101, 99, 116],
  [111, 112, 116, 105, 111, 110],
  [115, 101, 108, 101, 99, 116],
  [115, 111, 117, 114, 99, 101],
  [115, 118, 103],
  [116, 101, 109, 112, 108, 97, 116, 101],
  [116, 114, 97, 99, 107],
  [118, 105, 100, 101, 111]]
def rawL : List (List UInt8) := [
  [115, 99, 114, 105, 112, 116],
  [115, 116, 121, 108, 101],
  [116, 105, 116, 108, 101],
  [116, 101, 120, 116, 97, 114, 101, 97],
  [120, 109, 112],
  [105, 102, 114, 97, 109, 101],
  [110, 111, 101, 109, 98, 101, 100],
  [110, 111, 102, 114, 97, 109, 101, 115],
  [112, 108, 97, 105, 110, 116, 101, 120, 116],
  [110, 111, 115, 99, 114, 105, 112, 116]]
theorem staysL_cases (n : List UInt8) (h : staysL.contains n = true) : n = [97] ∨ n = [98] ∨ n = [98, 108, 111, 99, 107, 113, 117, 111, 116, 101] ∨ n = [98, 114] ∨ n = [99, 111, 100, 101] ∨ n = [100, 100] ∨ n = [100, 105, 118] ∨ n = [100, 108] ∨ n = [100, 116] ∨ n = [101, 109] ∨ n = [104, 49] ∨ n = [104, 50] ∨ n = [104, 51] ∨ n = [104, 52] ∨ n = [104, 53] ∨ n = [104, 54] ∨ n = [104, 114] ∨ n = [105] ∨ n = [105, 109, 103] ∨ n = [108, 105] ∨ n = [111, 108] ∨ n = [112] ∨ n = [112, 114, 101] ∨ n = [115] ∨ n = [115, 109, 97, 108, 108] ∨ n = [115, 112, 97, 110] ∨ n = [115, 116, 114, 111, 110, 103] ∨ n = [115, 117, 98] ∨ n = [115, 117, 112] ∨ n = [117] ∨ n = [117, 108] := by
  simpa [staysL] using h
theorem staysL_none (n : List UInt8) (h : staysL.contains n = false) : n ≠ [97] ∧ n ≠ [98] ∧ n ≠ [98, 108, 111, 99, 107, 113, 117, 111, 116, 101] ∧ n ≠ [98, 114] ∧ n ≠ [99, 111, 100, 101] ∧ n ≠ [100, 100] ∧ n ≠ [100, 105, 118] ∧ n ≠ [100, 108] ∧ n ≠ [100, 116] ∧ n ≠ [101, 109] ∧ n ≠ [104, 49] ∧ n ≠ [104, 50] ∧ n ≠ [104, 51] ∧ n ≠ [104, 52] ∧ n ≠ [104, 53] ∧ n ≠ [104, 54] ∧ n ≠ [104, 114] ∧ n ≠ [105] ∧ n ≠ [105, 109, 103] ∧ n ≠ [108, 105] ∧ n ≠ [111, 108] ∧ n ≠ [112] ∧ n ≠ [112, 114, 101] ∧ n ≠ [115] ∧ n ≠ [115, 109, 97, 108, 108] ∧ n ≠ [115, 112, 97, 110] ∧ n ≠ [115, 116, 114, 111, 110, 103] ∧ n ≠ [115, 117, 98] ∧ n ≠ [115, 117, 112] ∧ n ≠ [117] ∧ n ≠ [117, 108] := by
  simpa [staysL] using h
theorem dropsL_cases (n : List UInt8) (h : dropsL.contains n = true) : n = [97, 112, 112, 108, 101, 116] ∨ n = [97, 117, 100, 105, 111] ∨ n = [98, 97, 115, 101] ∨ n = [98, 117, 116, 116, 111, 110] ∨ n = [99, 97, 110, 118, 97, 115] ∨ n = [101, 109, 98, 101, 100] ∨ n = [102, 114, 97, 109, 101] ∨ n = [102, 114, 97, 109, 101, 115, 101, 116] ∨ n = [104, 101, 97, 100] ∨ n = [105, 110, 112, 117, 116] ∨ n = [108, 105, 110, 107] ∨ n = [109, 97, 116, 104] ∨ n = [109, 101, 116, 97] ∨ n = [111, 98, 106, 101, 99, 116] ∨ n = [111, 112, 116, 105, 111, 110] ∨ n = [115, 101, 108, 101, 99, 116] ∨ n = [115, 111, 117, 114, 99, 101] ∨ n = [115, 118, 103] ∨ n = [116, 101, 109, 112, 108, 97, 116, 101] ∨ n = [116, 114, 97, 99, 107] ∨ n = [118, 105, 100, 101, 111] := by
  simpa [dropsL] using h
theorem dropsL_none (n : List UInt8) (h : dropsL.contains n = false) : n ≠ [97, 112, 112, 108, 101, 116] ∧ n ≠ [97, 117, 100, 105, 111] ∧ n ≠ [98, 97, 115, 101] ∧ n ≠ [98, 117, 116, 116, 111, 110] ∧ n ≠ [99, 97, 110, 118, 97, 115] ∧ n ≠ [101, 109, 98, 101, 100] ∧ n ≠ [102, 114, 97, 109, 101] ∧ n ≠ [102, 114, 97, 109, 101, 115, 101, 116] ∧ n ≠ [104, 101, 97, 100] ∧ n ≠ [105, 110, 112, 117, 116] ∧ n ≠ [108, 105, 110, 107] ∧ n ≠ [109, 97, 116, 104] ∧ n ≠ [109, 101, 116, 97] ∧ n ≠ [111, 98, 106, 101, 99, 116] ∧ n ≠ [111, 112, 116, 105, 111, 110] ∧ n ≠ [115, 101, 108, 101, 99, 116] ∧ n ≠ [115, 111, 117, 114, 99, 101] ∧ n ≠ [115, 118, 103] ∧ n ≠ [116, 101, 109, 112, 108, 97, 116, 101] ∧ n ≠ [116, 114, 97, 99, 107] ∧ n ≠ [118, 105, 100, 101, 111] := by
  simpa [dropsL] using h
theorem rawL_cases (n : List UInt8) (h : rawL.contains n = true) : n = [115, 99, 114, 105, 112, 116] ∨ n = [115, 116, 121, 108, 101] ∨ n = [116, 105, 116, 108, 101] ∨ n = [116, 101, 120, 116, 97, 114, 101, 97] ∨ n = [120, 109, 112] ∨ n = [105, 102, 114, 97, 109, 101] ∨ n = [110, 111, 101, 109, 98, 101, 100] ∨ n = [110, 111, 102, 114, 97, 109, 101, 115] ∨ n = [112, 108, 97, 105, 110, 116, 101, 120, 116] ∨ n = [110, 111, 115, 99, 114, 105, 112, 116] := by
  simpa [rawL] using h
theorem rawL_none (n : List UInt8) (h : rawL.contains n = false) : n ≠ [115, 99, 114, 105, 112, 116] ∧ n ≠ [115, 116, 121, 108, 101] ∧ n ≠ [116, 105, 116, 108, 101] ∧ n ≠ [116, 101, 120, 116, 97, 114, 101, 97] ∧ n ≠ [120, 109, 112] ∧ n ≠ [105, 102, 114, 97, 109, 101] ∧ n ≠ [110, 111, 101, 109, 98, 101, 100] ∧ n ≠ [110, 111, 102, 114, 97, 109, 101, 115] ∧ n ≠ [112, 108, 97, 105, 110, 116, 101, 120, 116] ∧ n ≠ [110, 111, 115, 99, 114, 105, 112, 116] := by
  simpa [rawL] using h
def elemN (n : List UInt8) : Nat := if staysL.contains n = true then 2 else if dropsL.contains n = true then 0 else if rawL.contains n = true then 0 else 1
theorem elemN_le (n : List UInt8) : elemN n ≤ 2 := by unfold elemN; cases staysL.contains n <;> cases dropsL.contains n <;> cases rawL.contains n <;> simp
def wordsL : List (List UInt8) := [
  [116, 105, 116, 108, 101],
  [100, 105, 114],
  [108, 97, 110, 103],
  [115, 116, 121, 108, 101]]
def imgL : List (List UInt8) := [
  [115, 114, 99],
  [97, 108, 116],
  [119, 105, 100, 116, 104],
  [104, 101, 105, 103, 104, 116]]
/-- may an attribute be at all? -/
def attrB (e n : List UInt8) : Bool :=
  if wordsL.contains n = true then ((elemN e : Nat) : Int) == 2
  else if n = [104, 114, 101, 102] then e == [97]
  else if imgL.contains n = true then e == [105, 109, 103]
  else if n = [115, 116, 97, 114, 116] then e == [111, 108]
  else if n = [118, 97, 108, 117, 101] then e == [108, 105]
  else false
def attrsL : List (List UInt8) := [
  [116, 105, 116, 108, 101],
  [100, 105, 114],
  [108, 97, 110, 103],
  [115, 116, 121, 108, 101],
  [104, 114, 101, 102],
  [115, 114, 99],
  [97, 108, 116],
  [119, 105, 100, 116, 104],
  [104, 101, 105, 103, 104, 116],
  [115, 116, 97, 114, 116],
  [118, 97, 108, 117, 101]]
theorem attrsL_cases (n : List UInt8) (h : attrsL.contains n = true) : n = [116, 105, 116, 108, 101] ∨ n = [100, 105, 114] ∨ n = [108, 97, 110, 103] ∨ n = [115, 116, 121, 108, 101] ∨ n = [104, 114, 101, 102] ∨ n = [115, 114, 99] ∨ n = [97, 108, 116] ∨ n = [119, 105, 100, 116, 104] ∨ n = [104, 101, 105, 103, 104, 116] ∨ n = [115, 116, 97, 114, 116] ∨ n = [118, 97, 108, 117, 101] := by
  simpa [attrsL] using h
theorem attrsL_none (n : List UInt8) (h : attrsL.contains n = false) : n ≠ [116, 105, 116, 108, 101] ∧ n ≠ [100, 105, 114] ∧ n ≠ [108, 97, 110, 103] ∧ n ≠ [115, 116, 121, 108, 101] ∧ n ≠ [104, 114, 101, 102] ∧ n ≠ [115, 114, 99] ∧ n ≠ [97, 108, 116] ∧ n ≠ [119, 105, 100, 116, 104] ∧ n ≠ [104, 101, 105, 103, 104, 116] ∧ n ≠ [115, 116, 97, 114, 116] ∧ n ≠ [118, 97, 108, 117, 101] := by
  simpa [attrsL] using h
theorem attrB_none (e n : List UInt8) (h : attrsL.contains n = false) : attrB e n = false := by
  have h2 := attrsL_none n h
  unfold attrB
  simp [wordsL, imgL, h2]
theorem attrB_off (e n : List UInt8) (h : elemN e ≠ 2) : attrB e n = false := by
  have h1 : ∀ x : List UInt8, elemN x = 2 → (e == x) = false := fun x hx => beq_eq_false_iff_ne.2 (fun e1 => h (by rw [e1]; exact hx))
  have h2 : (((elemN e : Nat) : Int) == 2) = false := beq_eq_false_iff_ne.2 (by omega)
  unfold attrB
  rw [h1 [97] (by decide +kernel), h1 [105, 109, 103] (by decide +kernel), h1 [111, 108] (by decide +kernel), h1 [108, 105] (by decide +kernel), h2]
  repeat' split
  all_goals rfl
end Go.Proofs.YtklbdobofclofaaGreatDoor

/- strings.TrimFunc at 'a sign up to a blank', on lists of bytes: what stays is the bytes between those up to 32. No statement is proved here. Own work of the verifier. -/
namespace Go.Proofs.YtklbdobofclofaaGreatDoor
open Go.Lib
set_option linter.unusedVariables false
set_option linter.unusedSimpArgs false

def lowR (r : Nat) : Bool := decide (r ≤ 32)
def wB (c : UInt8) : Bool := decide (c.toNat ≤ 32)
/-- without bytes up to 32 at the end -/
def trimR (l : List UInt8) : List UInt8 := (l.reverse.dropWhile wB).reverse
/-- without bytes up to 32 at both ends -/
def trimW (l : List UInt8) : List UInt8 := trimR (l.dropWhile wB)

theorem decodeN_hi (n b0 b1 b2 b3 : Nat) (h : 128 ≤ b0) : 32 < (decodeN n b0 b1 b2 b3).1 := by
  unfold decodeN
  repeat' split
  all_goals (simp only; omega)
theorem getD_byte (s : ByteArray) (k : Nat) (h : k < s.size) : s.data.toList.getD k 0 = s[k] := by
  have hl : k < s.data.toList.length := by rw [toList_length]; exact h
  rw [List.getD_eq_getElem?_getD, List.getElem?_eq_getElem hl]; rfl
theorem decode_low (s : ByteArray) (k : Nat) (h : k < s.size) (hc : (s[k]'h).toNat < 128) : Utf8.decode s k = ((s[k]'h).toNat, 1) := by
  rw [decode_N, getD_byte s k h, decodeN_ascii _ _ _ _ _ hc]
theorem decode_high (s : ByteArray) (k : Nat) (h : k < s.size) (hc : 128 ≤ (s[k]'h).toNat) : 32 < (Utf8.decode s k).1 := by
  rw [decode_N, getD_byte s k h]; exact decodeN_hi _ _ _ _ _ hc

theorem idx_w {s : ByteArray} {f pos : Nat} (hp : pos < s.size) (h : lowR (Utf8.decode s pos).1 = true) : idxFuncFrom lowR false s (f + 1) pos = idxFuncFrom lowR false s f (pos + (Utf8.decode s pos).2) := by
  rw [idxFuncFrom, if_pos hp, if_neg (by rw [h]; decide)]
theorem idx_n {s : ByteArray} {f pos : Nat} (hp : pos < s.size) (h : lowR (Utf8.decode s pos).1 = false) : idxFuncFrom lowR false s (f + 1) pos = (pos : Int) := by
  rw [idxFuncFrom, if_pos hp, if_pos h]
theorem last_w {s : ByteArray} {f i : Nat} (hi : 0 < i) (h : lowR (decodeLastL (s.data.toList.take i)).1 = true) : lastIdxFuncFrom lowR false s (f + 1) i = lastIdxFuncFrom lowR false s f (i - (decodeLastL (s.data.toList.take i)).2) := by
  rw [lastIdxFuncFrom, if_pos hi, if_neg (by rw [h]; decide)]
theorem last_n {s : ByteArray} {f i : Nat} (hi : 0 < i) (h : lowR (decodeLastL (s.data.toList.take i)).1 = false) : lastIdxFuncFrom lowR false s (f + 1) i = ((i - (decodeLastL (s.data.toList.take i)).2 : Nat) : Int) := by
  rw [lastIdxFuncFrom, if_pos hi, if_pos h]
theorem left_low (s : ByteArray) : ∀ (f pos : Nat), s.size ≤ pos + f →
    (s.data.toList.drop pos).dropWhile wB = if idxFuncFrom lowR false s f pos = -1 then [] else s.data.toList.drop (idxFuncFrom lowR false s f pos).toNat
  | 0, pos, h => by
    have e : s.data.toList.drop pos = [] := drop_nil s pos (by omega)
    simp [idxFuncFrom, e]
  | f + 1, pos, h => by
    by_cases hp : pos < s.size
    · have hc := drop_cons s pos hp
      by_cases ha : s[pos].toNat ≤ 32
      · have hd := decode_low s pos hp (by omega)
        rw [idx_w hp (by rw [hd]; exact decide_eq_true ha), hd, hc, List.dropWhile_cons, if_pos (by simp [wB, ha])]
        exact left_low s f (pos + 1) (by omega)
      · have h32 : 32 < (Utf8.decode s pos).1 := by
          by_cases hb : s[pos].toNat < 128
          · rw [decode_low s pos hp hb]; simp only; omega
          · exact decode_high s pos hp (by omega)
        rw [idx_n hp (decide_eq_false (by omega)), if_neg (by omega), Int.toNat_natCast, hc, List.dropWhile_cons, if_neg (by simp [wB]; omega)]
    · have e : s.data.toList.drop pos = [] := drop_nil s pos (by omega)
      rw [idxFuncFrom_end _ _ _ _ _ hp, if_pos rfl, e]; rfl
theorem trimLeft_low (s : ByteArray) : (trimLeftF lowR s).data.toList = s.data.toList.dropWhile wB := by
  have h := left_low s s.size 0 (by omega)
  rw [List.drop_zero] at h
  rw [h]
  unfold trimLeftF idxFunc
  split
  · rfl
  · rw [extract_end]

theorem trimR_snoc_w (l : List UInt8) (c : UInt8) (h : wB c = true) : trimR (l ++ [c]) = trimR l := by simp [trimR, h]
theorem trimR_snoc_n (l : List UInt8) (c : UInt8) (h : wB c = false) : trimR (l ++ [c]) = l ++ [c] := by simp [trimR, h]
theorem trimR_nil : trimR [] = [] := rfl
theorem take_last (l : List UInt8) (i : Nat) (h0 : 0 < i) (h : i ≤ l.length) : l.take i = l.take (i - 1) ++ [l.getD (i - 1) 0] := by
  obtain ⟨j, rfl⟩ : ∃ j, i = j + 1 := ⟨i - 1, by omega⟩
  have hj : j < l.length := by omega
  rw [Nat.add_sub_cancel, List.take_succ_eq_append_getElem hj, List.getD_eq_getElem?_getD, List.getElem?_eq_getElem hj]; rfl

theorem right_low (s : ByteArray) : ∀ (f i : Nat), i ≤ f → i ≤ s.data.toList.length → OpenAt s.data.toList i →
    trimR (s.data.toList.take i) = s.data.toList.take (if 0 ≤ lastIdxFuncFrom lowR false s f i then (lastIdxFuncFrom lowR false s f i).toNat + (decodeL (s.data.toList.drop (lastIdxFuncFrom lowR false s f i).toNat)).2 else 0)
  | 0, i, hf, _, _ => by
    obtain rfl : i = 0 := by omega
    simp [trimR, lastIdxFuncFrom]
  | f + 1, i, hf, hil, ho => by
    by_cases hi : 0 < i
    · have hlen : (s.data.toList.take i).length = i := by rw [List.length_take]; omega
      have hw := decodeLastL_width (s.data.toList.take i) (by omega)
      rw [hlen] at hw
      have hsn := take_last s.data.toList i hi hil
      have hlc := last_cases s.data.toList i hi hil
      by_cases h32 : (s.data.toList.getD (i - 1) 0).toNat ≤ 32
      · have hd : decodeLastL (s.data.toList.take i) = ((s.data.toList.getD (i - 1) 0).toNat, 1) := by
          rcases hlc with ⟨_, hd⟩ | ⟨ha, _⟩ | ⟨ha, _⟩
          · exact hd
          · omega
          · omega
        rw [last_w hi (by rw [hd]; exact decide_eq_true h32), hd, hsn, trimR_snoc_w _ _ (decide_eq_true h32)]
        exact right_low s f (i - 1) (by omega) (by omega) (.inr (by omega))
      · have hp : lowR (decodeLastL (s.data.toList.take i)).1 = false := by
          unfold lowR
          apply decide_eq_false
          rcases hlc with ⟨_, hd⟩ | ⟨_, hd⟩ | ⟨ha, st, hst, hd, hsum⟩
          · rw [hd]; exact h32
          · rw [hd]; decide
          · rw [hd]
            by_cases hb : (s.data.toList.getD st 0).toNat < 128
            · exfalso
              have e : decodeL ((s.data.toList.take i).drop st) = ((s.data.toList.getD st 0).toNat, 1) := by
                rw [decodeL_N, getD_dropU, Nat.add_zero, getD_takeU _ _ _ hst, decodeN_ascii _ _ _ _ _ hb]
              rw [e] at hsum
              obtain rfl : st = i - 1 := by simp only at hsum; omega
              omega
            · have : 32 < (decodeL ((s.data.toList.take i).drop st)).1 := by
                rw [decodeL_N, getD_dropU, Nat.add_zero, getD_takeU _ _ _ hst]
                exact decodeN_hi _ _ _ _ _ (by omega)
              omega
        rw [last_n hi hp, if_pos (by omega), Int.toNat_natCast, fw_width _ i hi hil ho, Nat.sub_add_cancel hw.2, hsn, trimR_snoc_n _ _ (decide_eq_false h32)]
    · obtain rfl : i = 0 := by omega
      rw [lastIdxFuncFrom_zero]
      simp [trimR]
theorem lastIdx_lt (s : ByteArray) : ∀ (f i : Nat), i ≤ s.size → 0 ≤ lastIdxFuncFrom lowR false s f i → lastIdxFuncFrom lowR false s f i < i
  | 0, i, _, h => by simp [lastIdxFuncFrom] at h
  | f + 1, i, hi, h => by
    unfold lastIdxFuncFrom at h ⊢
    by_cases h0 : 0 < i
    · have hw := decodeLastL_width (s.data.toList.take i) (by rw [List.length_take, toList_length]; omega)
      rw [List.length_take, toList_length, Nat.min_eq_left hi] at hw
      rw [if_pos h0] at h ⊢
      split
      · omega
      · rename_i hn
        rw [if_neg hn] at h
        have := lastIdx_lt s f (i - (decodeLastL (s.data.toList.take i)).2) (by omega) h
        omega
    · rw [if_neg h0] at h; omega
theorem trimRight_low (s : ByteArray) : (trimRightF lowR s).data.toList = trimR s.data.toList := by
  have h := right_low s s.size s.size (Nat.le_refl _) (by rw [toList_length]; exact Nat.le_refl _) (.inl (toList_length s).symm)
  rw [List.take_of_length_le (by rw [toList_length]; exact Nat.le_refl _)] at h
  rw [h]
  unfold trimRightF rightEndF lastIdxFunc
  rw [extract_list, List.drop_zero]
  congr 1
  split
  · rename_i h0
    congr 2
    rcases lastIdxFuncFrom_range lowR false s s.size s.size with hm | hlt
    · omega
    · by_cases hz : (lastIdxFuncFrom lowR false s s.size s.size).toNat < s.size
      · have hx : s.extract (lastIdxFuncFrom lowR false s s.size s.size).toNat s.size = ⟨(s.data.toList.drop (lastIdxFuncFrom lowR false s s.size s.size).toNat).toArray⟩ := ext_list (by rw [extract_end])
        have hxs : (⟨(s.data.toList.drop (lastIdxFuncFrom lowR false s s.size s.size).toNat).toArray⟩ : ByteArray).size ≠ 0 := by
          rw [← hx, ByteArray.size_extract]; omega
        rw [hx]
        unfold decodeGoB decodeL
        rw [if_neg hxs]
      · exfalso
        -- the place that is found lies below the end
        have := lastIdx_lt s s.size s.size (Nat.le_refl _) hlt.1
        omega
  · rfl
theorem trimF_low (s : ByteArray) : (trimF lowR s).data.toList = trimW s.data.toList := by
  unfold trimF trimW
  rw [trimRight_low, trimLeft_low]
end Go.Proofs.YtklbdobofclofaaGreatDoor

/- PURE: layer 16's answers on lists of bytes: an address made clean, its scheme, its kind. No statement is proved here. Own work of the verifier. -/
namespace Go.Proofs.YtklbdobofclofaaGreatDoor
set_option linter.unusedVariables false
set_option linter.unusedSimpArgs false

def tagB (c : UInt8) : Bool := c == 9 || c == 10 || c == 13
def keepL (l : List UInt8) : List UInt8 := l.filter fun c => !tagB c
def lkClean (l : List UInt8) : List UInt8 := keepL (trimW l)
theorem tag_w (c : UInt8) (h : wB c = false) : tagB c = false :=
  u8_all (p := fun c => wB c = false → tagB c = false) (by decide +kernel) c h
def headN (l : List UInt8) : Prop := ∀ a r, l = a :: r → wB a = false
theorem headN_drop (l : List UInt8) : headN (l.dropWhile wB) := by
  induction l with
  | nil => intro a r h; cases h
  | cons c t ih =>
    rw [List.dropWhile_cons]
    split
    · exact ih
    · rename_i hc
      intro a r h
      injection h with h1 _
      rw [← h1]; simpa using hc
theorem headN_same {l : List UInt8} (h : headN l) : l.dropWhile wB = l := by
  cases l with
  | nil => rfl
  | cons a r => rw [List.dropWhile_cons, h a r rfl]; rfl
theorem trimR_pre (l : List UInt8) : trimR l <+: l := by
  unfold trimR
  have := List.dropWhile_suffix (l := l.reverse) wB
  have h := List.reverse_prefix.2 this
  rwa [List.reverse_reverse] at h
theorem headN_trimR {l : List UInt8} (h : headN l) : headN (trimR l) := by
  intro a r e
  obtain ⟨t, ht⟩ := trimR_pre l
  rw [e] at ht
  exact h a (r ++ t) ht.symm
theorem lastN_trimR (l : List UInt8) : headN (trimR l).reverse := by
  unfold trimR
  rw [List.reverse_reverse]
  exact headN_drop _
theorem trimR_same {l : List UInt8} (h : headN l.reverse) : trimR l = l := by
  unfold trimR
  rw [headN_same h, List.reverse_reverse]
theorem headN_keep {l : List UInt8} (h : headN l) : headN (keepL l) := by
  cases l with
  | nil => intro a r e; cases e
  | cons c t =>
    have hc := h c t rfl
    intro a r e
    have e2 : keepL (c :: t) = c :: keepL t := by unfold keepL; rw [List.filter_cons, tag_w c hc]; rfl
    rw [e2] at e
    injection e with e1 _
    rw [← e1]; exact hc
theorem keep_rev (l : List UInt8) : (keepL l).reverse = keepL l.reverse := by unfold keepL; rw [List.filter_reverse]
theorem clean_head (l : List UInt8) : headN (lkClean l) := headN_keep (headN_trimR (headN_drop l))
theorem clean_last (l : List UInt8) : headN (lkClean l).reverse := by
  unfold lkClean
  rw [keep_rev]
  exact headN_keep (lastN_trimR _)
theorem clean_tag (l : List UInt8) (c : UInt8) (h : c ∈ lkClean l) : tagB c = false := by
  have := (List.mem_filter.1 h).2
  simpa using this
theorem clean_of {l : List UInt8} (h1 : headN l) (h2 : headN l.reverse) (h3 : ∀ c ∈ l, tagB c = false) : lkClean l = l := by
  unfold lkClean trimW keepL
  rw [headN_same h1, trimR_same h2, List.filter_eq_self]
  intro c hc
  rw [h3 c hc]; rfl
theorem clean_clean (l : List UInt8) : lkClean (lkClean l) = lkClean l := clean_of (clean_head l) (clean_last l) (clean_tag l)
theorem trimW_length (l : List UInt8) : (trimW l).length ≤ l.length :=
  Nat.le_trans (trimR_pre _).length_le (List.dropWhile_sublist _).length_le
theorem clean_length (l : List UInt8) : (lkClean l).length ≤ l.length := Nat.le_trans (List.length_filter_le _ _) (trimW_length l)

/-! ### schemes -/
def schB (c : UInt8) : Bool := letterB c || digitB c || c == 43 || c == 45 || c == 46
def headOK : List UInt8 → Bool
  | [] => false
  | c :: _ => letterB c
/-- an address's scheme, small, and what stands behind its colon -/
def schL (l : List UInt8) : Option (List UInt8 × List UInt8) :=
  if headOK l = true ∧ (l.dropWhile schB).headD 0 = 58 then some (lowL (l.takeWhile schB), (l.dropWhile schB).tail) else none
theorem schB_58 : schB 58 = false := by decide
theorem takeW_of {p : UInt8 → Bool} {m b : List UInt8} {c : UInt8} (h : ∀ x ∈ m, p x = true) (hc : p c = false) : (m ++ c :: b).takeWhile p = m ∧ (m ++ c :: b).dropWhile p = c :: b := by
  induction m with
  | nil => simp [hc]
  | cons a r ih =>
    have ha := h a (List.mem_cons_self ..)
    have := ih (fun x hx => h x (List.mem_cons_of_mem _ hx))
    simp [ha, this.1, this.2]
theorem takeW_all {p : UInt8 → Bool} {m : List UInt8} (h : ∀ x ∈ m, p x = true) : m.takeWhile p = m ∧ m.dropWhile p = [] := by
  induction m with
  | nil => exact ⟨rfl, rfl⟩
  | cons a r ih =>
    have ha := h a (List.mem_cons_self ..)
    have := ih (fun x hx => h x (List.mem_cons_of_mem _ hx))
    simp [ha, this.1, this.2]
theorem mem_takeW {p : UInt8 → Bool} {l : List UInt8} {x : UInt8} (h : x ∈ l.takeWhile p) : p x = true := by
  induction l with
  | nil => cases h
  | cons a r ih =>
    rw [List.takeWhile_cons] at h
    split at h
    · rename_i ha
      rcases List.mem_cons.1 h with rfl | h
      · exact ha
      · exact ih h
    · cases h
theorem headOK_app {m b : List UInt8} (h : headOK m = true) : headOK (m ++ b) = true := by
  cases m with
  | nil => cases h
  | cons a r => exact h
theorem schL_of {m b : List UInt8} (h0 : headOK m = true) (h : ∀ x ∈ m, schB x = true) : schL (m ++ 58 :: b) = some (lowL m, b) := by
  obtain ⟨e1, e2⟩ := takeW_of (b := b) h schB_58
  unfold schL
  rw [e1, e2, if_pos ⟨headOK_app h0, rfl⟩]; rfl
theorem schL_some {l n b : List UInt8} (h : schL l = some (n, b)) : ∃ m, l = m ++ 58 :: b ∧ n = lowL m ∧ headOK m = true ∧ ∀ x ∈ m, schB x = true := by
  unfold schL at h
  split at h
  · rename_i hc
    injection h with h
    injection h with h1 h2
    refine ⟨l.takeWhile schB, ?_, h1.symm, ?_, fun x hx => mem_takeW hx⟩
    · have e := List.takeWhile_append_dropWhile (p := schB) (l := l)
      cases hd : l.dropWhile schB with
      | nil => rw [hd] at hc; exact absurd hc.2 (by decide)
      | cons a r =>
        rw [hd] at hc h2 e
        have ha : a = 58 := hc.2
        have hr : r = b := h2
        rw [← ha, ← hr]; exact e.symm
    · cases l with
      | nil => exact absurd hc.1 (by decide)
      | cons a r =>
        have ha : letterB a = true := hc.1
        have hs : schB a = true := by unfold schB; rw [ha]; rfl
        rw [List.takeWhile_cons, hs]
        exact ha
  · cases h
theorem schL_stop {m b : List UInt8} {c : UInt8} (h : ∀ x ∈ m, schB x = true) (hc : schB c = false) (h58 : c ≠ 58) : schL (m ++ c :: b) = none := by
  obtain ⟨e1, e2⟩ := takeW_of (b := b) h hc
  unfold schL
  rw [e2, if_neg (fun e => h58 e.2)]
theorem schL_end {m : List UInt8} (h : ∀ x ∈ m, schB x = true) : schL m = none := by
  unfold schL
  rw [(takeW_all h).2, if_neg (fun e => absurd e.2 (by decide))]
theorem schL_head {c : UInt8} {r : List UInt8} (h : letterB c = false) : schL (c :: r) = none := by
  unfold schL
  rw [if_neg]
  intro e
  have : letterB c = true := e.1
  rw [h] at this; cases this

/-! ### kinds -/
def noH (c : UInt8) : Bool := c == 47 || c == 63 || c == 35 || c == 92
def hostB : List UInt8 → Bool
  | a :: b :: c :: _ => a == 47 && b == 47 && !noH c
  | _ => false
def httpL : List UInt8 := [104, 116, 116, 112]
def httpsL : List UInt8 := [104, 116, 116, 112, 115]
def mailL : List UInt8 := [109, 97, 105, 108, 116, 111]
def cidL : List UInt8 := [99, 105, 100]
def lkKindOf (n b : List UInt8) : Nat :=
  if n = httpL then (if hostB b = true then 1 else 5) else if n = httpsL then (if hostB b = true then 2 else 5) else if n = mailL then 3 else if n = cidL then 4 else 5
def lkKind (l : List UInt8) : Nat :=
  match schL l with
  | none => 0
  | some (n, b) => lkKindOf n b
theorem lkKind_none {l : List UInt8} (h : schL l = none) : lkKind l = 0 := by unfold lkKind; rw [h]
theorem lkKind_some {l n b : List UInt8} (h : schL l = some (n, b)) : lkKind l = lkKindOf n b := by unfold lkKind; rw [h]
theorem lkKindOf_pos (n b : List UInt8) : 1 ≤ lkKindOf n b ∧ lkKindOf n b ≤ 5 := by
  unfold lkKindOf
  repeat' split
  all_goals exact ⟨by omega, by omega⟩
theorem lkKindOf_web {n b : List UInt8} (h : lkKindOf n b = 1 ∨ lkKindOf n b = 2) : ((lkKindOf n b = 1 ∧ n = httpL) ∨ (lkKindOf n b = 2 ∧ n = httpsL)) ∧ ∃ c r, b = 47 :: 47 :: c :: r := by
  have hb : hostB b = true ∧ ((lkKindOf n b = 1 ∧ n = httpL) ∨ (lkKindOf n b = 2 ∧ n = httpsL)) := by
    unfold lkKindOf at h ⊢
    by_cases h1 : n = httpL
    · rw [if_pos h1] at h ⊢
      by_cases h2 : hostB b = true
      · rw [if_pos h2]; exact ⟨h2, .inl ⟨rfl, h1⟩⟩
      · rw [if_neg h2] at h; omega
    · rw [if_neg h1] at h ⊢
      by_cases h3 : n = httpsL
      · rw [if_pos h3] at h ⊢
        by_cases h2 : hostB b = true
        · rw [if_pos h2]; exact ⟨h2, .inr ⟨rfl, h3⟩⟩
        · rw [if_neg h2] at h; omega
      · rw [if_neg h3] at h
        exfalso
        repeat' split at h
        all_goals omega
  refine ⟨hb.2, ?_⟩
  obtain ⟨h, _⟩ := hb
  match b, h with
  | x :: y :: c :: r, h =>
    simp [hostB] at h
    obtain ⟨⟨rfl, rfl⟩, _⟩ := h
    exact ⟨c, r, rfl⟩

/-! ### large letters -/
def lkUp (c : UInt8) : UInt8 := if 97 ≤ c ∧ c ≤ 122 then c - 32 else c
theorem lkUp_sch (c : UInt8) (h : schB c = true) : schB (lkUp c) = true ∧ lowC (lkUp c) = lowC c ∧ wB (lkUp c) = false ∧ tagB (lkUp c) = false ∧ (letterB c = true → letterB (lkUp c) = true) :=
  u8_all (p := fun c => schB c = true → (schB (lkUp c) = true ∧ lowC (lkUp c) = lowC c ∧ wB (lkUp c) = false ∧ tagB (lkUp c) = false ∧ (letterB c = true → letterB (lkUp c) = true))) (by decide +kernel) c h
theorem up_scheme {m b : List UInt8} (h0 : headOK m = true) (h : ∀ x ∈ m, schB x = true) : schL (m.map lkUp ++ 58 :: b) = some (lowL m, b) := by
  have e : lowL (m.map lkUp) = lowL m := by
    unfold lowL
    rw [List.map_map]
    exact List.map_congr_left fun x hx => (lkUp_sch x (h x hx)).2.1
  rw [← e]
  refine schL_of ?_ ?_
  · cases m with
    | nil => cases h0
    | cons a r => exact (lkUp_sch a (h a (List.mem_cons_self ..))).2.2.2.2 h0
  · intro x hx
    obtain ⟨y, hy, rfl⟩ := List.mem_map.1 hx
    exact (lkUp_sch y (h y hy)).1
theorem up_clean {m b : List UInt8} (h0 : headOK m = true) (h : ∀ x ∈ m, schB x = true) (hl : headN (m ++ 58 :: b).reverse) (ht : ∀ c ∈ m ++ 58 :: b, tagB c = false) : lkClean (m.map lkUp ++ 58 :: b) = m.map lkUp ++ 58 :: b := by
  refine clean_of ?_ ?_ ?_
  · cases m with
    | nil => cases h0
    | cons a r =>
      intro x y e
      injection e with e1 _
      rw [← e1]; exact (lkUp_sch a (h a (List.mem_cons_self ..))).2.2.1
  · rw [List.reverse_append, List.reverse_cons] at hl ⊢
    rw [List.append_assoc] at hl ⊢
    intro x y e
    cases hr : b.reverse with
    | nil =>
      rw [hr] at e
      injection e with e1 _
      rw [← e1]; rfl
    | cons z t =>
      rw [hr] at e hl
      injection e with e1 _
      rw [← e1]; exact hl z _ rfl
  · intro c hc
    rcases List.mem_append.1 hc with hc | hc
    · obtain ⟨y, hy, rfl⟩ := List.mem_map.1 hc
      exact (lkUp_sch y (h y hy)).2.2.2.1
    · exact ht c (List.mem_append_right _ hc)
end Go.Proofs.YtklbdobofclofaaGreatDoor

/- WALK of the reference's Space; what is trimmed, on lists. No statement is proved here. -/
namespace Go.Proofs.YtklbdobofclofaaGreatDoor
open Go.RowKit
set_option linter.unusedVariables false
set_option linter.unusedSimpArgs false

def spaceB (c : UInt8) : Bool := whiteSet.contains c
theorem space_case (c : UInt8) : (c = 32 ∧ spaceB c = true) ∨ (c ≠ 32 ∧ ((c = 9 ∧ spaceB c = true) ∨ (c ≠ 9 ∧ ((c = 10 ∧ spaceB c = true) ∨ (c ≠ 10 ∧ ((c = 12 ∧ spaceB c = true) ∨ (c ≠ 12 ∧ ((c = 13 ∧ spaceB c = true) ∨ (c ≠ 13 ∧ spaceB c = false))))))))) :=
  u8_all (p := fun c => (c = 32 ∧ spaceB c = true) ∨ (c ≠ 32 ∧ ((c = 9 ∧ spaceB c = true) ∨ (c ≠ 9 ∧ ((c = 10 ∧ spaceB c = true) ∨ (c ≠ 10 ∧ ((c = 12 ∧ spaceB c = true) ∨ (c ≠ 12 ∧ ((c = 13 ∧ spaceB c = true) ∨ (c ≠ 13 ∧ spaceB c = false)))))))))) (by decide +kernel) c
set_option maxHeartbeats 1000000 in
theorem space_any (c : UInt8) (w : World) :
    Calls Tryz.prog 81 #[.int .u8 c.toNat] w fun e w' => e = .returned (.bool (spaceB c)) ∧ w = w' := by
  have hcase := space_case c
  generalize spaceB c = sb at hcase
  rcases hcase with ⟨h, rfl⟩ | ⟨h1, ⟨h, rfl⟩ | ⟨h2, ⟨h, rfl⟩ | ⟨h3, ⟨h, rfl⟩ | ⟨h4, ⟨h, rfl⟩ | ⟨h5, rfl⟩⟩⟩⟩⟩
  · subst h
    go_enter Tryz.func81, Tryz.ntmps81
    go_wp2
    go_ret
    exact ⟨rfl, rfl⟩
  · subst h
    go_enter Tryz.func81, Tryz.ntmps81
    go_wp2
    go_ret
    exact ⟨rfl, rfl⟩
  · subst h
    go_enter Tryz.func81, Tryz.ntmps81
    go_wp2
    go_ret
    exact ⟨rfl, rfl⟩
  · subst h
    go_enter Tryz.func81, Tryz.ntmps81
    go_wp2
    go_ret
    exact ⟨rfl, rfl⟩
  · subst h
    go_enter Tryz.func81, Tryz.ntmps81
    go_wp2
    go_ret
    exact ⟨rfl, rfl⟩
  · have t1 : ((c.toNat : Int) == 32) = false := tF 32 h1 (by omega)
    have t2 : ((c.toNat : Int) == 9) = false := tF 9 h2 (by omega)
    have t3 : ((c.toNat : Int) == 10) = false := tF 10 h3 (by omega)
    have t4 : ((c.toNat : Int) == 12) = false := tF 12 h4 (by omega)
    have t5 : ((c.toNat : Int) == 13) = false := tF 13 h5 (by omega)
    clear h1 h2 h3 h4 h5
    go_enter Tryz.func81, Tryz.ntmps81
    go_wp2
    go_ret
    exact ⟨rfl, rfl⟩

/-! ### left first, then right: the same -/
def leftW (l : List UInt8) : List UInt8 := l.dropWhile spaceB
def rightW (l : List UInt8) : List UInt8 := (l.reverse.dropWhile spaceB).reverse
theorem rightW_snoc (l : List UInt8) (c : UInt8) : rightW (l ++ [c]) = if spaceB c then rightW l else l ++ [c] := by
  unfold rightW
  rw [List.reverse_append]
  show (List.dropWhile spaceB (c :: l.reverse)).reverse = _
  rw [List.dropWhile_cons]
  split
  · rfl
  · simp
theorem rightW_nil : rightW [] = [] := rfl
theorem leftW_nil : leftW [] = [] := rfl
theorem leftW_cons (c : UInt8) (l : List UInt8) : leftW (c :: l) = if spaceB c then leftW l else c :: l := by
  unfold leftW; rw [List.dropWhile_cons]
theorem trim_eq (l : List UInt8) : Lib.trimS l whiteSet = leftW (rightW l) := rfl
theorem rightW_cons {c : UInt8} (h : spaceB c = false) (l : List UInt8) : rightW (c :: l) = c :: rightW l := by
  suffices H : ∀ k : List UInt8, rightW (c :: k.reverse) = c :: rightW k.reverse by
    have := H l.reverse; rwa [List.reverse_reverse] at this
  intro k
  induction k with
  | nil => 
    show rightW ([] ++ [c]) = _
    rw [rightW_snoc, h]; rfl
  | cons d k ih =>
    rw [List.reverse_cons, ← List.cons_append, rightW_snoc, rightW_snoc, ih]
    split <;> rfl
theorem rightW_all (l : List UInt8) (h : ∀ c ∈ l, spaceB c = true) : rightW l = [] := by
  unfold rightW
  rw [List.reverse_eq_nil_iff]
  have h' : ∀ c ∈ l.reverse, spaceB c = true := fun c hc => h c (List.mem_reverse.1 hc)
  generalize l.reverse = k at h'
  induction k with
  | nil => rfl
  | cons c k ih => rw [List.dropWhile_cons, h' c (List.mem_cons_self ..)]; exact ih (fun x hx => h' x (List.mem_cons_of_mem _ hx))
theorem lr (l : List UInt8) : leftW (rightW l) = rightW (leftW l) := by
  induction l with
  | nil => rfl
  | cons c l ih =>
    cases h : spaceB c with
    | false =>
      rw [rightW_cons h, leftW_cons, leftW_cons, h]
      simp only [Bool.false_eq_true, if_false]
      rw [rightW_cons h]
    | true =>
      rw [leftW_cons, h]
      simp only [if_true]
      rw [← ih]
      by_cases hall : ∀ x ∈ l, spaceB x = true
      · rw [rightW_all l hall, rightW_all (c :: l) (fun x hx => by rcases List.mem_cons.1 hx with e | e; · rw [e]; exact h
                                                                   · exact hall x e)]
      · have key : rightW (c :: l) = c :: rightW l := by
          suffices H : ∀ k : List UInt8, (¬ ∀ x ∈ k.reverse, spaceB x = true) → rightW (c :: k.reverse) = c :: rightW k.reverse by
            have := H l.reverse; rw [List.reverse_reverse] at this; exact this hall
          intro k
          induction k with
          | nil => intro hn; exact absurd (fun x hx => by cases hx) hn
          | cons d k ihk =>
            intro hn
            rw [List.reverse_cons, ← List.cons_append, rightW_snoc, rightW_snoc]
            cases hd : spaceB d with
            | false => rfl
            | true =>
              simp only [if_true]
              refine ihk (fun hk => hn (fun x hx => ?_))
              rw [List.reverse_cons, List.mem_append] at hx
              rcases hx with hx | hx
              · exact hk x hx
              · rw [List.mem_singleton.1 hx]; exact hd
        rw [key, leftW_cons, h]; rfl

theorem snoc_of (u : ByteArray) (n : Nat) (hn : u.size = n + 1) : u.data.toList = (u.extract 0 n).data.toList ++ [u[n]'(by omega)] := by
  rw [extract_list, List.drop_zero, ← take_snoc u n (by omega), List.take_of_length_le (by rw [toList_length]; omega)]
def szOfC : Value → Nat
  | .string t => t.size
  | _ => 0
end Go.Proofs.YtklbdobofclofaaGreatDoor

/- WALKS of ascii.Letter, ascii.Plain and ascii.AllPlain. No statement is proved here. Own work of the verifier. -/
namespace Go.Proofs.YtklbdobofclofaaGreatDoor
open Go.RowKit
set_option linter.unusedVariables false
set_option linter.unusedSimpArgs false
set_option maxRecDepth 100000

theorem asciiLetter_any (c : UInt8) (w : World) :
    Calls Tryz.prog 61 #[.int .u8 c.toNat] w fun e w' => e = .returned (.bool (letterB c)) ∧ w = w' := by
  have hc := byte_lt c
  rcases letter_case c with ⟨c1, c2, e⟩ | ⟨c1, c2, c3, e⟩ | ⟨c1, c2, e⟩ | ⟨c1, c2, c3, e⟩ | ⟨c1, c2, e⟩
  all_goals
    rw [e]; clear e
    go_enter Tryz.func61, Tryz.ntmps61
    go_wp2
    go_ret
    exact ⟨ret_bool (by first | rfl | (simp; omega)), rfl⟩
/-- a letter, a digit, or one of m -/
def markB (m : List UInt8) (c : UInt8) : Bool := letterB c || digitB c || decide (0 ≤ Lib.indexByte m c)
theorem asciiPlain_any (c : UInt8) (m : ByteArray) (w : World) :
    Calls Tryz.prog 62 #[.int .u8 c.toNat, .string m] w fun e w' => e = .returned (.bool (markB m.data.toList c)) ∧ w = w' := by
  have hc := byte_lt c
  have hu : (c.toNat : Int).toNat.toUInt8 = c := by rw [Int.toNat_natCast]; exact UInt8.ofNat_toNat
  have HU := hide hu
  clear hu
  cases hl : letterB c with
  | true =>
    have HB : Hid (markB m.data.toList c = true) := by unfold markB; rw [hl]; exact hide rfl
    have HL := hide hl
    clear hl
    go_enter Tryz.func62, Tryz.ntmps62
    go_wp2_with fail
    refine (asciiLetter_any c _).mono ?_
    rintro e w1 ⟨rfl, rfl⟩
    rw [HL.out]
    go_wp2_with fail
    go_ret
    exact ⟨ret_bool HB.out.symm, rfl⟩
  | false =>
    have HL := hide hl
    rcases digit_case c with ⟨c1, c2, e⟩ | ⟨c1, e⟩ | ⟨c1, c2, e⟩
    · have HB : Hid (markB m.data.toList c = true) := by unfold markB; rw [hl, e]; exact hide rfl
      clear hl e
      go_enter Tryz.func62, Tryz.ntmps62
      go_wp2_with fail
      refine (asciiLetter_any c _).mono ?_
      rintro e w1 ⟨rfl, rfl⟩
      rw [HL.out]
      go_wp2_with fail
      go_ret
      exact ⟨ret_bool HB.out.symm, rfl⟩
    all_goals
      have HB : Hid (markB m.data.toList c = decide (0 ≤ Lib.indexByte m.data.toList c)) := by unfold markB; rw [hl, e]; exact hide rfl
      clear hl e
      go_enter Tryz.func62, Tryz.ntmps62
      go_wp2_with fail
      refine (asciiLetter_any c _).mono ?_
      rintro e w1 ⟨rfl, rfl⟩
      rw [HL.out]
      go_wp2_with fail
      refine (Tryz.strings_IndexByte _ _ _).mono ?_
      rintro e w1 ⟨rfl, rfl⟩
      rw [HU.out]
      go_wp2_with fail
      go_ret
      exact ⟨ret_bool (by first | (rw [HB.out]; done) | (rw [HB.out, show decide ((c.toNat : Int) ≤ 57) = false from decide_eq_false (by omega)]; rfl)), rfl⟩
end Go.Proofs.YtklbdobofclofaaGreatDoor

/- PURE: layer 17 on lists of bytes: a style's pieces, its declarations, which are safe, what is clean. No statement is proved here. Own work of the verifier. -/
namespace Go.Proofs.YtklbdobofclofaaGreatDoor
set_option linter.unusedVariables false
set_option linter.unusedSimpArgs false

def trimV (l : List UInt8) : List UInt8 := rightW (leftW l)
theorem leftW_idem (l : List UInt8) : leftW (leftW l) = leftW l := by
  induction l with
  | nil => rfl
  | cons c t ih =>
    rw [leftW_cons]
    cases h : spaceB c with
    | true => simpa using ih
    | false =>
      simp only [Bool.false_eq_true, if_false]
      rw [leftW_cons, h]; rfl
theorem rightW_idem (l : List UInt8) : rightW (rightW l) = rightW l := by
  have := leftW_idem l.reverse
  unfold leftW at this
  unfold rightW
  rw [List.reverse_reverse, this]
theorem trimV_idem (l : List UInt8) : trimV (trimV l) = trimV l := by
  unfold trimV
  rw [lr, leftW_idem, rightW_idem]
theorem trimV_cons {c : UInt8} (h : spaceB c = true) (l : List UInt8) : trimV (c :: l) = trimV l := by
  unfold trimV
  rw [leftW_cons, h]; rfl
theorem trimV_snoc {c : UInt8} (h : spaceB c = true) (l : List UInt8) : trimV (l ++ [c]) = trimV l := by
  unfold trimV
  rw [← lr, ← lr, rightW_snoc, h]; rfl
theorem trimV_nil : trimV [] = [] := rfl
theorem leftW_len (l : List UInt8) : (leftW l).length ≤ l.length := (List.dropWhile_sublist _).length_le
theorem rightW_len (l : List UInt8) : (rightW l).length ≤ l.length := by
  unfold rightW
  rw [List.length_reverse]
  exact Nat.le_trans (List.dropWhile_sublist _).length_le (by simp)
theorem trimV_len (l : List UInt8) : (trimV l).length ≤ l.length := Nat.le_trans (rightW_len _) (leftW_len _)

/-! ### pieces -/
/-- what is open: how many brackets, which quote (0: none), whether the byte behind belongs to the one ahead -/
abbrev CSt := Nat × UInt8 × Bool
def st0 : CSt := (0, 0, false)
def cstep (st : CSt) (c : UInt8) : CSt × Bool :=
  if st.2.2 = true then ((st.1, st.2.1, false), false)
  else if st.2.1 ≠ 0 then (if c = st.2.1 then ((st.1, 0, false), false) else if c = 92 then ((st.1, st.2.1, true), false) else (st, false))
  else if c = 34 ∨ c = 39 then ((st.1, c, false), false)
  else if c = 40 then ((st.1 + 1, 0, false), false)
  else if c = 41 then ((st.1 - 1, 0, false), false)
  else (st, decide (c = 59 ∧ st.1 = 0))
def pcs (st : CSt) (cur : List UInt8) : List UInt8 → List (List UInt8)
  | [] => [cur]
  | c :: r => if (cstep st c).2 = true then cur :: pcs (cstep st c).1 [] r else pcs (cstep st c).1 (cur ++ [c]) r
theorem pcs_end {st : CSt} {c : UInt8} (h : (cstep st c).2 = true) (cur r : List UInt8) : pcs st cur (c :: r) = cur :: pcs (cstep st c).1 [] r := by
  rw [pcs, if_pos h]
theorem pcs_go {st : CSt} {c : UInt8} (h : (cstep st c).2 = false) (cur r : List UInt8) : pcs st cur (c :: r) = pcs (cstep st c).1 (cur ++ [c]) r := by
  rw [pcs, if_neg (by rw [h]; decide)]
def pieceW (l : List (List UInt8)) : Nat := (l.map fun p => p.length + 1).sum
theorem pcs_weight (l : List UInt8) : ∀ (st : CSt) (cur : List UInt8), pieceW (pcs st cur l) = cur.length + l.length + 1 := by
  induction l with
  | nil => intro st cur; simp [pcs, pieceW]
  | cons c r ih =>
    intro st cur
    cases h : (cstep st c).2 with
    | true =>
      rw [pcs_end h]
      unfold pieceW at ih ⊢
      rw [List.map_cons, List.sum_cons, ih]
      simp; omega
    | false =>
      rw [pcs_go h, ih]
      simp; omega

/-! ### declarations -/
abbrev DeclL := List UInt8 × List UInt8
def declL (p : List UInt8) : Option DeclL :=
  if lowL (trimV (beforeC 58 p)) = [] ∨ trimV (afterC 58 p) = [] then none else some (lowL (trimV (beforeC 58 p)), trimV (afterC 58 p))
def cutD (l : List UInt8) : List DeclL := (pcs st0 [] l).filterMap declL
theorem declL_some {p : List UInt8} {d : DeclL} (h : declL p = some d) : d.1 = lowL (trimV (beforeC 58 p)) ∧ d.2 = trimV (afterC 58 p) ∧ d.1 ≠ [] ∧ d.2 ≠ [] := by
  unfold declL at h
  split at h
  · cases h
  · rename_i hn
    injection h with h
    subst h
    exact ⟨rfl, rfl, fun e => hn (.inl e), fun e => hn (.inr e)⟩
theorem before_after (l : List UInt8) : (beforeC 58 l).length + (afterC 58 l).length ≤ l.length := by
  unfold beforeC afterC
  have h := congrArg List.length (List.takeWhile_append_dropWhile (p := fun x => x != 58) (l := l))
  rw [List.length_append] at h
  rw [List.length_drop]; omega
theorem declL_len {p : List UInt8} {d : DeclL} (h : declL p = some d) : d.1.length + d.2.length ≤ p.length := by
  obtain ⟨e1, e2, _⟩ := declL_some h
  rw [e1, e2, lowL_length]
  have h1 := trimV_len (beforeC 58 p)
  have h2 := trimV_len (afterC 58 p)
  have h3 := before_after p
  omega
def declW (D : List DeclL) : Nat := (D.map fun d => d.1.length + d.2.length + 1).sum
theorem decl_weight (P : List (List UInt8)) : declW (P.filterMap declL) ≤ pieceW P := by
  induction P with
  | nil => exact Nat.le_refl _
  | cons p r ih =>
    rw [List.filterMap_cons]
    unfold declW pieceW at *
    cases h : declL p with
    | none => simp only [List.map_cons, List.sum_cons]; omega
    | some d =>
      have := declL_len h
      simp only [List.map_cons, List.sum_cons]; omega
theorem cutD_weight (l : List UInt8) : declW (cutD l) ≤ l.length + 1 := by
  have := decl_weight (pcs st0 [] l)
  rw [pcs_weight] at this
  unfold cutD; simpa using this
theorem declW_mem {D : List DeclL} {d : DeclL} (h : d ∈ D) : d.1.length + d.2.length + 1 ≤ declW D := by
  unfold declW
  induction D with
  | nil => cases h
  | cons a r ih =>
    rw [List.map_cons, List.sum_cons]
    rcases List.mem_cons.1 h with rfl | h
    · omega
    · have := ih h; omega
theorem declW_len (D : List DeclL) : D.length ≤ declW D := by
  unfold declW
  induction D with
  | nil => exact Nat.le_refl _
  | cons a r ih => rw [List.map_cons, List.sum_cons, List.length_cons]; omega

/-! ### what is let through -/
def cssNames : List (List UInt8) := [
  [98, 97, 99, 107, 103, 114, 111, 117, 110, 100, 45, 99, 111, 108, 111, 114],
  [98, 111, 114, 100, 101, 114],
  [98, 111, 114, 100, 101, 114, 45, 98, 111, 116, 116, 111, 109],
  [98, 111, 114, 100, 101, 114, 45, 99, 111, 108, 108, 97, 112, 115, 101],
  [98, 111, 114, 100, 101, 114, 45, 99, 111, 108, 111, 114],
  [98, 111, 114, 100, 101, 114, 45, 108, 101, 102, 116],
  [98, 111, 114, 100, 101, 114, 45, 114, 105, 103, 104, 116],
  [98, 111, 114, 100, 101, 114, 45, 115, 112, 97, 99, 105, 110, 103],
  [98, 111, 114, 100, 101, 114, 45, 115, 116, 121, 108, 101],
  [98, 111, 114, 100, 101, 114, 45, 116, 111, 112],
  [98, 111, 114, 100, 101, 114, 45, 119, 105, 100, 116, 104],
  [99, 111, 108, 111, 114],
  [100, 105, 114, 101, 99, 116, 105, 111, 110],
  [102, 111, 110, 116, 45, 115, 105, 122, 101],
  [102, 111, 110, 116, 45, 115, 116, 121, 108, 101],
  [102, 111, 110, 116, 45, 119, 101, 105, 103, 104, 116],
  [104, 101, 105, 103, 104, 116],
  [108, 101, 116, 116, 101, 114, 45, 115, 112, 97, 99, 105, 110, 103],
  [108, 105, 110, 101, 45, 104, 101, 105, 103, 104, 116],
  [108, 105, 115, 116, 45, 115, 116, 121, 108, 101, 45, 116, 121, 112, 101],
  [109, 97, 114, 103, 105, 110],
  [109, 97, 114, 103, 105, 110, 45, 98, 111, 116, 116, 111, 109],
  [109, 97, 114, 103, 105, 110, 45, 108, 101, 102, 116],
  [109, 97, 114, 103, 105, 110, 45, 114, 105, 103, 104, 116],
  [109, 97, 114, 103, 105, 110, 45, 116, 111, 112],
  [109, 97, 120, 45, 119, 105, 100, 116, 104],
  [112, 97, 100, 100, 105, 110, 103],
  [112, 97, 100, 100, 105, 110, 103, 45, 98, 111, 116, 116, 111, 109],
  [112, 97, 100, 100, 105, 110, 103, 45, 108, 101, 102, 116],
  [112, 97, 100, 100, 105, 110, 103, 45, 114, 105, 103, 104, 116],
  [112, 97, 100, 100, 105, 110, 103, 45, 116, 111, 112],
  [116, 101, 120, 116, 45, 97, 108, 105, 103, 110],
  [116, 101, 120, 116, 45, 100, 101, 99, 111, 114, 97, 116, 105, 111, 110],
  [116, 101, 120, 116, 45, 105, 110, 100, 101, 110, 116],
  [116, 101, 120, 116, 45, 116, 114, 97, 110, 115, 102, 111, 114, 109],
  [118, 101, 114, 116, 105, 99, 97, 108, 45, 97, 108, 105, 103, 110],
  [119, 104, 105, 116, 101, 45, 115, 112, 97, 99, 101],
  [119, 105, 100, 116, 104]]
def cssMarks : List UInt8 := [32, 35, 46, 37, 44, 45, 43, 33]
def safeD (d : DeclL) : Bool := cssNames.contains d.1 && (!d.2.isEmpty && (decide (d.2.length ≤ 100) && d.2.all (markB cssMarks)))
/-- the last one of each name, of those that are safe -/
def lastD : List DeclL → List DeclL
  | [] => []
  | d :: r => if safeD d = true ∧ r.any (fun e => e.1 == d.1 && safeD e) = false then d :: lastD r else lastD r
def showD (d : DeclL) : List UInt8 := d.1 ++ 58 :: 32 :: d.2
def joinD : List DeclL → List UInt8
  | [] => []
  | [d] => showD d
  | d :: e :: r => showD d ++ 59 :: 32 :: joinD (e :: r)
def cleanD (l : List UInt8) : List UInt8 := joinD (lastD (cutD l))

theorem lastD_sub (D : List DeclL) : (lastD D).Sublist D := by
  induction D with
  | nil => exact List.Sublist.refl _
  | cons d r ih =>
    rw [lastD]
    split
    · exact ih.cons_cons d
    · exact ih.cons d
theorem lastD_safe (D : List DeclL) : ∀ d ∈ lastD D, safeD d = true := by
  induction D with
  | nil => intro d h; cases h
  | cons a r ih =>
    intro d h
    rw [lastD] at h
    split at h
    · rename_i ha
      rcases List.mem_cons.1 h with rfl | h
      · exact ha.1
      · exact ih d h
    · exact ih d h
theorem lastD_names (D : List DeclL) (n : List UInt8) : (∃ e ∈ lastD D, e.1 = n) ↔ ∃ e ∈ D, e.1 = n ∧ safeD e = true := by
  induction D with
  | nil => constructor <;> (rintro ⟨e, h, _⟩; cases h)
  | cons a r ih =>
    rw [lastD]
    by_cases ha : safeD a = true ∧ r.any (fun e => e.1 == a.1 && safeD e) = false
    · rw [if_pos ha]
      constructor
      · rintro ⟨e, h, he⟩
        rcases List.mem_cons.1 h with rfl | h
        · exact ⟨e, List.mem_cons_self .., he, ha.1⟩
        · obtain ⟨x, hx, hn, hs⟩ := ih.1 ⟨e, h, he⟩
          exact ⟨x, List.mem_cons_of_mem _ hx, hn, hs⟩
      · rintro ⟨e, h, he, hs⟩
        rcases List.mem_cons.1 h with rfl | h
        · exact ⟨e, List.mem_cons_self .., he⟩
        · obtain ⟨x, hx, hn⟩ := ih.2 ⟨e, h, he, hs⟩
          exact ⟨x, List.mem_cons_of_mem _ hx, hn⟩
    · rw [if_neg ha]
      constructor
      · rintro ⟨e, h, he⟩
        obtain ⟨x, hx, hn, hs⟩ := ih.1 ⟨e, h, he⟩
        exact ⟨x, List.mem_cons_of_mem _ hx, hn, hs⟩
      · rintro ⟨e, h, he, hs⟩
        rcases List.mem_cons.1 h with rfl | h
        · have h2 : r.any (fun x => x.1 == e.1 && safeD x) = true := by
            cases hh : r.any (fun x => x.1 == e.1 && safeD x) with
            | true => rfl
            | false => exact absurd ⟨hs, hh⟩ ha
          obtain ⟨x, hx, hp⟩ := List.any_eq_true.1 h2
          rw [Bool.and_eq_true, beq_iff_eq] at hp
          exact ih.2 ⟨x, hx, hp.1.trans he, hp.2⟩
        · exact ih.2 ⟨e, h, he, hs⟩
theorem lastD_apart (D : List DeclL) : (lastD D).Pairwise (fun a b => a.1 ≠ b.1) := by
  induction D with
  | nil => exact List.Pairwise.nil
  | cons a r ih =>
    rw [lastD]
    split
    · rename_i ha
      refine List.Pairwise.cons (fun b hb he => ?_) ih
      obtain ⟨x, hx, hn, hs⟩ := (lastD_names r b.1).1 ⟨b, hb, rfl⟩
      have h2 := List.any_eq_false.1 ha.2 x hx
      rw [hs, Bool.and_true, beq_iff_eq] at h2
      exact h2 (hn.trans he.symm)
    · exact ih
theorem lastD_same (L : List DeclL) (hs : ∀ d ∈ L, safeD d = true) (hp : L.Pairwise (fun a b => a.1 ≠ b.1)) : lastD L = L := by
  induction L with
  | nil => rfl
  | cons a r ih =>
    rw [List.pairwise_cons] at hp
    have h2 : r.any (fun e => e.1 == a.1 && safeD e) = false := by
      rw [List.any_eq_false]
      intro x hx
      rw [Bool.and_eq_true, beq_iff_eq]
      intro h
      exact hp.1 x hx h.1.symm
    rw [lastD, if_pos ⟨hs a (List.mem_cons_self ..), h2⟩, ih (fun d h => hs d (List.mem_cons_of_mem _ h)) hp.2]

/-! ### calm bytes -/
def calmB (c : UInt8) : Bool := !(c == 34 || c == 39 || c == 40 || c == 59)
theorem calm_not (c : UInt8) (h : calmB c = true) : c ≠ 34 ∧ c ≠ 39 ∧ c ≠ 40 ∧ c ≠ 59 :=
  u8_all (p := fun c => calmB c = true → c ≠ 34 ∧ c ≠ 39 ∧ c ≠ 40 ∧ c ≠ 59) (by decide +kernel) c h
theorem calm_of (c : UInt8) (h1 : c ≠ 34) (h2 : c ≠ 39) (h3 : c ≠ 40) (h4 : c ≠ 59) : calmB c = true := by
  unfold calmB
  rw [beq_eq_false_iff_ne.2 h1, beq_eq_false_iff_ne.2 h2, beq_eq_false_iff_ne.2 h3, beq_eq_false_iff_ne.2 h4]; rfl
theorem step_calm (c : UInt8) (h : calmB c = true) : cstep st0 c = (st0, false) :=
  u8_all (p := fun c => calmB c = true → cstep st0 c = (st0, false)) (by decide +kernel) c h
theorem step_semi : cstep st0 59 = (st0, true) := by decide
theorem pcs_calm (p : List UInt8) (h : ∀ c ∈ p, calmB c = true) (cur r : List UInt8) : pcs st0 cur (p ++ r) = pcs st0 (cur ++ p) r := by
  induction p generalizing cur with
  | nil => simp
  | cons c t ih =>
    have hc := step_calm c (h c (List.mem_cons_self ..))
    rw [List.cons_append, pcs_go (by rw [hc]), hc, ih (fun x hx => h x (List.mem_cons_of_mem _ hx))]
    simp
theorem pcs_semi (cur r : List UInt8) : pcs st0 cur (59 :: r) = cur :: pcs st0 [] r := by
  rw [pcs_end (by rw [step_semi]), step_semi]
theorem pcs_join (s : List UInt8) (h : ∀ c ∈ s, ¬ (c = 34 ∨ c = 39 ∨ c = 40)) (t cur : List UInt8) : pcs st0 cur (s ++ 59 :: t) = pcs st0 cur s ++ pcs st0 [] t := by
  induction s generalizing cur with
  | nil => rw [List.nil_append, pcs_semi]; rfl
  | cons c r ih =>
    have hc := h c (List.mem_cons_self ..)
    have hr := fun cur => ih (fun x hx => h x (List.mem_cons_of_mem _ hx)) cur
    by_cases h59 : c = 59
    · subst h59
      rw [List.cons_append, pcs_semi, pcs_semi, hr]; rfl
    · have hs := step_calm c (calm_of c (fun e => hc (.inl e)) (fun e => hc (.inr (.inl e))) (fun e => hc (.inr (.inr e))) h59)
      rw [List.cons_append, pcs_go (by rw [hs]), hs, hr, pcs_go (by rw [hs]), hs]
theorem cut_join (s t : List UInt8) (h : ∀ c ∈ s, ¬ (c = 34 ∨ c = 39 ∨ c = 40)) : cutD (s ++ 59 :: t) = cutD s ++ cutD t := by
  unfold cutD
  rw [pcs_join s h t [], List.filterMap_append]
/-- names and values that may be -/
theorem cssName_good : cssNames.all (fun n => !n.isEmpty && n.all (fun c => calmB c && c != 58 && !spaceB c && lowC c == c)) = true := by decide +kernel
theorem mark_calm (c : UInt8) (h : markB cssMarks c = true) : calmB c = true ∧ (spaceB c = true → c = 32) :=
  u8_all (p := fun c => markB cssMarks c = true → (calmB c = true ∧ (spaceB c = true → c = 32))) (by decide +kernel) c h
theorem name_facts {n : List UInt8} (h : cssNames.contains n = true) : n ≠ [] ∧ (∀ c ∈ n, calmB c = true ∧ c ≠ 58 ∧ spaceB c = false) ∧ lowL n = n ∧ trimV n = n := by
  have hm : n ∈ cssNames := by simpa using h
  have h1 := List.all_eq_true.1 cssName_good n hm
  rw [Bool.and_eq_true] at h1
  have h2 := List.all_eq_true.1 h1.2
  have h3 : ∀ c ∈ n, calmB c = true ∧ c ≠ 58 ∧ spaceB c = false ∧ lowC c = c := by
    intro c hc
    have := h2 c hc
    simp at this
    exact ⟨this.1.1.1, this.1.1.2, this.1.2, this.2⟩
  refine ⟨fun e => by rw [e] at h1; exact absurd h1.1 (by decide), fun c hc => ⟨(h3 c hc).1, (h3 c hc).2.1, (h3 c hc).2.2.1⟩, ?_, ?_⟩
  · unfold lowL
    conv => rhs; rw [← List.map_id n]
    exact List.map_congr_left fun c hc => (h3 c hc).2.2.2
  · have e1 : ∀ l : List UInt8, (∀ c ∈ l, spaceB c = false) → leftW l = l := by
      intro l hl
      cases l with
      | nil => rfl
      | cons a r => rw [leftW_cons, hl a (List.mem_cons_self ..)]; rfl
    have hsp : ∀ c ∈ n, spaceB c = false := fun c hc => (h3 c hc).2.2.1
    unfold trimV
    rw [e1 n hsp]
    unfold rightW
    have := e1 n.reverse (fun c hc => hsp c (List.mem_reverse.1 hc))
    unfold leftW at this
    rw [this, List.reverse_reverse]
theorem safe_facts {d : DeclL} (h : safeD d = true) : cssNames.contains d.1 = true ∧ d.2 ≠ [] ∧ d.2.length ≤ 100 ∧ ∀ c ∈ d.2, markB cssMarks c = true := by
  unfold safeD at h
  rw [Bool.and_eq_true, Bool.and_eq_true, Bool.and_eq_true, decide_eq_true_eq, List.all_eq_true] at h
  exact ⟨h.1, fun e => by rw [e] at h; exact absurd h.2.1 (by decide), h.2.2.1, h.2.2.2⟩
theorem split58 {m b : List UInt8} (h : ∀ c ∈ m, c ≠ 58) : beforeC 58 (m ++ 58 :: b) = m ∧ afterC 58 (m ++ 58 :: b) = b := by
  unfold beforeC afterC
  have : (m ++ 58 :: b).takeWhile (fun x => x != 58) = m ∧ (m ++ 58 :: b).dropWhile (fun x => x != 58) = 58 :: b := by
    induction m with
    | nil => simp
    | cons a r ih =>
      have ha := h a (List.mem_cons_self ..)
      have := ih (fun x hx => h x (List.mem_cons_of_mem _ hx))
      simp [ha, this.1, this.2]
  rw [this.1, this.2]; exact ⟨rfl, rfl⟩
/-- a declaration, with white ahead, between and behind, is read -/
theorem declL_of {n v a b c : List UInt8} (hn : cssNames.contains n = true) (hv : trimV v = v) (hv0 : v ≠ []) (ha : trimV (a ++ n ++ b) = n) (hb : ∀ x ∈ a ++ b, x ≠ 58) (hc : trimV c = v) : declL (a ++ n ++ b ++ 58 :: c) = some (n, v) := by
  obtain ⟨h1, h2, h3, h4⟩ := name_facts hn
  have h58 : ∀ x ∈ a ++ n ++ b, x ≠ 58 := by
    intro x hx
    rcases List.mem_append.1 hx with hx | hx
    · rcases List.mem_append.1 hx with hx | hx
      · exact hb x (List.mem_append_left _ hx)
      · exact (h2 x hx).2.1
    · exact hb x (List.mem_append_right _ hx)
  obtain ⟨e1, e2⟩ := split58 (b := c) h58
  unfold declL
  rw [e1, e2, ha, hc, h3, if_neg (fun e => e.elim h1 hv0)]
def cssGood (L : List DeclL) : Prop := ∀ d ∈ L, safeD d = true ∧ trimV d.2 = d.2
theorem show_calm {d : DeclL} (h : safeD d = true) : ∀ c ∈ showD d, calmB c = true := by
  obtain ⟨h1, h2, h3, h4⟩ := safe_facts h
  intro c hc
  unfold showD at hc
  rcases List.mem_append.1 hc with hc | hc
  · exact ((name_facts h1).2.1 c hc).1
  · rcases List.mem_cons.1 hc with rfl | hc
    · decide
    · rcases List.mem_cons.1 hc with rfl | hc
      · decide
      · exact (mark_calm c (h4 c hc)).1
theorem decl_show {d : DeclL} (h : safeD d = true) (ht : trimV d.2 = d.2) : declL (showD d) = some d ∧ declL ([32] ++ showD d) = some d := by
  obtain ⟨h1, h2, h3, h4⟩ := safe_facts h
  have hn := (name_facts h1).2.2.2
  have ht2 : trimV (32 :: d.2) = d.2 := by rw [trimV_cons (by decide), ht]
  constructor
  · have := declL_of (a := []) (b := []) (c := 32 :: d.2) h1 ht h2 (by simpa using hn) (by simp) ht2
    simpa [showD] using this
  · have := declL_of (a := [32]) (b := []) (c := 32 :: d.2) h1 ht h2 (by simp only [List.append_nil]; show trimV (32 :: d.1) = d.1; rw [trimV_cons (by decide), hn]) (by simp) ht2
    simpa [showD] using this
theorem cut_joinD (L : List DeclL) (h : cssGood L) : ∀ cur, cur = [] ∨ cur = [32] → (pcs st0 cur (joinD L)).filterMap declL = L := by
  induction L with
  | nil =>
    intro cur hc
    rcases hc with rfl | rfl
    · decide
    · decide
  | cons d r ih =>
    intro cur hc
    obtain ⟨hs, ht⟩ := h d (List.mem_cons_self ..)
    obtain ⟨d1, d2⟩ := decl_show hs ht
    have hd : declL (cur ++ showD d) = some d := by
      rcases hc with rfl | rfl
      · exact d1
      · exact d2
    cases r with
    | nil =>
      show (pcs st0 cur (showD d)).filterMap declL = _
      have := pcs_calm (showD d) (show_calm hs) cur []
      rw [List.append_nil] at this
      rw [this, pcs, List.filterMap_cons, hd]; rfl
    | cons e r =>
      show (pcs st0 cur (showD d ++ 59 :: 32 :: joinD (e :: r))).filterMap declL = _
      rw [pcs_calm (showD d) (show_calm hs), pcs_semi, List.filterMap_cons, hd]
      have h32 := step_calm 32 (by decide)
      rw [pcs_go (by rw [h32]), h32]
      simp only
      rw [List.nil_append, ih (fun x hx => h x (List.mem_cons_of_mem _ hx)) [32] (.inr rfl)]
theorem cutD_trim (l : List UInt8) : ∀ d ∈ cutD l, trimV d.2 = d.2 := by
  intro d hd
  obtain ⟨p, _, hp⟩ := List.mem_filterMap.1 hd
  rw [(declL_some hp).2.1, trimV_idem]
theorem last_good (l : List UInt8) : cssGood (lastD (cutD l)) := fun d hd => ⟨lastD_safe _ d hd, cutD_trim l d ((lastD_sub _).subset hd)⟩
theorem cut_clean (l : List UInt8) : cutD (cleanD l) = lastD (cutD l) := cut_joinD _ (last_good l) [] (.inl rfl)
theorem clean_cleanD (l : List UInt8) : cleanD (cleanD l) = cleanD l := by
  unfold cleanD
  rw [show cutD (joinD (lastD (cutD l))) = lastD (cutD l) from cut_clean l, lastD_same _ (lastD_safe _) (lastD_apart _)]
/-- the bytes of what is clean -/
def quietB (c : UInt8) : Bool := markB cssMarks c || c == 58 || c == 59
theorem quiet_name : cssNames.all (fun n => n.all quietB) = true := by decide +kernel
theorem joinD_quiet (L : List DeclL) (h : ∀ d ∈ L, safeD d = true) : ∀ c ∈ joinD L, quietB c = true := by
  have hshow : ∀ d : DeclL, safeD d = true → ∀ c ∈ showD d, quietB c = true := by
    intro d hd c hc
    obtain ⟨h1, _, _, h4⟩ := safe_facts hd
    unfold showD at hc
    rcases List.mem_append.1 hc with hc | hc
    · exact List.all_eq_true.1 (List.all_eq_true.1 quiet_name d.1 (by simpa using h1)) c hc
    · rcases List.mem_cons.1 hc with rfl | hc
      · decide
      · rcases List.mem_cons.1 hc with rfl | hc
        · decide
        · unfold quietB; rw [h4 c hc]; rfl
  induction L with
  | nil => intro c hc; cases hc
  | cons d r ih =>
    cases r with
    | nil => exact hshow d (h d (List.mem_cons_self ..))
    | cons e r =>
      intro c hc
      have hc' : c ∈ showD d ++ 59 :: 32 :: joinD (e :: r) := hc
      rcases List.mem_append.1 hc' with hc | hc
      · exact hshow d (h d (List.mem_cons_self ..)) c hc
      · rcases List.mem_cons.1 hc with rfl | hc
        · decide
        · rcases List.mem_cons.1 hc with rfl | hc
          · decide
          · exact ih (fun x hx => h x (List.mem_cons_of_mem _ hx)) c hc
theorem clean_quiet (l : List UInt8) : ∀ c ∈ cleanD l, quietB c = true := joinD_quiet _ (lastD_safe _)
theorem joinD_len (L : List DeclL) : (joinD L).length ≤ 4 * declW L := by
  unfold declW
  induction L with
  | nil => exact Nat.le_refl _
  | cons d r ih =>
    have hs : (showD d).length = d.1.length + d.2.length + 2 := by unfold showD; simp; omega
    cases r with
    | nil =>
      show (showD d).length ≤ _
      rw [hs]; simp; omega
    | cons e r =>
      show (showD d ++ 59 :: 32 :: joinD (e :: r)).length ≤ _
      rw [List.length_append, hs, List.length_cons, List.length_cons, List.map_cons, List.sum_cons]
      omega
theorem declW_sub {A B : List DeclL} (h : A.Sublist B) : declW A ≤ declW B := by
  unfold declW
  induction h with
  | slnil => exact Nat.le_refl _
  | cons a _ ih => rw [List.map_cons, List.sum_cons]; omega
  | cons_cons a _ ih => rw [List.map_cons, List.sum_cons, List.map_cons, List.sum_cons]; omega
theorem clean_len (l : List UInt8) : (cleanD l).length ≤ 4 * (l.length + 1) := by
  have h1 := joinD_len (lastD (cutD l))
  have h2 := declW_sub (lastD_sub (cutD l))
  have h3 := cutD_weight l
  unfold cleanD; omega
end Go.Proofs.YtklbdobofclofaaGreatDoor

/- PURE: layer 18: a value as it is let through, whether it is blocked; what is let through is let through again. No statement is proved here. Own work of the verifier. -/
namespace Go.Proofs.YtklbdobofclofaaGreatDoor
set_option linter.unusedVariables false
set_option linter.unusedSimpArgs false
/-- a file's name, kind, id and bytes -/
structure FileL where
  name : List UInt8
  kind : List UInt8
  id : List UInt8
  bytes : List UInt8
def imageL : List UInt8 := [105, 109, 97, 103, 101, 47]
def attL : List UInt8 := [97, 116, 116, 58]
def imgB (f : FileL) : Bool := imageL.isPrefixOf f.kind
def imgAt (F : List FileL) (n : Nat) : Bool := match F[n]? with
  | some f => imgB f
  | none => false
theorem imgAt_lt {F : List FileL} {n : Nat} (h : imgAt F n = true) : n < F.length := by
  rcases Nat.lt_or_ge n F.length with h1 | h1
  · exact h1
  · unfold imgAt at h
    rw [List.getElem?_eq_none h1] at h
    cases h
theorem imgAt_at {F : List FileL} {n : Nat} (h : n < F.length) : imgAt F n = imgB F[n] := by
  unfold imgAt
  rw [List.getElem?_eq_getElem h]
theorem imgAt_off {F : List FileL} {n : Nat} (h : F.length ≤ n) : imgAt F n = false := by
  unfold imgAt
  rw [List.getElem?_eq_none h]
/-- a number below 100 in decimals -/
def numL (n : Nat) : List UInt8 := if n < 10 then [UInt8.ofNat (48 + n)] else [UInt8.ofNat (48 + n / 10), UInt8.ofNat (48 + n % 10)]
theorem dec_num (n : Nat) (h : n < 100) : Lib.decDigits n = numL n := by
  unfold numL
  by_cases h1 : n < 10
  · rw [if_pos h1, Lib.decDigits, dif_pos h1]
  · rw [if_neg h1, Lib.decDigits, dif_neg h1, Lib.decDigits, dif_pos (by omega)]; rfl
def attN (n : Nat) : List UInt8 := attL ++ numL n
def dropAtt (l : List UInt8) : List UInt8 := if attL.isPrefixOf l = true then l.drop 4 else l
def parse31 (l : List UInt8) : Option Nat := match Lib.parseUintB 31 l with
  | .ok n => some n
  | _ => none
theorem below100 {p : Nat → Bool} (h : (List.range 100).all p = true) {n : Nat} (hn : n < 100) : p n = true := List.all_eq_true.1 h n (List.mem_range.2 hn)
theorem parse_att {n : Nat} (hn : n < 100) : parse31 (dropAtt (attN n)) = some n := by
  have := below100 (p := fun n => parse31 (dropAtt (attN n)) == some n) (by decide +kernel) hn
  simpa using this
theorem clean_att {n : Nat} (hn : n < 100) : lkClean (attN n) = attN n := by
  have := below100 (p := fun n => lkClean (attN n) == attN n) (by decide +kernel) hn
  simpa using this
theorem att_kind (r : List UInt8) : lkKind (97 :: 116 :: 116 :: 58 :: r) = 5 := by
  have h : schL ([97, 116, 116] ++ 58 :: r) = some (lowL [97, 116, 116], r) := schL_of (by decide) (by decide)
  rw [show (97 :: 116 :: 116 :: 58 :: r : List UInt8) = [97, 116, 116] ++ 58 :: r from rfl, lkKind_some h]
  rfl
theorem attN_kind (n : Nat) : lkKind (attN n) = 5 := att_kind _
/-- the picture of a number that an address tells -/
def byNum (F : List FileL) (c : List UInt8) : Option (List UInt8) := match parse31 (dropAtt c) with
  | some n => if imgAt F n = true ∧ attN n = c then some c else none
  | none => none
def refNum (F : List FileL) (c : List UInt8) : Option (List UInt8) := if (List.range F.length).any (fun i => imgAt F i && (c == attN i)) = true then some c else none
theorem byNum_ref (F : List FileL) (c : List UInt8) (hF : F.length ≤ 100) : byNum F c = refNum F c := by
  unfold byNum refNum
  by_cases h : (List.range F.length).any (fun i => imgAt F i && (c == attN i)) = true
  · rw [if_pos h]
    obtain ⟨i, hi, h2⟩ := List.any_eq_true.1 h
    have hi := List.mem_range.1 hi
    rw [Bool.and_eq_true, beq_iff_eq] at h2
    obtain ⟨h2, h3⟩ := h2
    rw [h3, parse_att (by omega)]
    simp [h2]
  · rw [if_neg h]
    cases hp : parse31 (dropAtt c) with
    | none => rfl
    | some n =>
      refine if_neg fun hc => h (List.any_eq_true.2 ⟨n, List.mem_range.2 (imgAt_lt hc.1), ?_⟩)
      rw [hc.1, hc.2]; simp
theorem refNum_some {F : List FileL} {c s : List UInt8} (h : refNum F c = some s) : s = c ∧ ∃ i, i < F.length ∧ imgAt F i = true ∧ c = attN i := by
  unfold refNum at h
  split at h
  · rename_i hc
    obtain ⟨i, hi, h2⟩ := List.any_eq_true.1 hc
    rw [Bool.and_eq_true, beq_iff_eq] at h2
    injection h with h
    exact ⟨h.symm, i, List.mem_range.1 hi, h2.1, h2.2⟩
  · cases h
theorem refNum_att {F : List FileL} {i : Nat} (h : imgAt F i = true) : refNum F (attN i) = some (attN i) := by
  unfold refNum
  refine if_pos (List.any_eq_true.2 ⟨i, List.mem_range.2 (imgAt_lt h), ?_⟩)
  rw [h]; simp
/-- the number of the first file of an id -/
def findK (d : List UInt8) : List FileL → Nat → Option Nat
  | [], _ => none
  | f :: r, k => if (f.id == d) = true then some k else findK d r (k + 1)
def findL (F : List FileL) (d : List UInt8) : Option Nat := if d = [] then none else findK d F 0
def byId (F : List FileL) (c : List UInt8) : Option (List UInt8) := match findL F (afterC 58 c) with
  | some n => if imgAt F n = true then some (attN n) else none
  | none => none
def srcL (rem : Bool) (F : List FileL) (c : List UInt8) : Option (List UInt8) :=
  if lkKind c = 4 then byId F c else if lkKind c = 2 then (if rem = true then some c else none) else byNum F c
def srcR (rem : Bool) (F : List FileL) (c : List UInt8) : Option (List UInt8) :=
  if lkKind c = 4 then byId F c else if lkKind c = 2 ∧ rem = true then some c else refNum F c
theorem refNum_other {F : List FileL} {c : List UInt8} (h : lkKind c ≠ 5) : refNum F c = none := by
  cases hr : refNum F c with
  | none => rfl
  | some s =>
    obtain ⟨_, i, _, _, rfl⟩ := refNum_some hr
    exact absurd (attN_kind i) h
theorem src_ref (rem : Bool) (F : List FileL) (c : List UInt8) (hF : F.length ≤ 100) : srcL rem F c = srcR rem F c := by
  unfold srcL srcR
  by_cases h4 : lkKind c = 4
  · rw [if_pos h4, if_pos h4]
  · rw [if_neg h4, if_neg h4]
    by_cases h2 : lkKind c = 2
    · rw [if_pos h2]
      cases rem with
      | true => rw [if_pos rfl, if_pos (show lkKind c = 2 ∧ true = true from ⟨h2, rfl⟩)]
      | false => rw [if_neg (by decide), if_neg (show ¬ (lkKind c = 2 ∧ false = true) from fun e => by cases e.2), refNum_other (by omega)]
    · rw [if_neg h2, if_neg (fun e => h2 e.1), byNum_ref F c hF]
def keepO (b : Bool) (v : List UInt8) : Option (List UInt8) := if b = true then some v else none
def hrefB (v : List UInt8) : Bool := decide (1 ≤ lkKind (lkClean v)) && decide (lkKind (lkClean v) ≤ 3)
def styleB (sty : Bool) (v : List UInt8) : Bool := sty && !(cleanD v).isEmpty
def dirB (v : List UInt8) : Bool := v == [108, 116, 114] || (v == [114, 116, 108] || v == [97, 117, 116, 111])
def langB (v : List UInt8) : Bool := !v.isEmpty && (decide (v.length ≤ 20) && v.all (markB [45]))
def digsB (v : List UInt8) : Bool := !v.isEmpty && (decide (v.length ≤ 4) && v.all digitB)
def n_href : List UInt8 := [104, 114, 101, 102]
def n_src : List UInt8 := [115, 114, 99]
def n_style : List UInt8 := [115, 116, 121, 108, 101]
def n_dir : List UInt8 := [100, 105, 114]
def n_lang : List UInt8 := [108, 97, 110, 103]
def n_title : List UInt8 := [116, 105, 116, 108, 101]
def n_alt : List UInt8 := [97, 108, 116]
/-- a value of an attribute of that name, as it is let through -/
def valN (rem sty : Bool) (F : List FileL) (n v : List UInt8) : Option (List UInt8) :=
  if n = n_href then keepO (hrefB v) (lkClean v) else if n = n_src then srcL rem F (lkClean v) else if n = n_style then keepO (styleB sty v) (cleanD v)
  else if n = n_dir then keepO (dirB v) v else if n = n_lang then keepO (langB v) v else if n = n_title then some v else if n = n_alt then some v else keepO (digsB v) v
def valL (rem sty : Bool) (F : List FileL) (e n v : List UInt8) : Option (List UInt8) := if attrB e n = true then valN rem sty F n v else none
/-- would a value load something that is not let in? -/
def loadB (rem : Bool) (c : List UInt8) : Bool := if lkKind c = 1 then true else if lkKind c = 2 then !rem else if lkKind c = 0 then !c.isEmpty else false
def blockB (rem : Bool) (e n v : List UInt8) : Bool := if e = [105, 109, 103] ∧ n = n_src then loadB rem (lkClean v) else false
theorem keepO_some {b : Bool} {v s : List UInt8} (h : keepO b v = some s) : b = true ∧ s = v := by
  unfold keepO at h
  split at h
  · rename_i hb; injection h with h; exact ⟨hb, h.symm⟩
  · cases h
theorem keepO_true {b : Bool} (v : List UInt8) (h : b = true) : keepO b v = some v := if_pos h
/-- what is told of an address that is let through -/
theorem srcL_some {rem : Bool} {F : List FileL} {c s : List UInt8} (hF : F.length ≤ 100) (h : srcL rem F c = some s) :
    (∃ i, i < F.length ∧ imgAt F i = true ∧ s = attN i) ∨ (rem = true ∧ lkKind c = 2 ∧ s = c) := by
  rw [src_ref rem F c hF] at h
  unfold srcR at h
  by_cases h4 : lkKind c = 4
  · rw [if_pos h4] at h
    unfold byId at h
    cases hf : findL F (afterC 58 c) with
    | none => rw [hf] at h; cases h
    | some n =>
      rw [hf] at h
      simp only at h
      split at h
      · rename_i hn
        injection h with h
        exact .inl ⟨n, imgAt_lt hn, hn, h.symm⟩
      · cases h
  · rw [if_neg h4] at h
    by_cases h2 : lkKind c = 2 ∧ rem = true
    · rw [if_pos h2] at h
      injection h with h
      exact .inr ⟨h2.2, h2.1, h.symm⟩
    · rw [if_neg h2] at h
      obtain ⟨e, i, h1, h3, h5⟩ := refNum_some h
      exact .inl ⟨i, h1, h3, by rw [e, h5]⟩
theorem srcL_again {rem : Bool} {F : List FileL} {v s : List UInt8} (hF : F.length ≤ 100) (h : srcL rem F (lkClean v) = some s) :
    srcL rem F (lkClean s) = some s ∧ loadB rem (lkClean s) = false := by
  rcases srcL_some hF h with ⟨i, h1, h2, rfl⟩ | ⟨h1, h2, rfl⟩
  · rw [clean_att (by omega), src_ref _ _ _ hF]
    unfold srcR loadB
    rw [attN_kind, refNum_att h2]
    simp
  · rw [clean_clean]
    refine ⟨h, ?_⟩
    unfold loadB
    rw [h2, h1]
    simp
theorem val_again {rem sty : Bool} {F : List FileL} {e n v s : List UInt8} (hF : F.length ≤ 100) (h : valL rem sty F e n v = some s) :
    valL rem sty F e n s = some s ∧ blockB rem e n s = false ∧ attrB e n = true := by
  unfold valL at h
  split at h
  · rename_i ha
    refine ⟨?_, ?_, ha⟩
    · unfold valL
      rw [if_pos ha]
      unfold valN at h ⊢
      repeat' (split at h)
      all_goals (first | rw [if_pos (by assumption)] | rw [if_neg (by assumption)])
      · obtain ⟨h1, rfl⟩ := keepO_some h
        unfold hrefB at h1 ⊢
        rw [clean_clean]
        exact keepO_true _ h1
      all_goals (first | rw [if_pos (by assumption)] | rw [if_neg (by assumption)])
      · exact (srcL_again hF h).1
      all_goals (first | rw [if_pos (by assumption)] | rw [if_neg (by assumption)])
      · obtain ⟨h1, rfl⟩ := keepO_some h
        unfold styleB at h1 ⊢
        rw [clean_cleanD]
        exact keepO_true _ h1
      all_goals (first | rw [if_pos (by assumption)] | rw [if_neg (by assumption)])
      · obtain ⟨h1, rfl⟩ := keepO_some h
        exact keepO_true _ h1
      all_goals (first | rw [if_pos (by assumption)] | rw [if_neg (by assumption)])
      · obtain ⟨h1, rfl⟩ := keepO_some h
        exact keepO_true _ h1
      all_goals (first | rw [if_pos (by assumption)] | rw [if_neg (by assumption)])
      all_goals (try (first | rw [if_pos (by assumption)] | rw [if_neg (by assumption)]))
      · obtain ⟨h1, rfl⟩ := keepO_some h
        exact keepO_true _ h1
    · unfold blockB
      split
      · rename_i hb
        unfold valN at h
        rw [if_neg (by rw [hb.2]; decide), if_pos hb.2] at h
        exact (srcL_again hF h).2
      · rfl
  · cases h
/-- does a text begin with another, with large letters held to be small? -/
def begB (s t : List UInt8) : Bool := decide (t.length ≤ s.length) && (lowL (s.take t.length) == t)
theorem begB_of {m b t : List UInt8} (h : lowL m ++ [58] = t) : begB (m ++ 58 :: b) t = true := by
  have hl : t.length = m.length + 1 := by rw [← h]; simp [lowL]
  unfold begB
  rw [hl, decide_eq_true (by simp)]
  rw [show m ++ 58 :: b = (m ++ [58]) ++ b by simp, List.take_left' (by simp), ← h]
  simp [lowL, lowC]
def b_http : List UInt8 := [104, 116, 116, 112, 58]
def b_https : List UInt8 := [104, 116, 116, 112, 115, 58]
def b_mailto : List UInt8 := [109, 97, 105, 108, 116, 111, 58]
theorem kind_begins {c : List UInt8} (h1 : 1 ≤ lkKind c) (h3 : lkKind c ≤ 3) : (begB c b_http || begB c b_https || begB c b_mailto) = true ∧ (lkKind c = 2 → begB c b_https = true) := by
  cases hs : schL c with
  | none => rw [lkKind_none hs] at h1; omega
  | some p =>
    obtain ⟨n, b⟩ := p
    obtain ⟨m, rfl, rfl, _, _⟩ := schL_some hs
    rw [lkKind_some hs] at h1 h3 ⊢
    unfold lkKindOf at h1 h3 ⊢
    by_cases g1 : lowL m = httpL
    · rw [if_pos g1]
      have : begB (m ++ 58 :: b) b_http = true := begB_of (by rw [g1]; rfl)
      refine ⟨by rw [this]; rfl, fun e => ?_⟩
      split at e <;> omega
    · rw [if_neg g1] at h1 h3 ⊢
      by_cases g2 : lowL m = httpsL
      · have : begB (m ++ 58 :: b) b_https = true := begB_of (by rw [g2]; rfl)
        exact ⟨by rw [this]; simp, fun _ => this⟩
      · rw [if_neg g2] at h1 h3 ⊢
        by_cases g3 : lowL m = mailL
        · have : begB (m ++ 58 :: b) b_mailto = true := begB_of (by rw [g3]; rfl)
          refine ⟨by rw [this]; simp, fun e => ?_⟩
          rw [if_pos g3] at e; omega
        · rw [if_neg g3] at h3
          split at h3 <;> omega
theorem val_href {rem sty : Bool} {F : List FileL} {e v s : List UInt8} (h : valL rem sty F e n_href v = some s) :
    (begB s b_http || begB s b_https || begB s b_mailto) = true ∧ e = [97] := by
  unfold valL at h
  split at h
  · rename_i ha
    have h' : keepO (hrefB v) (lkClean v) = some s := h
    obtain ⟨h1, rfl⟩ := keepO_some h'
    unfold hrefB at h1
    rw [Bool.and_eq_true, decide_eq_true_eq, decide_eq_true_eq] at h1
    refine ⟨(kind_begins h1.1 h1.2).1, ?_⟩
    have : (e == [97]) = true := ha
    simpa using this
  · cases h
theorem val_src {rem sty : Bool} {F : List FileL} {e v s : List UInt8} (hF : F.length ≤ 100) (h : valL rem sty F e n_src v = some s) :
    ((List.range F.length).any (fun i => (s == attN i) && imgAt F i) || (rem && begB s b_https)) = true ∧ e = [105, 109, 103] := by
  unfold valL at h
  split at h
  · rename_i ha
    have h' : srcL rem F (lkClean v) = some s := h
    refine ⟨?_, ?_⟩
    · rcases srcL_some hF h' with ⟨i, h1, h2, rfl⟩ | ⟨h1, h2, rfl⟩
      · have : (List.range F.length).any (fun j => (attN i == attN j) && imgAt F j) = true := List.any_eq_true.2 ⟨i, List.mem_range.2 h1, by rw [h2]; simp⟩
        rw [this]; rfl
      · rw [h1, (kind_begins (by omega) (by omega)).2 h2]; simp
    · have : (e == [105, 109, 103]) = true := ha
      simpa using this
  · cases h
theorem val_other {rem sty : Bool} {F : List FileL} {e n v s : List UInt8} (h : valL rem sty F e n v = some s) : attrsL.contains n = true := by
  unfold valL at h
  split at h
  · rename_i ha
    cases hc : attrsL.contains n with
    | true => rfl
    | false => rw [attrB_none e n hc] at ha; cases ha
  · cases h
theorem val_off_src (e v : List UInt8) : valL false false [] e n_src v = none := by
  unfold valL
  split
  · show srcL false [] (lkClean v) = none
    rw [src_ref _ _ _ (by decide)]
    unfold srcR
    split
    · unfold byId findL
      split
      · rename_i n hn
        split at hn
        · cases hn
        · cases hn
      · rfl
    · rw [if_neg (fun h => by cases h.2)]
      rfl
  · rfl
theorem val_off_style (e v : List UInt8) : valL false false [] e n_style v = none := by
  unfold valL
  split
  · rfl
  · rfl
def n_srcset : List UInt8 := [115, 114, 99, 115, 101, 116]
theorem val_off_set (e v : List UInt8) : valL true true [] e n_srcset v = none := by
  unfold valL
  rw [attrB_none e n_srcset (by decide)]; rfl
/-- the reference's way: kind 0 is no `att:` -/
theorem near_att {c : List UInt8} (h : lkKind c = 0) : attL.isPrefixOf c = false := by
  cases hp : attL.isPrefixOf c with
  | false => rfl
  | true =>
    obtain ⟨r, rfl⟩ := List.isPrefixOf_iff_prefix.1 hp
    have := att_kind r
    rw [show (97 :: 116 :: 116 :: 58 :: r : List UInt8) = attL ++ r from rfl] at this
    omega
end Go.Proofs.YtklbdobofclofaaGreatDoor

/- WALKS of strconv.ParseUint at base 10 and 31 bits, at any text. No statement is proved here. Own work of the verifier. -/
namespace Go.Proofs.YtklbdobofclofaaGreatDoor
open Go.RowKit
set_option linter.unusedVariables false
set_option linter.unusedSimpArgs false
set_option maxRecDepth 100000
/-- what internal/strconv.ParseUint answers -/
def n31Tup : Lib.NumEnd Nat → Value
  | .ok n => .tuple #[.int .u64 n, .nilIface]
  | .syntax => .tuple #[.int .u64 0, .iface 133 (.int .i64 2)]
  | .range => .tuple #[.int .u64 2147483647, .iface 133 (.int .i64 1)]
theorem m31_ok {acc : Nat} {c : UInt8} {r : List UInt8} (h : 48 ≤ c.toNat ∧ c.toNat ≤ 57) (ha : acc ≤ 2147483647) (ho : acc * 10 + (c.toNat - 48) ≤ 2147483647) : Lib.parseUintM 2147483647 acc (c :: r) = Lib.parseUintM 2147483647 (acc * 10 + (c.toNat - 48)) r := by
  rw [Lib.parseUintM, if_pos h, if_neg (by omega), if_neg (by omega)]
theorem m31_over {acc : Nat} {c : UInt8} {r : List UInt8} (h : 48 ≤ c.toNat ∧ c.toNat ≤ 57) (ha : acc ≤ 2147483647) (ho : 2147483647 < acc * 10 + (c.toNat - 48)) : Lib.parseUintM 2147483647 acc (c :: r) = .range := by
  rw [Lib.parseUintM, if_pos h, if_neg (by omega), if_pos (by omega)]
theorem m31_bad {acc : Nat} {c : UInt8} {r : List UInt8} (h : ¬ (48 ≤ c.toNat ∧ c.toNat ≤ 57)) : Lib.parseUintM 2147483647 acc (c :: r) = .syntax := by
  rw [Lib.parseUintM, if_neg h]
set_option maxHeartbeats 8000000 in
theorem iparse31_any (s : ByteArray) (w : World) (hs : s.size ≤ 1048576) (h0 : s.size ≠ 0) :
    Calls Tryz.prog 93 #[.string s, .int .i64 10, .int .i64 31] w fun e w' => e = .returned (n31Tup (Lib.parseUintM 2147483647 0 s.data.toList)) ∧ Below w.heap.size w w' := by
  have hemp : s.toList.isEmpty = false := (sizeP h0).2
  have hmv : IntKind.u64.wrap (IntKind.u64.wrap 2147483648 - 1) = 2147483647 := by
    rw [IntKind.wrap_u64, IntKind.wrap_u64]
    decide
  go_enter Tryz.func93, Tryz.ntmps93
  go_wp2_with (refine wpList_bytes rfl _ rfl s rfl ?_; intro cap w0 ha0; have HA0 := hide ha0; clear ha0)
  go_loopw [12, 13, 101] (fun un nv i wr => ∃ k n : Nat, un = .bool false ∧ k ≤ s.size ∧ i = .int .i64 k ∧ nv = .int .u64 n ∧ Hid (n ≤ 2147483647) ∧ Hid (Lib.parseUintM 2147483647 n (s.data.toList.drop k) = Lib.parseUintM 2147483647 0 s.data.toList) ∧ Hid (wr = w0)) (fun un nv i wr => s.size - (intOf i).toNat)
  case atStart => exact ⟨0, 0, rfl, Nat.zero_le _, rfl, rfl, hide (by decide), hide rfl, hide rfl⟩
  case round =>
    obtain ⟨k, n, rfl, hk, rfl, rfl, HP, HG, HW⟩ := hrel
    obtain rfl := HW.out
    by_cases hlt : k < s.size
    · have hst := HG.out
      rw [drop_cons s k hlt] at hst
      have c1 : wr.cell? ⟨w.heap.size, k, none⟩ = some (.int .u8 s[k].toNat) := HA0.out.cell k (by rw [toList_length]; exact hlt)
      by_cases g1 : 48 ≤ s[k].toNat ∧ s[k].toNat ≤ 57
      · have t1 : decide ((48 : Int) ≤ s[k].toNat) = true := decide_eq_true (by omega)
        have t2 : decide ((s[k].toNat : Int) ≤ 57) = true := decide_eq_true (by omega)
        have t3 : ((s[k].toNat : Int) == 95) = false := beq_eq_false_iff_ne.2 (by omega)
        have hp := HP.out
        by_cases ho : n * 10 + (s[k].toNat - 48) ≤ 2147483647
        · rw [m31_ok g1 hp ho] at hst
          obtain ⟨d, hd⟩ : ∃ d, s[k].toNat = 48 + d := ⟨s[k].toNat - 48, by omega⟩
          have hd2 : s[k].toNat - 48 = d := by omega
          rw [hd2] at hst ho
          have hdl : d < 10 := by omega
          have wd : IntKind.u8.wrap ((s[k].toNat : Int) - 48) = (d : Int) := by rw [hd]; rw [show ((48 + d : Nat) : Int) - 48 = d by omega]; exact IntWalk.u8_in _ (by omega)
          have HN : Hid (Lib.parseUintM 2147483647 (n * 10 + d) (s.data.toList.drop (k + 1)) = Lib.parseUintM 2147483647 0 s.data.toList) := hide hst
          have HB1 : Hid (n * 10 + d ≤ 2147483647) := hide ho
          have x0 : IntKind.u64.wrap (d : Int) = (d : Int) := IntWalk.u64_in _ (by omega)
          have x1 : IntKind.u64.wrap ((n : Int) * 10) = (n : Int) * 10 := IntWalk.u64_in _ (by omega)
          have x2 : IntKind.u64.wrap ((n : Int) * 10 + (d : Int)) = (n : Int) * 10 + d := IntWalk.u64_in _ (by omega)
          have x3 : decide ((n : Int) * 10 + (d : Int) < (n : Int) * 10) = false := decide_eq_false (by omega)
          have x4 : decide ((2147483647 : Int) < (n : Int) * 10 + (d : Int)) = false := decide_eq_false (by omega)
          have x5 : decide ((10 : Int) ≤ (d : Int)) = false := decide_eq_false (by omega)
          have x6 : decide ((1844674407370955162 : Int) ≤ (n : Int)) = false := decide_eq_false (by omega)
          clear hst hdl ho hp hd hd2 g1
          go_wp2_with fail
          go_roundw
          case rel => exact ⟨k + 1, n * 10 + d, rfl, by omega, by go_num, by first | rfl | simp, HB1, HN, by first | exact trivial | exact hide rfl⟩
          case measure => simp [intOf]; omega
        · rw [m31_over g1 hp (by omega)] at hst
          obtain ⟨d, hd⟩ : ∃ d, s[k].toNat = 48 + d := ⟨s[k].toNat - 48, by omega⟩
          have hd2 : s[k].toNat - 48 = d := by omega
          rw [hd2] at ho
          have hdl : d < 10 := by omega
          have wd : IntKind.u8.wrap ((s[k].toNat : Int) - 48) = (d : Int) := by rw [hd]; rw [show ((48 + d : Nat) : Int) - 48 = d by omega]; exact IntWalk.u8_in _ (by omega)
          have HR : Hid (Lib.parseUintM 2147483647 0 s.data.toList = .range) := hide hst.symm
          have x0 : IntKind.u64.wrap (d : Int) = (d : Int) := IntWalk.u64_in _ (by omega)
          have x1 : IntKind.u64.wrap ((n : Int) * 10) = (n : Int) * 10 := IntWalk.u64_in _ (by omega)
          have x2 : IntKind.u64.wrap ((n : Int) * 10 + (d : Int)) = (n : Int) * 10 + d := IntWalk.u64_in _ (by omega)
          have x3 : decide ((n : Int) * 10 + (d : Int) < (n : Int) * 10) = false := decide_eq_false (by omega)
          have x4 : decide ((2147483647 : Int) < (n : Int) * 10 + (d : Int)) = true := decide_eq_true (by omega)
          have x5 : decide ((10 : Int) ≤ (d : Int)) = false := decide_eq_false (by omega)
          have x6 : decide ((1844674407370955162 : Int) ≤ (n : Int)) = false := decide_eq_false (by omega)
          clear hst hdl ho hp hd hd2 g1
          go_wp2_with fail
          go_ret2
          exact ⟨by rw [HR.out]; rfl, HA0.out.below⟩
      · rw [m31_bad g1] at hst
        have HR : Hid (Lib.parseUintM 2147483647 0 s.data.toList = .syntax) := hide hst.symm
        clear hst
        have t1 : (decide ((48 : Int) ≤ s[k].toNat) && decide ((s[k].toNat : Int) ≤ 57)) = false := by
          cases q1 : decide ((48 : Int) ≤ s[k].toNat) with
          | false => rfl
          | true =>
            have := of_decide_eq_true q1
            rw [Bool.true_and]; exact decide_eq_false (by omega)
        obtain ⟨L, hL⟩ : ∃ L, (s[k] ||| 32).toNat = L := ⟨_, rfl⟩
        have ho : bits .or .u8 (s[k].toNat : Int) 32 = (L : Int) := by rw [or32, hL]
        have HC := hide (fun w1 => Tryz.internal_strconv_lower (s[k].toNat : Int) w1)
        rw [ho] at HC
        have hLl : L < 256 := by rw [← hL]; exact byte_lt _
        have hLd : 97 ≤ L → L ≤ 122 → 10 ≤ L - 87 := by omega
        have no : ∀ (P : Prop), P → P := fun _ h => h
        by_cases q1 : (48 : Int) ≤ s[k].toNat
        all_goals
          first
            | (have q1' : decide ((48 : Int) ≤ s[k].toNat) = true := decide_eq_true q1
               have q2' : decide ((s[k].toNat : Int) ≤ 57) = false := decide_eq_false (by omega))
            | (have q1' : decide ((48 : Int) ≤ s[k].toNat) = false := decide_eq_false q1)
          clear t1
          by_cases u : s[k].toNat = 95
          · have u' : ((s[k].toNat : Int) == 95) = true := by rw [beq_iff_eq]; omega
            have hL95 : L = 127 := by rw [← hL, show s[k] = 95 from UInt8.toNat_inj.1 u]; rfl
            have l1 : decide ((97 : Int) ≤ L) = true := decide_eq_true (by omega)
            have l2 : decide ((L : Int) ≤ 122) = false := decide_eq_false (by omega)
            clear hL ho u g1 q1 hLd
            go_wp2_with (go_at_call 116; refine (HC.out _).mono ?_; rintro e w1 ⟨rfl, hw1⟩; obtain rfl := hw1.symm)
            go_ret2
            exact ⟨by rw [HR.out]; rfl, HA0.out.below⟩
          · have u' : ((s[k].toNat : Int) == 95) = false := beq_eq_false_iff_ne.2 (by omega)
            by_cases l1 : 97 ≤ L
            · have l1' : decide ((97 : Int) ≤ L) = true := decide_eq_true (by omega)
              by_cases l2 : L ≤ 122
              · have l2' : decide ((L : Int) ≤ 122) = true := decide_eq_true (by omega)
                obtain ⟨d, hd⟩ : ∃ d, L = 87 + d := ⟨L - 87, by omega⟩
                have y1 : IntKind.u8.wrap ((L : Int) - 97) = ((d - 10 : Nat) : Int) := by rw [show (L : Int) - 97 = ((d - 10 : Nat) : Int) by omega]; exact IntWalk.u8_in _ (by omega)
                have y2 : IntKind.u8.wrap (((d - 10 : Nat) : Int) + 10) = (d : Int) := by rw [show ((d - 10 : Nat) : Int) + 10 = (d : Int) by omega]; exact IntWalk.u8_in _ (by omega)
                have x5 : decide ((10 : Int) ≤ (d : Int)) = true := decide_eq_true (by omega)
                clear hL ho u g1 q1 hLd hd
                go_wp2_with (go_at_call 116; refine (HC.out _).mono ?_; rintro e w1 ⟨rfl, hw1⟩; obtain rfl := hw1.symm)
                go_ret2
                exact ⟨by rw [HR.out]; rfl, HA0.out.below⟩
              · have l2' : decide ((L : Int) ≤ 122) = false := decide_eq_false (by omega)
                clear hL ho u g1 q1 hLd
                go_wp2_with (go_at_call 116; refine (HC.out _).mono ?_; rintro e w1 ⟨rfl, hw1⟩; obtain rfl := hw1.symm)
                go_ret2
                exact ⟨by rw [HR.out]; rfl, HA0.out.below⟩
            · have l1' : decide ((97 : Int) ≤ L) = false := decide_eq_false (by omega)
              clear hL ho u g1 q1 hLd
              go_wp2_with (go_at_call 116; refine (HC.out _).mono ?_; rintro e w1 ⟨rfl, hw1⟩; obtain rfl := hw1.symm)
              go_ret2
              exact ⟨by rw [HR.out]; rfl, HA0.out.below⟩
    · have HR : Hid (Lib.parseUintM 2147483647 0 s.data.toList = .ok n) := hide (by
        rw [← HG.out, drop_nil s k (by omega)]; rfl)
      go_wp2_with fail
      go_ret2
      exact ⟨by rw [HR.out]; rfl, HA0.out.below⟩
theorem iempty31_any (w : World) : Calls Tryz.prog 93 #[.string ⟨#[]⟩, .int .i64 10, .int .i64 31] w (fun e w' => e = .returned (n31Tup .syntax) ∧ Below w.heap.size w w') := by
  go_enter Tryz.func93, Tryz.ntmps93
  go_wp2_with fail
  go_ret2
  exact ⟨rfl, Below.refl _ _⟩
/-- what the errors of strconv hold -/
def EnvS (w : World) : Prop := (∃ ev, w.cell? ⟨4, 0, none⟩ = some ev ∧ (ev = .nilIface ∨ ∃ te pe, ev = .iface te pe)) ∧ ∃ ev, w.cell? ⟨5, 0, none⟩ = some ev ∧ (ev = .nilIface ∨ ∃ te pe, ev = .iface te pe)
theorem EnvS.kept {w w' : World} (h : EnvS w) (hb : Below w.heap.size w w') : EnvS w' := by
  obtain ⟨⟨a, h1, h2⟩, b, h3, h4⟩ := h
  exact ⟨⟨a, (hb.cell (World.block_lt_of_cell? _ _ h1)).trans h1, h2⟩, b, (hb.cell (World.block_lt_of_cell? _ _ h3)).trans h3, h4⟩
/-- what strconv.ParseUint answers: the number, or some error -/
def U31 (o : Option Nat) (e : Ending) : Prop := match o with
  | some n => e = .returned (.tuple #[.int .u64 n, .nilIface])
  | none => ∃ m N, e = .returned (.tuple #[.int .u64 m, .iface 136 (.pointer (some ⟨N, 0, none⟩))])
set_option maxHeartbeats 2000000 in
theorem parse31_any (s : ByteArray) (w : World) (hs : s.size ≤ 1048576) (hE : EnvS w) :
    Calls Tryz.prog 73 #[.string s, .int .i64 10, .int .i64 31] w fun e w' => U31 (parse31 s.data.toList) e ∧ Below w.heap.size w w' := by
  have key : ∃ r, Calls Tryz.prog 93 #[.string s, .int .i64 10, .int .i64 31] w (fun e w' => e = .returned (n31Tup r) ∧ Below w.heap.size w w') ∧ parse31 s.data.toList = (match r with | .ok n => some n | _ => none) := by
    by_cases h0 : s.size = 0
    · have he : s = ⟨#[]⟩ := ext_list (size0 h0).1
      subst he
      exact ⟨_, iempty31_any w, rfl⟩
    · refine ⟨_, iparse31_any s w hs h0, ?_⟩
      unfold parse31 Lib.parseUintB
      rw [if_neg (sizeP h0).1]
      all_goals rfl
  obtain ⟨⟨es, hs1, hs2⟩, er, hr1, hr2⟩ := hE
  have HS := hide (show s.size ≤ 281474976710656 by omega)
  have HSY : Hid (∀ W, Below w.heap.size w W → W.cell? ⟨4, 0, none⟩ = some es) := hide fun W hb => (hb.cell (World.block_lt_of_cell? _ _ hs1)).trans hs1
  have HRG : Hid (∀ W, Below w.heap.size w W → W.cell? ⟨5, 0, none⟩ = some er) := hide fun W hb => (hb.cell (World.block_lt_of_cell? _ _ hr1)).trans hr1
  have HS2 := hide hs2
  have HR2 := hide hr2
  clear hs1 hs2 hr1 hr2 hs
  obtain ⟨r, hc, hp⟩ := key
  have HC := hide hc
  have HP := hide hp
  clear hc hp
  cases r with
  | ok n =>
    go_enter Tryz.func73, Tryz.ntmps73
    go_wp2_with (go_at_call 93; refine HC.out.mono ?_; rintro e w1 ⟨rfl, hb1⟩; rw [show n31Tup (.ok n) = .tuple #[.int .u64 n, .nilIface] from rfl]; have HB1 := hide hb1; clear hb1)
    go_ret2
    rw [HP.out]
    exact ⟨rfl, HB1.out⟩
  | «syntax» =>
    go_enter Tryz.func73, Tryz.ntmps73
    go_wp2_with (first
      | (go_at_call 93; refine HC.out.mono ?_; rintro e w1 ⟨rfl, hb1⟩; rw [show n31Tup .syntax = .tuple #[.int .u64 0, .iface 133 (.int .i64 2)] from rfl]; have HB1 := hide hb1; clear hb1)
      | (go_at_call 94; refine (Tryz.strconv_toError_syntax _ s 10 31 es _ HS.out (HSY.out _ HB1.out) HS2.out).mono ?_; rintro e w2 ⟨N, rfl, _, _, hb2⟩; have HB2 := hide (HB1.out.trans (hb2.mono HB1.out.size)); clear hb2))
    go_ret2
    rw [HP.out]
    exact ⟨⟨_, N, rfl⟩, HB2.out⟩
  | range =>
    go_enter Tryz.func73, Tryz.ntmps73
    go_wp2_with (first
      | (go_at_call 93; refine HC.out.mono ?_; rintro e w1 ⟨rfl, hb1⟩; rw [show n31Tup .range = .tuple #[.int .u64 2147483647, .iface 133 (.int .i64 1)] from rfl]; have HB1 := hide hb1; clear hb1)
      | (go_at_call 94; refine (Tryz.strconv_toError_range _ s 10 31 er _ HS.out (HRG.out _ HB1.out) HR2.out).mono ?_; rintro e w2 ⟨N, rfl, _, _, hb2⟩; have HB2 := hide (HB1.out.trans (hb2.mono HB1.out.size)); clear hb2))
    go_ret2
    rw [HP.out]
    exact ⟨⟨_, N, rfl⟩, HB2.out⟩
end Go.Proofs.YtklbdobofclofaaGreatDoor

/- A []api.Attached that came in, read by its cells. No statement is proved here. Own work of the verifier. -/
namespace Go.Proofs.YtklbdobofclofaaGreatDoor
open Go.RowKit
set_option linter.unusedVariables false
/-- in w the []api.Attached v reads as F -/
def FilesIn (w : World) (v : Value) (F : List FileL) : Prop :=
  (v = .slice none 0 0 ∧ F = []) ∨ ∃ a cap, v = .slice (some a) F.length cap ∧ F.length ≤ cap ∧ cap ≤ maxLen ∧
    ∀ j (h : j < F.length), w.cell? (a.add (j * 4)) = some (.string (str (F[j]'h).name)) ∧ w.cell? (a.add (j * 4 + 1)) = some (.string (str (F[j]'h).kind)) ∧
      w.cell? (a.add (j * 4 + 2)) = some (.string (str (F[j]'h).id)) ∧ w.cell? (a.add (j * 4 + 3)) = some (.string (str (F[j]'h).bytes))
theorem FilesIn.kept {w w' : World} {v : Value} {F : List FileL} (h : FilesIn w v F) (hb : Below w.heap.size w w') : FilesIn w' v F := by
  rcases h with h | ⟨a, cap, h1, h2, h3, h4⟩
  · exact .inl h
  · refine .inr ⟨a, cap, h1, h2, h3, fun j hj => ?_⟩
    obtain ⟨c0, c1, c2, c3⟩ := h4 j hj
    exact ⟨(hb.cell (World.block_lt_of_cell? _ _ c0)).trans c0, (hb.cell (World.block_lt_of_cell? _ _ c1)).trans c1, (hb.cell (World.block_lt_of_cell? _ _ c2)).trans c2, (hb.cell (World.block_lt_of_cell? _ _ c3)).trans c3⟩
theorem FilesIn.form {w : World} {v : Value} {F : List FileL} (h : FilesIn w v F) : ∃ a cap, v = .slice a F.length cap := by
  rcases h with ⟨rfl, rfl⟩ | ⟨a, cap, rfl, _⟩
  · exact ⟨_, _, rfl⟩
  · exact ⟨_, _, rfl⟩
theorem FilesIn.nil (w : World) : FilesIn w (.slice none 0 0) [] := .inl ⟨rfl, rfl⟩
theorem FilesIn.at {w : World} {A : Option Addr} {n cap : Nat} {F : List FileL} (h : FilesIn w (.slice A n cap) F) (k : Nat) (f : FileL) (hk : F[k]? = some f) :
    ∃ a, A = some a ∧ w.cell? (a.add (k * 4)) = some (.string (str f.name)) ∧ w.cell? { block := (a.add (k * 4)).block, off := (a.add (k * 4)).off + 1 } = some (.string (str f.kind)) ∧
      w.cell? { block := (a.add (k * 4)).block, off := (a.add (k * 4)).off + 2 } = some (.string (str f.id)) ∧ w.cell? { block := (a.add (k * 4)).block, off := (a.add (k * 4)).off + 3 } = some (.string (str f.bytes)) := by
  obtain ⟨hlt, rfl⟩ := List.getElem?_eq_some_iff.1 hk
  rcases h with ⟨_, rfl⟩ | ⟨a, cap', h1, _, _, h4⟩
  · cases hlt
  · injection h1 with h1 _ _
    obtain ⟨c0, c1, c2, c3⟩ := h4 k hlt
    have e1 : ({ block := (a.add (k * 4)).block, off := (a.add (k * 4)).off + 1 } : Addr) = a.add (k * 4 + 1) := by rw [← Addr.add_add]; rfl
    have e2 : ({ block := (a.add (k * 4)).block, off := (a.add (k * 4)).off + 2 } : Addr) = a.add (k * 4 + 2) := by rw [← Addr.add_add]; rfl
    have e3 : ({ block := (a.add (k * 4)).block, off := (a.add (k * 4)).off + 3 } : Addr) = a.add (k * 4 + 3) := by rw [← Addr.add_add]; rfl
    exact ⟨a, h1, c0, by rw [e1]; exact c1, by rw [e2]; exact c2, by rw [e3]; exact c3⟩
end Go.Proofs.YtklbdobofclofaaGreatDoor

/- WALKS: rules.only, muslinref18.kept. No statement is proved here. Own work of the verifier. -/
namespace Go.Proofs.YtklbdobofclofaaGreatDoor
open Go.RowKit
set_option linter.unusedVariables false
set_option linter.unusedSimpArgs false
set_option maxRecDepth 100000
/-- a value that is let through if that is so -/
def keptV (b : Bool) (v : ByteArray) : Value := .tuple #[.string (match b with | true => v | false => ⟨#[]⟩), .bool b]
theorem only_any (b : Bool) (v : ByteArray) (w : World) : Calls Tryz.prog 52 #[.bool b, .string v] w fun e w' => e = .returned (keptV b v) ∧ w = w' := by
  cases b
  all_goals
    go_enter Tryz.func52, Tryz.ntmps52
    go_wp2_with fail
    go_ret2
    exact ⟨rfl, rfl⟩
theorem kept18_any (b : Bool) (v : ByteArray) (w : World) : Calls Tryz.prog 24 #[.string v, .bool b] w fun e w' => e = .returned (keptV b v) ∧ w = w' := by
  cases b
  all_goals
    go_enter Tryz.func24, Tryz.ntmps24
    go_wp2_with fail
    go_ret2
    exact ⟨rfl, rfl⟩
end Go.Proofs.YtklbdobofclofaaGreatDoor

/- WALKS of css's opened signs: open, close, innermost, readOutside, read. No statement is proved here. Own work of the verifier. -/
namespace Go.Proofs.YtklbdobofclofaaGreatDoor
open Go.RowKit
set_option linter.unusedVariables false
set_option linter.unusedSimpArgs false
set_option maxRecDepth 100000

/-- rows of texts stay -/
def RowsS (w w' : World) : Prop := ∀ (g : Nat) (cs : Array Value) (fr : Nat × Nat), w.heap[g]? = some (.cells cs 9 fr) → w'.heap[g]? = w.heap[g]?
theorem RowsS.refl (w : World) : RowsS w w := fun _ _ _ _ => rfl
theorem RowsS.trans {w w1 w2 : World} (h : RowsS w w1) (k : RowsS w1 w2) : RowsS w w2 := fun g cs fr hx => (k g cs fr ((h g cs fr hx).trans hx)).trans (h g cs fr hx)
theorem SBuf.rows {B : Nat} {v : Value} {l : List ByteArray} {W0 w w' : World} (h : SBuf B v l W0 w) (hr : RowsS w w') (hb : Below B W0 w') (hz : B ≤ w'.heap.size) : SBuf B v l W0 w' := by
  refine ⟨⟨h.1.1, ?_⟩, hb, hz⟩
  rcases h.1.2 with ⟨rfl, h0⟩ | ⟨g, cap, cur, rfl, h1, h2, h3⟩
  · exact .inl ⟨rfl, h0⟩
  · exact .inr ⟨g, cap, cur, rfl, h1, (hr g _ _ h2).trans h2, h3⟩
/-- blocks that are no rows of texts stay -/
def OthersS (w w' : World) : Prop := ∀ (b : Nat) (cs : Array Value) (t : TypeId) (fr : Nat × Nat), t ≠ 9 → w.heap[b]? = some (.cells cs t fr) → w'.heap[b]? = w.heap[b]?
theorem OthersS.alloc {w w' : World} (o : Obj) (h : OthersS (w.alloc o) w') : OthersS w w' := fun b cs t fr ht hb => by
  have hlt := lt_of_block hb
  have e := Below.heap_alloc w o b hlt
  exact (h b cs t fr ht (e.trans hb)).trans e
theorem OthersS.box {w w' : World} (h : OthersS w w') {b : Nat} {t : TypeId} {v : Value} (hb : Box w b t v) (ht : t ≠ 9) : Box w' b t v := (h b _ t _ ht hb).trans hb
theorem sbuf_ne {B b : Nat} {v : Value} {l : List ByteArray} {W0 w : World} {cs : Array Value} {t : TypeId} {fr : Nat × Nat} (h : SBuf B v l W0 w) (hb : w.heap[b]? = some (.cells cs t fr)) (ht : t ≠ 9) : v.ownBlock ≠ some b := by
  rcases h.1.2 with ⟨rfl, _⟩ | ⟨g, cap, cur, rfl, _, hh, _⟩
  · simp [Value.ownBlock]
  · intro he
    have e : g = b := by simpa [Value.ownBlock] using he
    subst e
    rw [hh] at hb
    injection hb with hb
    injection hb with _ e
    exact ht e.symm
theorem others_own {B : Nat} {v : Value} {l : List ByteArray} {W0 w w' : World} (h : SBuf B v l W0 w) (hg : w.grownBy w' v.ownBlock) : OthersS w w' :=
  fun b cs t fr ht hx => hg.block b (lt_of_block hx) (fun e => sbuf_ne h hx ht e.symm)
/-- append(l, s), with the blocks of other types kept -/
theorem wpList_strs_o {ops : Array Oper} {rest : List Oper} {o : Oper} {a : Act} {Q : Exit → Act → World → Prop} (hgd : o.guard = none) (s x : Operand)
    (ho : o.op = .call { callee := .builtin .append, args := #[s, x], argTypes := #[66, 66] })
    (B : Nat) (v : Value) (l : List ByteArray) (hs : a.eval s = v) (W0 w0 : World) (c : ByteArray) (hb : SBuf B v l W0 w0)
    (hx : a.eval x = .slice (some ⟨w0.heap.size, 0, none⟩) 1 1) (hlen : l.length + 1 ≤ 8796093022208)
    (h : ∀ v' w', SBuf B v' (l ++ [c]) W0 w' → OthersS w0 w' → w0.heap.size ≤ w'.heap.size → wpList Tryz.prog ops Q rest (a.put o.dst v') w') : wpList Tryz.prog ops Q (o :: rest) a (w0.alloc (.cells #[.string c] 9)) := by
  obtain ⟨i0, hi, hz0, hz1, hz2⟩ := info_parts info_str
  have hb' := hb.alloc (.cells #[.string c] 9)
  refine wpList_append_own _ hgd s x 66 ho B 9 i0 (.string ByteArray.empty) 1 16 Tryz.underlying66 hi hz0 hz1 hz2 rfl (by decide) v l.length (strVals l) hs hb'.1 ⟨w0.heap.size, 0, none⟩ 1 1 [.string c] hx rfl ?_ ?_ (by unfold maxLen; omega) (by omega) hb'.2.2 ?_
  · intro j u hj
    match j, hj with
    | 0, hj => simp at hj; subst hj; simp [Addr.add]
    | (j + 1), hj => simp at hj
  · intro u hu; simp at hu; subst hu; rfl
  · intro v' w' ho' hg _
    refine h v' w' (hb'.grown (l' := l ++ [c]) (by simpa [strVals] using ho') hg) ((others_own hb' hg).alloc _) ?_
    have := hg.size
    rw [World.size_alloc] at this
    omega

/-! ### the signs that are open -/
def OAt (B b : Nat) (st : List UInt8) (W0 w : World) : Prop := ∃ v, Box w b 139 v ∧ Buf B v st W0 w ∧ B ≤ b
theorem OAt.below {B b : Nat} {st : List UInt8} {W0 w : World} (h : OAt B b st W0 w) : Below B W0 w := by obtain ⟨v, _, h2, _⟩ := h; exact h2.2.1
theorem OAt.size {B b : Nat} {st : List UInt8} {W0 w : World} (h : OAt B b st W0 w) : B ≤ w.heap.size := by obtain ⟨v, _, h2, _⟩ := h; exact h2.2.2
theorem OAt.others {B b : Nat} {st : List UInt8} {W0 w w' : World} (h : OAt B b st W0 w) (hk : OthersS w w') (hb : Below B W0 w') (hz : B ≤ w'.heap.size) : OAt B b st W0 w' := by
  obtain ⟨v, h1, h2, h3⟩ := h
  refine ⟨v, hk.box h1 (by decide), ⟨⟨h2.1.1, ?_⟩, hb, hz⟩, h3⟩
  rcases h2.1.2 with ⟨rfl, h0⟩ | ⟨g, cap, cur, rfl, k1, k2, k3⟩
  · exact .inl ⟨rfl, h0⟩
  · exact .inr ⟨g, cap, cur, rfl, k1, (hk g _ _ _ (by decide) k2).trans k2, k3⟩
theorem OAt.drewN {B b : Nat} {st : List UInt8} {W0 w : World} (h : OAt B b st W0 w) (n : Nat) : OAt B b st W0 (w.drewN n) := by
  obtain ⟨v, h1, h2, h3⟩ := h
  exact ⟨v, h1.drewN n, h2.drewN n, h3⟩
theorem rowsS_drewN (w : World) (n : Nat) : RowsS w (w.drewN n) := fun _ _ _ _ => rfl
theorem rowsS_set {w w1 : World} (h : RowsS w w1) {b : Nat} {t : TypeId} {v : Value} (hb : Box w1 b t v) (ht : t ≠ 9) (x : Value) : RowsS w (w1.setCell ⟨b, 0, none⟩ x) := fun g cs fr hx => by
  have e1 := h g cs fr hx
  have hne : g ≠ b := by
    rintro rfl
    have e2 := e1.trans hx
    unfold Box at hb
    rw [hb] at e2
    injection e2 with e2
    injection e2 with _ e2
    exact ht e2
  exact (Below.heap_setCell w1 ⟨b, 0, none⟩ x g hne).trans e1
theorem rowsS_alloc (w : World) (o : Obj) : RowsS w (w.alloc o) := fun g cs fr hx => Below.heap_alloc w o g (lt_of_block hx)
theorem rowsS_own {B : Nat} {v : Value} {l : List UInt8} {W0 w w' : World} (h : Buf B v l W0 w) (hg : w.grownBy w' v.ownBlock) : RowsS w w' := fun g cs fr hx =>
  hg.block g (lt_of_block hx) (fun e => by
    rcases h.1.2 with ⟨rfl, _⟩ | ⟨g', cap, cur, rfl, _, hh, _⟩
    · simp [Value.ownBlock] at e
    · have e' : g = g' := by simpa [Value.ownBlock] using e
      subst e'
      rw [hh] at hx
      injection hx with hx
      injection hx with _ e2
      exact absurd e2 (by decide))
/-- append(*o, c) -/
theorem wpList_op_byte {ops : Array Oper} {rest : List Oper} {o : Oper} {a : Act} {Q : Exit → Act → World → Prop} (hgd : o.guard = none) (s x : Operand)
    (ho : o.op = .call { callee := .builtin .append, args := #[s, x], argTypes := #[139, 139] })
    (B : Nat) (v : Value) (l : List UInt8) (hs : a.eval s = v) (W0 w0 : World) (c : UInt8) (hb : Buf B v l W0 w0)
    (hx : a.eval x = .slice (some ⟨w0.heap.size, 0, none⟩) 1 1) (hlen : l.length + 1 ≤ 140737488355328)
    (h : ∀ v' w', Buf B v' (l ++ [c]) W0 w' → Kept w0 w' → RowsS w0 w' → w0.heap.size ≤ w'.heap.size → wpList Tryz.prog ops Q rest (a.put o.dst v') w') : wpList Tryz.prog ops Q (o :: rest) a (w0.alloc (.cells #[.int .u8 c.toNat] 5)) := by
  obtain ⟨i0, hi, hz0, hz1, hz2⟩ := info_parts info_u8
  have hb' := hb.alloc (.cells #[.int .u8 c.toNat] 5)
  refine wpList_append_own _ hgd s x 139 ho B 5 i0 (.int .u8 0) 1 1 Tryz.underlying139 hi hz0 hz1 hz2 rfl (by decide) v l.length (cellsOf l) hs hb'.1 ⟨w0.heap.size, 0, none⟩ 1 1 [.int .u8 c.toNat] hx rfl ?_ ?_ (by unfold maxLen; omega) (by omega) hb'.2.2 ?_
  · intro j u hj
    match j, hj with
    | 0, hj => simp at hj; subst hj; simp [Addr.add]
    | (j + 1), hj => simp at hj
  · intro u hu; simp at hu; subst hu; rfl
  · intro v' w' ho' hg _
    refine h v' w' (hb'.grown (l' := l ++ [c]) (by simpa [cellsOf] using ho') hg) ((kept_own hb' hg).alloc _) ((rowsS_alloc _ _).trans (rowsS_own hb' hg)) ?_
    have := hg.size
    rw [World.size_alloc] at this
    omega
set_option maxHeartbeats 1000000 in
theorem oOpen_any (B b : Nat) (st : List UInt8) (c : UInt8) (W0 w : World) (h : OAt B b st W0 w) (hl : st.length ≤ 1048576) :
    Calls Tryz.prog 147 #[.pointer (some ⟨b, 0, none⟩), .int .u8 c.toNat] w fun e w' => e = .returned (.tuple #[]) ∧ OAt B b (st ++ [c]) W0 w' ∧ RowsS w w' := by
  obtain ⟨v, hbx, hbuf, hB⟩ := h
  have hc := hbx.cell
  have HBX := hide hbx
  have HBUF := hide hbuf
  clear hbuf hbx
  go_enter Tryz.func147, Tryz.ntmps147
  go_wp2_with (refine wpList_op_byte rfl _ _ rfl B v st rfl W0 w c HBUF.out rfl (by omega) ?_; intro v1 w1 hb1 hk1 hr1 hz1; obtain ⟨A1, cc1, hv1⟩ := hb1.slice_len; rw [List.length_append, List.length_singleton] at hv1; subst hv1; have HB1 := hide hb1; have HX1 := hide (hk1 b _ _ (by decide) HBX.out); have HR1 := hide hr1; have hc1 := HX1.out.cell; have hf1 := HX1.out.free; clear hb1 hk1 hr1)
  go_end0
  exact ⟨rfl, ⟨_, HX1.out.set _, HB1.out.setBox HX1.out (by decide) hB _, hB⟩, rowsS_set HR1.out HX1.out (by decide) _⟩
theorem Buf.form2 {B : Nat} {v : Value} {l : List UInt8} {W0 w : World} (h : Buf B v l W0 w) : (v = .slice none 0 0 ∧ l = []) ∨ ∃ g cap, v = .slice (some ⟨g, 0, none⟩) l.length cap ∧ l.length ≤ cap ∧ cap ≤ maxLen := by
  rcases h.1.2 with ⟨rfl, h0⟩ | ⟨g, cap, cur, rfl, hg, hh, hc, hm, _⟩
  · exact .inl ⟨rfl, List.eq_nil_of_length_eq_zero h0⟩
  · exact .inr ⟨g, cap, rfl, hc, hm⟩
/-- the innermost one; 0: none -/
def lastO (st : List UInt8) : UInt8 := st.getLast?.getD 0
theorem lastO_snoc (st : List UInt8) (c : UInt8) : lastO (st ++ [c]) = c := by simp [lastO]
set_option maxHeartbeats 1000000 in
theorem oInner_any (B b : Nat) (st : List UInt8) (W0 w : World) (h : OAt B b st W0 w) :
    Calls Tryz.prog 145 #[.pointer (some ⟨b, 0, none⟩)] w fun e w' => e = .returned (.int .u8 (lastO st).toNat) ∧ ∃ n, w' = w.drewN n := by
  obtain ⟨v, hbx, hbuf, hB⟩ := h
  have hc := hbx.cell
  rcases List.eq_nil_or_concat st with rfl | ⟨r, c, rfl⟩
  · obtain ⟨A, cc, rfl⟩ := hbuf.slice_len
    clear hbuf hbx
    go_enter Tryz.func145, Tryz.ntmps145
    go_wp2_with fail
    go_ret
    exact ⟨rfl, 0, rfl⟩
  · rw [List.concat_eq_append] at hbuf ⊢
    have HL : Hid (lastO (r ++ [c]) = c) := hide (lastO_snoc r c)
    obtain ⟨g, cap, rfl, hc1, hc2, hc3, hc4⟩ := hbuf.form (by simp)
    have hcell := hbuf.cellAt r.length (by simp)
    rw [List.getElem_concat_length rfl] at hcell
    unfold maxLen at hc2
    obtain ⟨n, hn⟩ : ∃ n, n = r.length := ⟨_, rfl⟩
    have hlen : (r ++ [c]).length = n + 1 := by rw [hn]; simp
    rw [← hn] at hcell
    rw [hlen] at hc hc1
    have q1 : IntKind.i64.wrap (((n + 1 : Nat) : Int) - 1) = n := by rw [IntWalk.i64_in _ (by omega)]; omega
    have q2 : IntKind.i64.wrap ((n : Int) + 1 - 1) = n := by rw [IntWalk.i64_in _ (by omega)]; omega
    have q3 : (n : Int) < (n : Int) + 1 := by omega
    have t0 : (((n : Int) + 1) == 0) = false := beq_eq_false_iff_ne.2 (by omega)
    clear hbuf hbx hn hlen
    go_enter Tryz.func145, Tryz.ntmps145
    go_wp2_with fail
    go_quiet (fail)
    all_goals
      try go_wp2_with fail
      go_ret
      exact ⟨by rw [HL.out]; rfl, _, rfl⟩
set_option maxHeartbeats 1000000 in
theorem oClose_any (B b : Nat) (st : List UInt8) (W0 w : World) (h : OAt B b st W0 w) :
    Calls Tryz.prog 146 #[.pointer (some ⟨b, 0, none⟩)] w fun e w' => e = .returned (.tuple #[]) ∧ OAt B b st.dropLast W0 w' ∧ RowsS w w' := by
  obtain ⟨v, hbx, hbuf, hB⟩ := h
  have hc := hbx.cell
  have hf := hbx.free
  have HBX := hide hbx
  have HBUF := hide hbuf
  rcases List.eq_nil_or_concat st with rfl | ⟨r, c, rfl⟩
  · obtain ⟨A, cc, rfl⟩ := hbuf.slice_len
    clear hbuf hbx
    have hdl : ([] : List UInt8).dropLast = [] := rfl
    rw [hdl]
    clear hdl
    go_enter Tryz.func146, Tryz.ntmps146
    go_wp2_with fail
    go_region
    all_goals
      try go_wp2_with fail
      go_end0
      exact ⟨rfl, ⟨_, (HBX.out.drewN _).set _, (HBUF.out.drewN _).setBox (HBX.out.drewN _) (by decide) hB _, hB⟩, rowsS_set (rowsS_drewN w _) (HBX.out.drewN _) (by decide) _⟩
  · rw [List.concat_eq_append] at hbuf HBUF ⊢
    have HD : Hid ((r ++ [c]).dropLast = r) := hide (List.dropLast_concat)
    obtain ⟨g, cap, rfl, hc1, hc2, hc3, hc4⟩ := hbuf.form (by simp)
    have htk := hbuf.take r.length (by simp)
    rw [List.take_left] at htk
    have HTK := hide htk
    unfold maxLen at hc2
    obtain ⟨n, hn⟩ : ∃ n, n = r.length := ⟨_, rfl⟩
    have hlen : (r ++ [c]).length = n + 1 := by rw [hn]; simp
    rw [← hn] at HTK
    rw [hlen] at hc hc1 HBX
    have q1 : IntKind.i64.wrap (((n + 1 : Nat) : Int) - 1) = n := by rw [IntWalk.i64_in _ (by omega)]; omega
    have q2 : IntKind.i64.wrap ((n : Int) + 1 - 1) = n := by rw [IntWalk.i64_in _ (by omega)]; omega
    have q3 : (n : Int) ≤ (cap : Int) := by omega
    have q4 : ¬ (n : Int) < 0 := by omega
    have hne : ¬ cap = n := by omega
    clear hbuf hbx hn hlen htk HBUF
    rw [HD.out]
    go_enter Tryz.func146, Tryz.ntmps146
    go_wp2_with fail
    go_region
    all_goals
      try go_wp2_with fail
      go_end0
      exact ⟨rfl, ⟨_, (HBX.out.drewN _).set _, (HTK.out.drewN _).setBox (HBX.out.drewN _) (by decide) hB _, hB⟩, rowsS_set (rowsS_drewN w _) (HBX.out.drewN _) (by decide) _⟩
/-- readOutside, on the signs that are open -/
def roL (st : List UInt8) (c : UInt8) : List UInt8 × Bool :=
  if c = 34 ∨ c = 39 ∨ c = 40 then (st ++ [c], false) else if c = 41 then (st.dropLast, false) else if c = 59 then (st, st.isEmpty) else (st, false)
set_option maxHeartbeats 2000000 in
theorem oOutside_any (B b : Nat) (st : List UInt8) (c : UInt8) (W0 w : World) (h : OAt B b st W0 w) (hl : st.length ≤ 1048576) :
    Calls Tryz.prog 148 #[.pointer (some ⟨b, 0, none⟩), .int .u8 c.toNat] w fun e w' => e = .returned (.bool (roL st c).2) ∧ OAt B b (roL st c).1 W0 w' ∧ RowsS w w' := by
  have HO := hide h
  by_cases h1 : c = 34 ∨ c = 39 ∨ c = 40
  · have HR : Hid (roL st c = (st ++ [c], false)) := hide (if_pos h1)
    rw [HR.out]
    have hc : c = 34 ∨ (c ≠ 34 ∧ c = 39) ∨ (c ≠ 34 ∧ c ≠ 39 ∧ c = 40) := by
      by_cases a : c = 34
      · exact .inl a
      · by_cases b : c = 39
        · exact .inr (.inl ⟨a, b⟩)
        · exact .inr (.inr ⟨a, b, (h1.resolve_left a).resolve_left b⟩)
    clear h h1
    rcases hc with k1 | ⟨k0, k1⟩ | ⟨k0, k00, k1⟩
    · have s1 : ((c.toNat : Int) == 34) = true := tT 34 k1 (by omega)
      clear k1
      go_enter Tryz.func148, Tryz.ntmps148
      go_wp2_with fail
      refine (oOpen_any B b st c W0 _ HO.out hl).mono ?_
      rintro e w1 ⟨rfl, ho, hr⟩
      have HO1 := hide ho
      have HR1 := hide hr
      clear ho hr
      go_wp2_with fail
      go_ret
      exact ⟨rfl, HO1.out, HR1.out⟩
    · have s1 : ((c.toNat : Int) == 34) = false := tF 34 k0 (by omega)
      have s2 : ((c.toNat : Int) == 39) = true := tT 39 k1 (by omega)
      clear k0 k1
      go_enter Tryz.func148, Tryz.ntmps148
      go_wp2_with fail
      refine (oOpen_any B b st c W0 _ HO.out hl).mono ?_
      rintro e w1 ⟨rfl, ho, hr⟩
      have HO1 := hide ho
      have HR1 := hide hr
      clear ho hr
      go_wp2_with fail
      go_ret
      exact ⟨rfl, HO1.out, HR1.out⟩
    · have s1 : ((c.toNat : Int) == 34) = false := tF 34 k0 (by omega)
      have s2 : ((c.toNat : Int) == 39) = false := tF 39 k00 (by omega)
      have s3 : ((c.toNat : Int) == 40) = true := tT 40 k1 (by omega)
      clear k0 k00 k1
      go_enter Tryz.func148, Tryz.ntmps148
      go_wp2_with fail
      refine (oOpen_any B b st c W0 _ HO.out hl).mono ?_
      rintro e w1 ⟨rfl, ho, hr⟩
      have HO1 := hide ho
      have HR1 := hide hr
      clear ho hr
      go_wp2_with fail
      go_ret
      exact ⟨rfl, HO1.out, HR1.out⟩
  have s1 : ((c.toNat : Int) == 34) = false := tF 34 (fun e => h1 (.inl e)) (by omega)
  have s2 : ((c.toNat : Int) == 39) = false := tF 39 (fun e => h1 (.inr (.inl e))) (by omega)
  have s3 : ((c.toNat : Int) == 40) = false := tF 40 (fun e => h1 (.inr (.inr e))) (by omega)
  by_cases h2 : c = 41
  · have HR : Hid (roL st c = (st.dropLast, false)) := hide (by unfold roL; rw [if_neg h1, if_pos h2])
    have s4 : ((c.toNat : Int) == 41) = true := tT 41 h2 (by omega)
    rw [HR.out]
    clear h h1 h2
    go_enter Tryz.func148, Tryz.ntmps148
    go_wp2_with fail
    refine (oClose_any B b st W0 _ HO.out).mono ?_
    rintro e w1 ⟨rfl, ho, hr⟩
    have HO1 := hide ho
    have HR1 := hide hr
    clear ho hr
    go_wp2_with fail
    go_ret
    exact ⟨rfl, HO1.out, HR1.out⟩
  have s4 : ((c.toNat : Int) == 41) = false := tF 41 h2 (by omega)
  by_cases h3 : c = 59
  · have HR : Hid (roL st c = (st, st.isEmpty)) := hide (by unfold roL; rw [if_neg h1, if_neg h2, if_pos h3])
    have s5 : ((c.toNat : Int) == 59) = true := tT 59 h3 (by omega)
    rw [HR.out]
    obtain ⟨v, hbx, hbuf, hB⟩ := h
    obtain ⟨A, cc, rfl⟩ := hbuf.slice_len
    have hcl := hbx.cell
    obtain ⟨n, hn⟩ : ∃ n, n = st.length := ⟨_, rfl⟩
    have HE : Hid (st.isEmpty = ((n : Int) == 0)) := hide (by
      rw [hn]
      cases st with
      | nil => rfl
      | cons a r =>
        have : (((a :: r).length : Int) == 0) = false := beq_eq_false_iff_ne.2 (by simp; omega)
        rw [this]; rfl)
    rw [← hn] at hcl
    clear h1 h2 h3 hbx hbuf hn
    rw [HE.out]
    go_enter Tryz.func148, Tryz.ntmps148
    go_wp2_with fail
    go_ret
    exact ⟨rfl, HO.out, RowsS.refl _⟩
  · have HR : Hid (roL st c = (st, false)) := hide (by unfold roL; rw [if_neg h1, if_neg h2, if_neg h3])
    have s5 : ((c.toNat : Int) == 59) = false := tF 59 h3 (by omega)
    rw [HR.out]
    clear h h1 h2 h3
    go_enter Tryz.func148, Tryz.ntmps148
    go_wp2_with fail
    go_ret
    exact ⟨rfl, HO.out, RowsS.refl _⟩
/-- read, on the signs that are open -/
def readO (st : List UInt8) (c : UInt8) : List UInt8 × Bool :=
  if lastO st = 92 then (st.dropLast, false)
  else if lastO st = 34 ∨ lastO st = 39 then (if c = lastO st then (st.dropLast, false) else if c = 92 then (st ++ [c], false) else (st, false))
  else roL st c
set_option maxHeartbeats 2000000 in
theorem oRead_any (B b : Nat) (st : List UInt8) (c : UInt8) (W0 w : World) (h : OAt B b st W0 w) (hl : st.length ≤ 1048576) :
    Calls Tryz.prog 122 #[.pointer (some ⟨b, 0, none⟩), .int .u8 c.toNat] w fun e w' => e = .returned (.bool (readO st c).2) ∧ OAt B b (readO st c).1 W0 w' ∧ RowsS w w' := by
  have HO := hide h
  obtain ⟨d, hd⟩ : ∃ d, lastO st = d := ⟨_, rfl⟩
  have HD := hide hd
  have hdef : readO st c = (if d = 92 then (st.dropLast, false) else if d = 34 ∨ d = 39 then (if c = d then (st.dropLast, false) else if c = 92 then (st ++ [c], false) else (st, false)) else roL st c) := by unfold readO; rw [hd]
  clear hd h
  by_cases h1 : d = 92
  · have HR : Hid (readO st c = (st.dropLast, false)) := hide (by rw [hdef, if_pos h1])
    have s1 : ((d.toNat : Int) == 92) = true := tT 92 h1 (by omega)
    rw [HR.out]
    clear hdef h1
    go_enter Tryz.func122, Tryz.ntmps122
    go_wp2_with fail
    refine (oInner_any B b st W0 _ HO.out).mono ?_
    rintro e w1 ⟨rfl, n, rfl⟩
    rw [HD.out]
    go_wp2_with fail
    refine (oClose_any B b st W0 _ (HO.out.drewN n)).mono ?_
    rintro e w2 ⟨rfl, ho, hr⟩
    have HO1 := hide ho
    have HR1 := hide ((rowsS_drewN w n).trans hr)
    clear ho hr
    go_wp2_with fail
    go_ret
    exact ⟨rfl, HO1.out, HR1.out⟩
  have s1 : ((d.toNat : Int) == 92) = false := tF 92 h1 (by omega)
  by_cases h2 : d = 34 ∨ d = 39
  · have hq : (((d.toNat : Int) == 34) = true) ∨ (((d.toNat : Int) == 34) = false ∧ ((d.toNat : Int) == 39) = true) := by
      rcases h2 with h | h
      · exact .inl (tT 34 h (by omega))
      · exact .inr ⟨tF 34 (by rw [h]; decide) (by omega), tT 39 h (by omega)⟩
    have hcd : ((c.toNat : Int) == (d.toNat : Int)) = decide (c = d) := by
      by_cases e : c = d
      · rw [e, decide_eq_true rfl]; simp
      · rw [decide_eq_false e, beq_eq_false_iff_ne]
        intro e2
        exact e (UInt8.toNat_inj.1 (by omega))
    by_cases h3 : c = d
    · have HR : Hid (readO st c = (st.dropLast, false)) := hide (by rw [hdef, if_neg h1, if_pos h2, if_pos h3])
      rw [decide_eq_true h3] at hcd
      rw [HR.out]
      clear hdef h1 h2 h3
      rcases hq with s2 | ⟨s2, s3⟩
      all_goals
        go_enter Tryz.func122, Tryz.ntmps122
        go_wp2_with fail
        refine (oInner_any B b st W0 _ HO.out).mono ?_
        rintro e w1 ⟨rfl, n, rfl⟩
        rw [HD.out]
        go_wp2_with fail
        refine (oClose_any B b st W0 _ (HO.out.drewN n)).mono ?_
        rintro e w2 ⟨rfl, ho, hr⟩
        have HO1 := hide ho
        have HR1 := hide ((rowsS_drewN w n).trans hr)
        clear ho hr
        go_wp2_with fail
        go_ret
        exact ⟨rfl, HO1.out, HR1.out⟩
    · rw [decide_eq_false h3] at hcd
      by_cases h4 : c = 92
      · have HR : Hid (readO st c = (st ++ [c], false)) := hide (by rw [hdef, if_neg h1, if_pos h2, if_neg h3, if_pos h4])
        have s9 : ((c.toNat : Int) == 92) = true := tT 92 h4 (by omega)
        rw [HR.out]
        clear hdef h1 h2 h3 h4
        rcases hq with s2 | ⟨s2, s3⟩
        all_goals
          go_enter Tryz.func122, Tryz.ntmps122
          go_wp2_with fail
          refine (oInner_any B b st W0 _ HO.out).mono ?_
          rintro e w1 ⟨rfl, n, rfl⟩
          rw [HD.out]
          go_wp2_with fail
          refine (oOpen_any B b st c W0 _ (HO.out.drewN n) hl).mono ?_
          rintro e w2 ⟨rfl, ho, hr⟩
          have HO1 := hide ho
          have HR1 := hide ((rowsS_drewN w n).trans hr)
          clear ho hr
          go_wp2_with fail
          go_ret
          exact ⟨rfl, HO1.out, HR1.out⟩
      · have HR : Hid (readO st c = (st, false)) := hide (by rw [hdef, if_neg h1, if_pos h2, if_neg h3, if_neg h4])
        have s9 : ((c.toNat : Int) == 92) = false := tF 92 h4 (by omega)
        rw [HR.out]
        clear hdef h1 h2 h3 h4
        rcases hq with s2 | ⟨s2, s3⟩
        all_goals
          go_enter Tryz.func122, Tryz.ntmps122
          go_wp2_with fail
          refine (oInner_any B b st W0 _ HO.out).mono ?_
          rintro e w1 ⟨rfl, n, rfl⟩
          rw [HD.out]
          go_wp2_with fail
          go_ret
          exact ⟨rfl, HO.out.drewN n, rowsS_drewN w n⟩
  · have HR : Hid (readO st c = roL st c) := hide (by rw [hdef, if_neg h1, if_neg h2])
    have s2 : ((d.toNat : Int) == 34) = false := tF 34 (fun e => h2 (.inl e)) (by omega)
    have s3 : ((d.toNat : Int) == 39) = false := tF 39 (fun e => h2 (.inr e)) (by omega)
    rw [HR.out]
    clear hdef h1 h2
    go_enter Tryz.func122, Tryz.ntmps122
    go_wp2_with fail
    refine (oInner_any B b st W0 _ HO.out).mono ?_
    rintro e w1 ⟨rfl, n, rfl⟩
    rw [HD.out]
    go_wp2_with fail
    refine (oOutside_any B b st c W0 _ (HO.out.drewN n) hl).mono ?_
    rintro e w2 ⟨rfl, ho, hr⟩
    have HO1 := hide ho
    have HR1 := hide ((rowsS_drewN w n).trans hr)
    clear ho hr
    go_wp2_with fail
    go_ret
    exact ⟨rfl, HO1.out, HR1.out⟩
end Go.Proofs.YtklbdobofclofaaGreatDoor

/- WALK of css.pieces. No statement is proved here. Own work of the verifier. -/
namespace Go.Proofs.YtklbdobofclofaaGreatDoor
open Go.RowKit
set_option linter.unusedVariables false
set_option linter.unusedSimpArgs false
set_option maxRecDepth 100000

/-- the signs that are open, of a state -/
def stk (s : CSt) : List UInt8 := List.replicate s.1 40 ++ ((if s.2.1 = 0 then [] else [s.2.1]) ++ (if s.2.2 = true then [92] else []))
def okS (s : CSt) : Prop := (s.2.1 = 0 ∨ s.2.1 = 34 ∨ s.2.1 = 39) ∧ (s.2.2 = true → s.2.1 ≠ 0)
theorem okS_0 : okS st0 := ⟨.inl rfl, fun h => by cases h⟩
theorem stk_0 : stk st0 = [] := rfl
theorem lastO_rep (d : Nat) : lastO (List.replicate d 40) = if d = 0 then 0 else 40 := by
  cases d with
  | zero => rfl
  | succ n => rw [List.replicate_succ', lastO_snoc]; rfl
theorem drop_rep (d : Nat) : (List.replicate d (40 : UInt8)).dropLast = List.replicate (d - 1) 40 := by
  cases d with
  | zero => rfl
  | succ n => rw [List.replicate_succ', List.dropLast_concat]; rfl
theorem rep_empty (d : Nat) : (List.replicate d (40 : UInt8)).isEmpty = decide (d = 0) := by cases d <;> rfl
theorem read_stk (s : CSt) (c : UInt8) (h : okS s) : readO (stk s) c = (stk (cstep s c).1, (cstep s c).2) ∧ okS (cstep s c).1 := by
  obtain ⟨d, q, x⟩ := s
  obtain ⟨h1, h2⟩ := h
  simp only at h1 h2
  cases x with
  | true =>
    have hq := h2 rfl
    have e : stk (d, q, true) = (List.replicate d 40 ++ [q]) ++ [92] := by simp [stk, hq]
    have e2 : cstep (d, q, true) c = ((d, q, false), false) := rfl
    rw [e, e2]
    refine ⟨?_, h1, fun h => by cases h⟩
    unfold readO
    rw [lastO_snoc, if_pos rfl, List.dropLast_concat]
    simp [stk, hq]
  | false =>
    by_cases hq : q = 0
    · subst hq
      have e : stk (d, 0, false) = List.replicate d 40 := by simp [stk]
      rw [e]
      have hl := lastO_rep d
      have hro : readO (List.replicate d 40) c = roL (List.replicate d 40) c := by
        unfold readO
        rw [hl]
        split
        · rfl
        · rfl
      rw [hro]
      unfold roL cstep
      simp only [Bool.false_eq_true, if_false, ne_eq, not_true_eq_false]
      by_cases c1 : c = 34 ∨ c = 39
      · rw [if_pos c1, if_pos (c1.elim (fun a => .inl a) (fun a => .inr (.inl a)))]
        refine ⟨?_, .inr c1, fun h => by cases h⟩
        have : c ≠ 0 := by rcases c1 with a | a <;> rw [a] <;> decide
        simp [stk, this]
      · rw [if_neg c1]
        by_cases c2 : c = 40
        · rw [if_pos c2, if_pos (.inr (.inr c2))]
          refine ⟨?_, .inl rfl, fun h => by cases h⟩
          subst c2
          simp only [stk, if_true, List.append_nil, Bool.false_eq_true, if_false]
          rw [List.replicate_succ']
        · rw [if_neg c2, if_neg (fun h => h.elim (fun a => c1 (.inl a)) (fun h => h.elim (fun a => c1 (.inr a)) c2))]
          by_cases c3 : c = 41
          · rw [if_pos c3, if_pos c3]
            refine ⟨?_, .inl rfl, fun h => by cases h⟩
            rw [drop_rep]; simp [stk]
          · rw [if_neg c3, if_neg c3]
            refine ⟨?_, .inl rfl, fun h => by cases h⟩
            by_cases c4 : c = 59
            · rw [if_pos c4, rep_empty]
              simp [stk, c4]
            · rw [if_neg c4]
              simp [stk, c4]
    · have e : stk (d, q, false) = List.replicate d 40 ++ [q] := by simp [stk, hq]
      have hq2 : q = 34 ∨ q = 39 := h1.resolve_left hq
      rw [e]
      unfold readO
      rw [lastO_snoc, if_neg (by rcases hq2 with a | a <;> rw [a] <;> decide), if_pos hq2]
      unfold cstep
      simp only [Bool.false_eq_true, if_false, ne_eq, hq, not_false_eq_true, if_true]
      by_cases c1 : c = q
      · rw [if_pos c1, if_pos c1, List.dropLast_concat]
        exact ⟨by simp [stk], .inl rfl, fun h => by cases h⟩
      · rw [if_neg c1, if_neg c1]
        by_cases c2 : c = 92
        · rw [if_pos c2, if_pos c2]
          refine ⟨?_, .inr hq2, fun _ => hq⟩
          subst c2
          simp [stk, hq]
        · rw [if_neg c2, if_neg c2]
          exact ⟨by simp [stk, hq], .inr hq2, fun h => by cases h⟩
theorem readO_len (st : List UInt8) (c : UInt8) : (readO st c).1.length ≤ st.length + 1 := by
  have hd : st.dropLast.length ≤ st.length + 1 := by rw [List.length_dropLast]; omega
  unfold readO roL
  repeat' split
  all_goals first | exact hd | (simp; done) | (simp; omega) | omega
def pcsAt (s : ByteArray) (ff k : Nat) : List UInt8 := (s.data.toList.take k).drop ff
theorem pcsAt_same (s : ByteArray) (k : Nat) : pcsAt s k k = [] := List.drop_eq_nil_of_le (List.length_take_le _ _)
theorem pcsAt_snoc (s : ByteArray) (ff k : Nat) (h : ff ≤ k) (hk : k < s.size) : pcsAt s ff (k + 1) = pcsAt s ff k ++ [s[k]] := by
  unfold pcsAt
  rw [take_snoc s k hk, List.drop_append_of_le_length (by rw [List.length_take, toList_length]; omega)]
theorem pcsAt_str (s : ByteArray) (ff k : Nat) : s.extract ff k = str (pcsAt s ff k) := ext_list (by rw [extract_list, str_toList]; rfl)
set_option maxHeartbeats 2000000 in
theorem pieces_any (s : ByteArray) (w : World) (hs : s.size ≤ 1048575) :
    Calls Tryz.prog 97 #[.string s] w fun e w' => ∃ v, e = .returned v ∧ SBuf w.heap.size v ((pcs st0 [] s.data.toList).map str) w w' := by
  have HS0 : Hid (SBuf w.heap.size (.slice none 0 0) [] w (w.alloc (.cells #[.slice none 0 0] 139))) := hide (SBuf.nil ((Below.refl _ w).alloc (Nat.le_refl _) _) (by rw [World.size_alloc]; omega))
  have HO0 : Hid (OAt w.heap.size w.heap.size (stk st0) w (w.alloc (.cells #[.slice none 0 0] 139))) := hide ⟨_, Box.new w _ _, Buf.nil ((Below.refl _ w).alloc (Nat.le_refl _) _) (by rw [World.size_alloc]; omega), Nat.le_refl _⟩
  go_enter Tryz.func97, Tryz.ntmps97
  go_wp2_with fail
  go_loopw [3, 5, 9] (fun v f i wr => ∃ (k ff : Nat) (acc : List (List UInt8)) (st : CSt), k ≤ s.size ∧ ff ≤ k ∧ i = .int .i64 k ∧ f = .int .i64 ff ∧ acc.length ≤ k ∧
      Hid (SBuf w.heap.size v (acc.map str) w wr) ∧ Hid (OAt w.heap.size w.heap.size (stk st) w wr) ∧ Hid (okS st) ∧ Hid ((stk st).length ≤ k) ∧ Hid (acc ++ pcs st (pcsAt s ff k) (s.data.toList.drop k) = pcs st0 [] s.data.toList)) (fun _ _ i _ => s.size - (intOf i).toNat)
  case atStart => exact ⟨0, 0, [], st0, Nat.zero_le _, Nat.le_refl _, rfl, rfl, Nat.le_refl _, HS0, HO0, hide okS_0, hide (Nat.zero_le _), hide (by rw [pcsAt_same]; rfl)⟩
  case round =>
    obtain ⟨k, ff, acc, st, hk, hff, rfl, rfl, hacc, HS, HO, HK, HL, HP⟩ := hrel
    by_cases hlt : k < s.size
    · have hdc := drop_cons s k hlt
      obtain ⟨hrd, hok⟩ := read_stk st s[k] HK.out
      have hln := readO_len (stk st) s[k]
      rw [hrd] at hln
      obtain ⟨st', hst'⟩ : ∃ x, (cstep st s[k]).1 = x := ⟨_, rfl⟩
      have hP := HP.out
      rw [hdc] at hP
      have HRD : Hid (readO (stk st) s[k] = (stk st', (cstep st s[k]).2)) := hide (by rw [hrd, hst'])
      have HOK : Hid (okS st') := hide (by rw [← hst']; exact hok)
      have HLN : Hid ((stk st').length ≤ k + 1) := hide (by have := HL.out; rw [← hst']; simp only at hln; omega)
      have HSL : Hid ((stk st).length ≤ 1048576) := hide (by have := HL.out; omega)
      cases he : (cstep st s[k]).2 with
      | true =>
        rw [pcs_end he, hst'] at hP
        obtain ⟨X, hX⟩ : ∃ X, s.extract ff k = X := ⟨_, rfl⟩
        have HX : Hid (X = str (pcsAt s ff k)) := hide (by rw [← hX, pcsAt_str])
        have HP2 : Hid ((acc ++ [pcsAt s ff k]) ++ pcs st' (pcsAt s (k + 1) (k + 1)) (s.data.toList.drop (k + 1)) = pcs st0 [] s.data.toList) := hide (by rw [← hP, pcsAt_same]; simp)
        rw [he] at HRD
        clear hdc hrd hok hln hst' hP he
        go_wp2_with fail
        refine (oRead_any w.heap.size w.heap.size (stk st) s[k] w _ HO.out HSL.out).mono ?_
        rintro e w1 ⟨rfl, ho1, hr1⟩
        rw [HRD.out] at ho1
        rw [HRD.out]
        have HO1 := hide ho1
        have HS1 := hide (HS.out.rows hr1 ho1.below ho1.size)
        clear ho1 hr1
        go_wp2_with (refine wpList_strs_o rfl _ _ rfl w.heap.size u3 (acc.map str) rfl w w1 X HS1.out rfl (by rw [List.length_map]; omega) ?_; intro v2 w2 hb2 ho2 hz2; have HS2 := hide hb2; have HO2 := hide (HO1.out.others ho2 hb2.below hb2.2.2); clear hb2 ho2 hz2)
        go_roundw
        case rel => exact ⟨k + 1, k + 1, acc ++ [pcsAt s ff k], st', by omega, Nat.le_refl _, by go_num, by go_num, by simp; omega, by rw [HX.out] at HS2; simpa using HS2, HO2, HOK, HLN, HP2⟩
        case measure => simp [intOf]; omega
      | false =>
        rw [pcs_go he, hst', ← pcsAt_snoc s ff k hff hlt] at hP
        have HP2 := hide hP
        rw [he] at HRD
        clear hdc hrd hok hln hst' hP he
        go_wp2_with fail
        refine (oRead_any w.heap.size w.heap.size (stk st) s[k] w _ HO.out HSL.out).mono ?_
        rintro e w1 ⟨rfl, ho1, hr1⟩
        rw [HRD.out] at ho1
        rw [HRD.out]
        have HO1 := hide ho1
        have HS1 := hide (HS.out.rows hr1 ho1.below ho1.size)
        clear ho1 hr1
        go_wp2_with fail
        go_roundw
        case rel => exact ⟨k + 1, ff, acc, st', by omega, by omega, by go_num, rfl, by omega, HS1, HO1, HOK, HLN, HP2⟩
        case measure => simp [intOf]; omega
    · obtain rfl : k = s.size := by omega
      obtain ⟨X, hX⟩ : ∃ X, s.extract ff s.size = X := ⟨_, rfl⟩
      have HX : Hid (X = str (pcsAt s ff s.size)) := hide (by rw [← hX, pcsAt_str])
      have hP := HP.out
      rw [drop_nil s s.size (Nat.le_refl _), pcs] at hP
      have HP2 := hide hP
      clear hP
      go_wp2_with (refine wpList_strs_o rfl _ _ rfl w.heap.size u3 (acc.map str) rfl w wr X HS.out rfl (by rw [List.length_map]; omega) ?_; intro v2 w2 hb2 ho2 hz2; have HS2 := hide hb2; clear hb2 ho2 hz2)
      go_ret
      refine ⟨_, rfl, ?_⟩
      have h2 := HS2.out
      rw [HX.out] at h2
      rw [← HP2.out]
      simpa using h2
end Go.Proofs.YtklbdobofclofaaGreatDoor

/- Rows of [2]string that the call owns: append of one, its cells, kept by calls. No statement is proved here. -/
namespace Go.Proofs.YtklbdobofclofaaGreatDoor
open Go.RowKit
set_option linter.unusedVariables false
set_option linter.unusedSimpArgs false
def declVals (l : List DeclL) : List Value := l.flatMap fun f => [Value.string (str f.1), Value.string (str f.2)]
theorem declVals_length (l : List DeclL) : (declVals l).length = l.length * 2 := by
  induction l with
  | nil => rfl
  | cons f r ih => unfold declVals at *; rw [List.flatMap_cons, List.length_append, ih]; simp; omega
theorem declVals_at {l : List DeclL} {j : Nat} {f : DeclL} (h : l[j]? = some f) : (declVals l)[j * 2]? = some (.string (str f.1)) ∧ (declVals l)[j * 2 + 1]? = some (.string (str f.2)) := by
  induction l generalizing j with
  | nil => simp at h
  | cons g r ih =>
    cases j with
    | zero => simp at h; subst h; exact ⟨rfl, rfl⟩
    | succ j =>
      have := ih (j := j) (by simpa using h)
      have e : declVals (g :: r) = Value.string (str g.1) :: Value.string (str g.2) :: declVals r := rfl
      rw [e, show (j + 1) * 2 = j * 2 + 1 + 1 by omega]
      simpa using this
theorem declVals_append (a b : List DeclL) : declVals (a ++ b) = declVals a ++ declVals b := by unfold declVals; rw [List.flatMap_append]
/-- in w the [][2]string value v owns the fields l, in a block from B on; below B all is as in W0 -/
def DBuf (B : Nat) (v : Value) (l : List DeclL) (W0 w : World) : Prop :=
  w.ownsRow B 55 2 v l.length (declVals l) ∧ Below B W0 w ∧ B ≤ w.heap.size
theorem info_decl : (Tryz.prog.info? 55).map (fun i => (i.zero, i.size, i.bytes)) = some (some (.agg #[.string ByteArray.empty, .string ByteArray.empty]), 2, 32) := by kernel_rfl
theorem DBuf.nil {B : Nat} {W0 w : World} (hb : Below B W0 w) (hB : B ≤ w.heap.size) : DBuf B (.slice none 0 0) [] W0 w := ⟨World.ownsRow_nil w B _ 2, hb, hB⟩
theorem DBuf.below {B : Nat} {v : Value} {l : List DeclL} {W0 w : World} (h : DBuf B v l W0 w) : Below B W0 w := h.2.1
theorem DBuf.grown {B : Nat} {v v' : Value} {l l' : List DeclL} {W0 w w' : World} (h : DBuf B v l W0 w) (ho : w'.ownsRow B 55 2 v' l'.length (declVals l')) (hg : w.grownBy w' v.ownBlock) : DBuf B v' l' W0 w' :=
  ⟨ho, h.2.1.grown hg h.2.2 (fun k hk => (h.1.lt k hk).1), Nat.le_trans h.2.2 hg.size⟩
theorem DBuf.alloc {B : Nat} {v : Value} {l : List DeclL} {W0 w : World} (h : DBuf B v l W0 w) (o : Obj) : DBuf B v l W0 (w.alloc o) :=
  ⟨h.1.alloc o, h.2.1.alloc h.2.2 o, Nat.le_trans h.2.2 ((Below.refl 0 w).alloc (Nat.zero_le _) o).size⟩
theorem DBuf.drew {B : Nat} {v : Value} {l : List DeclL} {W0 w : World} (h : DBuf B v l W0 w) : DBuf B v l W0 w.drew := ⟨h.1, h.2.1.drew, h.2.2⟩
theorem DBuf.kept {B : Nat} {v : Value} {l : List DeclL} {W0 w w' : World} (h : DBuf B v l W0 w) (hb : Below w.heap.size w w') : DBuf B v l W0 w' :=
  ⟨h.1.kept (row := none) ⟨hb.os, hb.tape, hb.output, hb.size, fun k hk _ => hb.block k hk⟩ (by cases hv : v.ownBlock <;> simp), h.2.1.trans (hb.mono h.2.2), Nat.le_trans h.2.2 hb.size⟩
theorem DBuf.slice_len {B : Nat} {v : Value} {l : List DeclL} {W0 w : World} (h : DBuf B v l W0 w) : ∃ A c, v = .slice A l.length c := by
  rcases h.1.2 with ⟨rfl, h0⟩ | ⟨g, cap, cur, rfl, _⟩
  · rw [h0]; exact ⟨_, _, rfl⟩
  · exact ⟨_, _, rfl⟩
theorem DBuf.form {B : Nat} {v : Value} {l : List DeclL} {W0 w : World} (h : DBuf B v l W0 w) (hl : l ≠ []) : ∃ g cap, v = .slice (some ⟨g, 0, none⟩) l.length cap ∧ B ≤ g := by
  rcases h.1.2 with ⟨rfl, h0⟩ | ⟨g, cap, cur, rfl, hg, _⟩
  · exact absurd (List.eq_nil_of_length_eq_zero h0) hl
  · exact ⟨g, cap, rfl, hg⟩
/-- append(l, f): the one field lies at ad -/
theorem wpList_decls {ops : Array Oper} {rest : List Oper} {o : Oper} {a : Act} {Q : Exit → Act → World → Prop} {w : World} (hgd : o.guard = none) (s x : Operand)
    (ho : o.op = .call { callee := .builtin .append, args := #[s, x], argTypes := #[53, 53] })
    (B : Nat) (v : Value) (l : List DeclL) (hs : a.eval s = v) (W0 : World) (f : DeclL) (hb : DBuf B v l W0 w) (ad : Addr)
    (hx : a.eval x = .slice (some ad) 1 1) (h0 : w.cell? (ad.add 0) = some (.string (str f.1))) (h1 : w.cell? (ad.add 1) = some (.string (str f.2))) (hlen : l.length + 1 ≤ 4398046511104)
    (h : ∀ v' w', DBuf B v' (l ++ [f]) W0 w' → wpList Tryz.prog ops Q rest (a.put o.dst v') w') : wpList Tryz.prog ops Q (o :: rest) a w := by
  obtain ⟨i0, hi, hz0, hz1, hz2⟩ := info_parts info_decl
  refine wpList_append_own _ hgd s x 53 ho B 55 i0 (.agg #[.string ByteArray.empty, .string ByteArray.empty]) 2 32 Tryz.underlying53 hi hz0 hz1 hz2 rfl (by decide) v l.length (declVals l) hs hb.1 ad 1 1 [.string (str f.1), .string (str f.2)] hx rfl ?_ ?_ (by unfold maxLen; omega) (by omega) hb.2.2 ?_
  · intro j u hj
    match j, hj with
    | 0, hj => simp at hj; subst hj; exact h0
    | 1, hj => simp at hj; subst hj; exact h1
    | (j + 2), hj => simp at hj
  · intro u hu
    simp at hu
    rcases hu with rfl | rfl
    · rfl
    · rfl
  · intro v' w' ho' hg _
    exact h v' w' (hb.grown (l' := l ++ [f]) (by rw [declVals_append, List.length_append]; exact ho') hg)
/-- the same row, seen from an elder world -/
theorem DBuf.elder {B B' : Nat} {v : Value} {l : List DeclL} {W0 W' w : World} (h : DBuf B v l W0 w) (hB : B' ≤ B) (hb : Below B' W' w) : DBuf B' v l W' w := by
  refine ⟨⟨h.1.1, ?_⟩, hb, Nat.le_trans hB h.2.2⟩
  rcases h.1.2 with ⟨rfl, h0⟩ | ⟨g, cap, cur, rfl, h1, h2⟩
  · exact .inl ⟨rfl, h0⟩
  · exact .inr ⟨g, cap, cur, rfl, Nat.le_trans hB h1, h2⟩
end Go.Proofs.YtklbdobofclofaaGreatDoor

/- strings.Trim of white. No statement is proved here. -/
namespace Go.Proofs.YtklbdobofclofaaGreatDoor
open Go.RowKit
set_option linter.unusedVariables false
set_option linter.unusedSimpArgs false

theorem trim_any (s : ByteArray) (w : World) (hs : s.size ≤ maxLen) :
    Calls Tryz.prog 98 #[.string s, .string ⟨#[32, 9, 10, 12, 13]⟩] w fun e w' => e = .returned (.string (str (Lib.trimS s.data.toList whiteSet))) ∧ Below w.heap.size w w' :=
  Any.strings_Trim_laid Tryz.lays160 (by kernel_rfl) s ⟨#[32, 9, 10, 12, 13]⟩ w (by unfold maxLen at hs; omega) (by decide) (ascii_of_all (by decide))
end Go.Proofs.YtklbdobofclofaaGreatDoor

/- WALK of strings.Cut at a text of one byte. No statement is proved here. -/
namespace Go.Proofs.YtklbdobofclofaaGreatDoor
open Go.RowKit
set_option linter.unusedVariables false
set_option linter.unusedSimpArgs false

theorem index_cut (c : UInt8) (l : List UInt8) : (Lib.indexByte l c = -1 ∧ c ∉ l ∧ beforeC c l = l ∧ afterC c l = []) ∨ ∃ o : Nat, Lib.indexByte l c = o ∧ o < l.length ∧ c ∈ l ∧ beforeC c l = l.take o ∧ afterC c l = l.drop (o + 1) := by
  induction l with
  | nil => exact .inl ⟨rfl, by simp, rfl, rfl⟩
  | cons a r ih =>
    by_cases h : a = c
    · subst h
      have := cut_at a (a :: r) 0 (by simp) rfl (fun j hj => absurd hj (by omega))
      exact .inr ⟨0, by simp [Lib.indexByte], by simp, this.1, this.2.1, this.2.2⟩
    · have h1 : (a == c) = false := by simp [h]
      have h2 : (a != c) = true := by simp [h]
      have eb : beforeC c (a :: r) = a :: beforeC c r := by simp [beforeC, List.takeWhile_cons, h2]
      have ea : afterC c (a :: r) = afterC c r := by simp [afterC, List.dropWhile_cons, h2]
      rcases ih with ⟨i1, i2, i3, i4⟩ | ⟨o, i1, i2, i3, i4, i5⟩
      · refine .inl ⟨by simp [Lib.indexByte, h1, i1], ?_, by rw [eb, i3], by rw [ea, i4]⟩
        intro hm
        rcases List.mem_cons.1 hm with e | e
        · exact h e.symm
        · exact i2 e
      · have hne : ((o : Int) == -1) = false := by rw [beq_eq_false_iff_ne]; omega
        refine .inr ⟨o + 1, by simp [Lib.indexByte, h1, i1, hne], by simp; omega, List.mem_cons_of_mem _ i3, by rw [eb, i4]; rfl, by rw [ea, i5]; rfl⟩

/-- what Cut answers -/
def cutV (c : UInt8) (l : List UInt8) : Value := .tuple #[.string (str (beforeC c l)), .string (str (afterC c l)), .bool (hasC c l)]
theorem ret_cut {a b x y : ByteArray} {d e : Bool} (h : a = b) (h' : x = y) (h'' : d = e) : Ending.returned (.tuple #[.string a, .string x, .bool d]) = .returned (.tuple #[.string b, .string y, .bool e]) := by rw [h, h', h'']
set_option maxHeartbeats 1000000 in
theorem cut_any (s : ByteArray) (c : UInt8) (w : World) (hs : s.size ≤ 70368744177664) :
    Calls Tryz.prog 90 #[.string s, .string ⟨#[c]⟩] w fun e w' => e = .returned (cutV c s.data.toList) ∧ Below w.heap.size w w' := by
  have hz : (⟨#[c]⟩ : ByteArray).size = 1 := rfl
  rcases index_cut c s.data.toList with ⟨i1, i2, i3, i4⟩ | ⟨o, i1, i2, i3, i4, i5⟩
  · have I1 := hide i1
    have I2 := hide i2
    have I3 := hide i3
    have I4 := hide i4
    clear i1 i2 i3 i4
    go_enter Tryz.func90, Tryz.ntmps90
    go_wp2_with fail
    refine (Tryz.stringslite_Index_one s c _).mono ?_
    rintro e w1 ⟨rfl, hw⟩
    subst hw
    rw [I1.out]
    go_wp2_with fail
    go_ret3
    exact ⟨ret_cut (by rw [I3.out, str_of]) (by rw [I4.out]; rfl) (by rw [hasC_false I2.out]), Below.refl _ _⟩
  · have I1 := hide i1
    have I3 := hide i3
    have I4 := hide i4
    have I5 := hide i5
    rw [toList_length] at i2
    have o1 : (o : Int) + 1 ≤ s.size := by omega
    have o0 : (0 : Int) ≤ o := by omega
    have o2 : (o : Int) ≤ s.size := by omega
    have o3 : (0 : Int) ≤ (o : Int) + 1 := by omega
    have o4 : ((o : Int) + 1).toNat = o + 1 := by omega
    clear i1 i3 i4 i5
    go_enter Tryz.func90, Tryz.ntmps90
    go_wp2_with fail
    refine (Tryz.stringslite_Index_one s c _).mono ?_
    rintro e w1 ⟨rfl, hw⟩
    subst hw
    rw [I1.out]
    go_wp2_with fail
    go_region
    all_goals (try go_wp2)
    all_goals
      go_ret3
      exact ⟨ret_cut (ext_list (by rw [extract_list, List.drop_zero, str_toList, I4.out])) (ext_list (by rw [extract_end, str_toList, I5.out])) (by rw [hasC_true I3.out]), (Below.refl _ _).drew⟩

set_option maxHeartbeats 1000000 in
theorem strCut_any (s : ByteArray) (c : UInt8) (w : World) (hs : s.size ≤ 70368744177664) :
    Calls Tryz.prog 70 #[.string s, .string ⟨#[c]⟩] w fun e w' => e = .returned (cutV c s.data.toList) ∧ Below w.heap.size w w' := by
  go_enter Tryz.func70, Tryz.ntmps70
  go_wp2_with fail
  refine (cut_any s c _ hs).mono ?_
  rintro e w1 ⟨rfl, hb⟩
  unfold cutV
  go_wp2_with fail
  go_ret3
  exact ⟨rfl, hb⟩
end Go.Proofs.YtklbdobofclofaaGreatDoor

