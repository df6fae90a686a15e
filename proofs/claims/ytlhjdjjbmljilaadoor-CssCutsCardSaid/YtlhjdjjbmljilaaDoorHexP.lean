/- Plain functions on bytes: hexadecimal digits. No program is named here. No statement is proved here. -/
import Derived.Test.YtlhjdjjbmljilaaDoorKit
namespace Go.Proofs.YtlhjdjjbmljilaaDoor
set_option linter.unusedVariables false
set_option linter.unusedSimpArgs false

def hexDigits : List UInt8 := [48, 49, 50, 51, 52, 53, 54, 55, 56, 57, 65, 66, 67, 68, 69, 70]
/-- a digit's capital -/
def upHex (c : UInt8) : UInt8 := if 97 ≤ c ∧ c ≤ 102 then c - 32 else c
/-- a hexadecimal digit's number; 16: it is none -/
def hexN (c : UInt8) : Nat := hexDigits.idxOf (upHex c)
theorem hexN_le (c : UInt8) : hexN c ≤ 16 := by unfold hexN; exact List.idxOf_le_length
/-- the byte of two hexadecimal digits that are ahead -/
def hex2 : List UInt8 → Option UInt8
  | a :: b :: _ => if hexN a < 16 ∧ hexN b < 16 then some (UInt8.ofNat (16 * hexN a + hexN b)) else none
  | _ => none
theorem hex2_len {r : List UInt8} {b : UInt8} (h : hex2 r = some b) : 2 ≤ r.length := by
  match r, h with
  | _ :: _ :: _, _ => simp
/-- the two digits of a byte -/
def hexHi (c : UInt8) : UInt8 := hexDigits.getD (c.toNat / 16) 0
def hexLo (c : UInt8) : UInt8 := hexDigits.getD (c.toNat % 16) 0
theorem hex_facts (c : UInt8) : hexN (hexHi c) < 16 ∧ hexN (hexLo c) < 16 ∧ UInt8.ofNat (16 * hexN (hexHi c) + hexN (hexLo c)) = c ∧ hexLo c ≠ 32 ∧ hexLo c ≠ 10 ∧ hexHi c ≠ 10 ∧ 32 ≤ (hexLo c).toNat ∧ (hexLo c).toNat ≤ 126 ∧ 32 ≤ (hexHi c).toNat ∧ (hexHi c).toNat ≤ 126 :=
  u8_all (p := fun c => hexN (hexHi c) < 16 ∧ hexN (hexLo c) < 16 ∧ UInt8.ofNat (16 * hexN (hexHi c) + hexN (hexLo c)) = c ∧ hexLo c ≠ 32 ∧ hexLo c ≠ 10 ∧ hexHi c ≠ 10 ∧ 32 ≤ (hexLo c).toNat ∧ (hexLo c).toNat ≤ 126 ∧ 32 ≤ (hexHi c).toNat ∧ (hexHi c).toNat ≤ 126) (by decide +kernel) c
theorem upHex_case (c : UInt8) : (97 ≤ c.toNat ∧ c.toNat ≤ 102 ∧ upHex c = c - 32 ∧ (c - 32).toNat = c.toNat - 32) ∨ (¬ (97 ≤ c.toNat ∧ c.toNat ≤ 102) ∧ upHex c = c) :=
  u8_all (p := fun c => (97 ≤ c.toNat ∧ c.toNat ≤ 102 ∧ upHex c = c - 32 ∧ (c - 32).toNat = c.toNat - 32) ∨ (¬ (97 ≤ c.toNat ∧ c.toNat ≤ 102) ∧ upHex c = c)) (by decide +kernel) c
theorem hexN_val (c : UInt8) : hexN c = if 48 ≤ c.toNat ∧ c.toNat ≤ 57 then c.toNat - 48 else if 65 ≤ c.toNat ∧ c.toNat ≤ 70 then c.toNat - 55 else if 97 ≤ c.toNat ∧ c.toNat ≤ 102 then c.toNat - 87 else 16 :=
  u8_all (p := fun c => hexN c = if 48 ≤ c.toNat ∧ c.toNat ≤ 57 then c.toNat - 48 else if 65 ≤ c.toNat ∧ c.toNat ≤ 70 then c.toNat - 55 else if 97 ≤ c.toNat ∧ c.toNat ≤ 102 then c.toNat - 87 else 16) (by decide +kernel) c
/-- what 'digit' answers -/
def digV (n : Nat) : Value := .tuple #[.int .u8 (if n < 16 then n else 0), .bool (decide (n < 16))]
theorem hexV (n : Nat) : (n < 16 ∧ digV n = .tuple #[.int .u8 n, .bool true]) ∨ ¬ n < 16 ∧ digV n = .tuple #[.int .u8 0, .bool false] := by
  by_cases h : n < 16
  · exact .inl ⟨h, by simp [digV, h]⟩
  · exact .inr ⟨h, by simp [digV, h]⟩
/-- what 'FromHex' answers -/
def fromHexV (r : List UInt8) : Value := .tuple #[.int .u8 ((hex2 r).elim 0 fun b => b.toNat), .bool (hex2 r).isSome]
theorem idx_eq {x : UInt8} {l r : List UInt8} (h : l = x :: r) : l.idxOf x = 0 := by
  subst h; simp
theorem idx_ne {d x : UInt8} {l r : List UInt8} (h : l = x :: r) (e : x ≠ d) : l.idxOf d = r.idxOf d + 1 := by
  subst h
  rw [List.idxOf_cons]
  have : (x == d) = false := by simp [e]
  rw [this]; rfl
theorem or_nibbles (h l : Nat) (hh : h < 16) (hl : l < 16) : bits .or .u8 ((h : Int) * 16) (l : Int) = ((16 * h + l : Nat) : Int) := by
  have : ∀ h, h < 16 → ∀ l, l < 16 → bits .or .u8 (((h : Nat) : Int) * 16) ((l : Nat) : Int) = ((16 * h + l : Nat) : Int) := by decide +kernel
  exact this h hh l hl
theorem and15 (c : Nat) (h : c < 256) : bits .and .u8 (c : Int) 15 = (c : Int) % 16 := by
  have : ∀ c, c < 256 → bits .and .u8 ((c : Nat) : Int) 15 = ((c : Nat) : Int) % 16 := by decide +kernel
  exact this c h
theorem digit_at (i : Nat) (h : i < (⟨#[48, 49, 50, 51, 52, 53, 54, 55, 56, 57, 65, 66, 67, 68, 69, 70]⟩ : ByteArray).size) :
    UInt8.ofNat ((((⟨#[48, 49, 50, 51, 52, 53, 54, 55, 56, 57, 65, 66, 67, 68, 69, 70]⟩ : ByteArray)[i].toNat : Nat) : Int)).toNat = hexDigits.getD i 0 := by
  rw [Int.toNat_natCast, UInt8.ofNat_toNat]
  have h' : i < hexDigits.length := h
  have e : hexDigits.getD i 0 = hexDigits[i] := by rw [List.getD_eq_getElem?_getD, List.getElem?_eq_getElem h']; rfl
  rw [e]; rfl
theorem extract1 (i : Nat) (h : i < 16) : (⟨#[48, 49, 50, 51, 52, 53, 54, 55, 56, 57, 65, 66, 67, 68, 69, 70]⟩ : ByteArray).extract i (i + 1) = str [hexDigits.getD i 0] := by
  have : ∀ i, i < 16 → ((⟨#[48, 49, 50, 51, 52, 53, 54, 55, 56, 57, 65, 66, 67, 68, 69, 70]⟩ : ByteArray).extract i (i + 1)).data.toList = [hexDigits.getD i 0] := by decide +kernel
  exact ext_list (this i h)
/-- what the reference's Hex answers -/
def hexI (c : UInt8) : Int := if hexN c < 16 then hexN c else -1
theorem hexI_pos {c : UInt8} (h : hexN c < 16) : hexI c = (hexN c : Nat) := by simp [hexI, h]
theorem hexI_neg {c : UInt8} (h : ¬ hexN c < 16) : hexI c = -1 := by simp [hexI, h]
end Go.Proofs.YtlhjdjjbmljilaaDoor
