/- Plain functions on lists of bytes for the package b64: what its functions and the reference's compute, and facts on them. No statement is proved here. -/
import Derived.Test.YtiojfknphpnlhaaDoorKit
namespace Go.Proofs.YtiojfknphpnlhaaDoor
set_option linter.unusedVariables false
set_option linter.unusedSimpArgs false

def letters64 : List UInt8 := [65, 66, 67, 68, 69, 70, 71, 72, 73, 74, 75, 76, 77, 78, 79, 80, 81, 82, 83, 84, 85, 86, 87, 88, 89, 90, 97, 98, 99, 100, 101, 102, 103, 104, 105, 106, 107, 108, 109, 110, 111, 112, 113, 114, 115, 116, 117, 118, 119, 120, 121, 122, 48, 49, 50, 51, 52, 53, 54, 55, 56, 57, 43, 47]
/-- the n-th letter -/
def letter (n : Nat) : UInt8 := letters64.getD n 0
/-- a letter's number; 64: it is none -/
def val (c : UInt8) : Nat := letters64.idxOf c
theorem val_le (c : UInt8) : val c ≤ 64 := List.idxOf_le_length
theorem val_ranges (c : UInt8) : val c = if 65 ≤ c.toNat ∧ c.toNat ≤ 90 then c.toNat - 65 else if 97 ≤ c.toNat ∧ c.toNat ≤ 122 then c.toNat - 97 + 26 else if 48 ≤ c.toNat ∧ c.toNat ≤ 57 then c.toNat - 48 + 52 else if c.toNat = 43 then 62 else if c.toNat = 47 then 63 else 64 :=
  u8_all (p := fun c => val c = if 65 ≤ c.toNat ∧ c.toNat ≤ 90 then c.toNat - 65 else if 97 ≤ c.toNat ∧ c.toNat ≤ 122 then c.toNat - 97 + 26 else if 48 ≤ c.toNat ∧ c.toNat ≤ 57 then c.toNat - 48 + 52 else if c.toNat = 43 then 62 else if c.toNat = 47 then 63 else 64) (by decide +kernel) c
theorem letter_facts (n : Nat) (h : n < 64) : val (letter n) = n ∧ letter n ≠ 61 := by
  have : ∀ n, n < 64 → val (letter n) = n ∧ letter n ≠ 61 := by decide +kernel
  exact this n h

/-- the letters of the bytes to come, where h bits of the number w are waiting -/
def encFrom : Nat → Nat → List UInt8 → List UInt8
  | h, w, [] => if h = 0 then [] else if h = 2 then [letter (w * 16), 61, 61] else [letter (w * 4), 61]
  | h, w, c :: r => if h = 0 then letter (c.toNat / 4) :: encFrom 2 (c.toNat % 4) r
      else if h = 2 then letter (w * 16 + c.toNat / 16) :: encFrom 4 (c.toNat % 16) r
      else letter (w * 4 + c.toNat / 64) :: letter (c.toNat % 64) :: encFrom 0 0 r
def encB (l : List UInt8) : List UInt8 := encFrom 0 0 l

/-- the bytes of the letters to come, where h bits of the number w are waiting -/
def decFrom : Nat → Nat → List UInt8 → List UInt8
  | _, _, [] => []
  | h, w, c :: r => if val c = 64 then decFrom h w r
      else if h + 6 < 8 then decFrom (h + 6) (w * 64 + val c) r
      else UInt8.ofNat ((w * 64 + val c) / 2 ^ (h - 2)) :: decFrom (h - 2) ((w * 64 + val c) % 2 ^ (h - 2)) r
/-- what stands ahead of the sign of the end -/
def ahead (l : List UInt8) : List UInt8 := l.takeWhile fun c => c != 61
def decB (l : List UInt8) : List UInt8 := decFrom 0 0 (ahead l)

/-- line ends between each two stretches of n bytes -/
def wrapL (n : Nat) (l : List UInt8) : List UInt8 := if h : 0 < n ∧ n < l.length then l.take n ++ [13, 10] ++ wrapL n (l.drop n) else l
termination_by l.length
decreasing_by rw [List.length_drop]; omega
theorem wrapL_go {n : Nat} {l : List UInt8} (h0 : 0 < n) (h : n < l.length) : wrapL n l = l.take n ++ [13, 10] ++ wrapL n (l.drop n) := by rw [wrapL, dif_pos ⟨h0, h⟩]
theorem wrapL_end {n : Nat} {l : List UInt8} (h : ¬ n < l.length) : wrapL n l = l := by rw [wrapL, dif_neg (fun x => h x.2)]
theorem encFrom_length (l : List UInt8) : ∀ h w, (encFrom h w l).length ≤ 2 * l.length + 3 := by
  induction l with
  | nil => intro h w; simp only [encFrom]; repeat' split
           all_goals simp
  | cons c r ih =>
    intro h w
    simp only [encFrom]
    have h1 := ih 2 (c.toNat % 4)
    have h2 := ih 4 (c.toNat % 16)
    have h3 := ih 0 0
    repeat' split
    all_goals (simp only [List.length_cons]; omega)
theorem encB_length (l : List UInt8) : (encB l).length ≤ 2 * l.length + 3 := encFrom_length l 0 0
end Go.Proofs.YtiojfknphpnlhaaDoor
