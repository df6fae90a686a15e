/- Plain functions on lists of bytes for the package qp: what its functions and the reference's compute, and facts on them. No program is named here. No statement is proved here. -/
import Derived.Test.YtlllboleinnfiaaHexP
namespace Go.Proofs.Ytlllboleinnfiaa
set_option linter.unusedVariables false
set_option linter.unusedSimpArgs false

/-- a blank or a tab -/
def isW (c : UInt8) : Bool := c == 32 || c == 9
/-- how many blanks and tabs are ahead -/
def whiteN (l : List UInt8) : Nat := (l.takeWhile isW).length
/-- the bytes of the line's end that is ahead; 0: none -/
def eolN : List UInt8 → Nat
  | a :: l => if a = 10 then 1 else if a = 13 ∧ l.head? = some 10 then 2 else 0
  | [] => 0

theorem whiteN_le (l : List UInt8) : whiteN l ≤ l.length := (List.takeWhile_sublist _).length_le
theorem whiteN_nil : whiteN [] = 0 := rfl
theorem whiteN_yes {c : UInt8} {l : List UInt8} (h : isW c = true) : whiteN (c :: l) = whiteN l + 1 := by simp [whiteN, h]
theorem whiteN_no {c : UInt8} {l : List UInt8} (h : isW c = false) : whiteN (c :: l) = 0 := by simp [whiteN, h]
theorem eolN_le (l : List UInt8) : eolN l ≤ 2 ∧ eolN l ≤ l.length := by
  unfold eolN
  split
  · split
    · simp
    · split
      · rename_i h; cases ‹List UInt8› <;> simp_all
      · simp
  · simp

/-- may a byte stand for itself? -/
def plainB (c : UInt8) : Bool := 32 ≤ c && c ≤ 126 && c != 61
/-- what a '=' with r behind it stands for, and how many bytes belong to it -/
def eqF (r : List UInt8) : List UInt8 × Nat :=
  match hex2 r with
  | some b => ([b], 3)
  | none => if 0 < eolN (r.drop (whiteN r)) then ([], 1 + whiteN r + eolN (r.drop (whiteN r))) else ([61], 1)
/-- what stands for a byte -/
def sign (c : UInt8) (last : Bool) : List UInt8 := if plainB c && !(c == 32 && last) then [c] else [61, hexHi c, hexLo c]
theorem sign_length (c : UInt8) (last : Bool) : 1 ≤ (sign c last).length ∧ (sign c last).length ≤ 3 := by
  unfold sign; split <;> simp
/-- a blank at the end becomes a code -/
def guardL (l : List UInt8) : List UInt8 := if l.getLast? = some 32 then l.dropLast ++ [61, 50, 48] else l
theorem guardL_nil : guardL [] = [] := rfl
theorem guardL_blank (l : List UInt8) : guardL (l ++ [32]) = l ++ [61, 50, 48] := by simp [guardL]
theorem guardL_other (l : List UInt8) {c : UInt8} (h : c ≠ 32) : guardL (l ++ [c]) = l ++ [c] := by simp [guardL, h]
theorem guardL_length (l : List UInt8) : (guardL l).length ≤ l.length + 2 := by
  unfold guardL
  split
  · rename_i h
    have : l ≠ [] := by rintro rfl; cases h
    have := List.length_pos_iff.2 this
    rw [List.length_append, List.length_dropLast]; simp; omega
  · omega
/-- the signs of l behind what is written already, whose last line has so many bytes -/
def encGo (out : List UInt8) (line : Nat) : List UInt8 → List UInt8
  | [] => out
  | c :: r => if 75 < line + (sign c (r.isEmpty)).length then encGo (guardL out ++ [61, 10] ++ sign c r.isEmpty) (sign c r.isEmpty).length r else encGo (out ++ sign c r.isEmpty) (line + (sign c r.isEmpty).length) r
def enc (l : List UInt8) : List UInt8 := encGo [] 0 l
end Go.Proofs.Ytlllboleinnfiaa
