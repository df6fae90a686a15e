/- More of the first texts of this claim in one: each with its own head. No statement is proved here. -/
import Derived.Test.YtgokefodmjhhiaaGreatDoorBaseM
import Derived.Test.YtgokefodmjhhiaaGreatDoorShelf
import Derived.Laws.Runes
import Derived.WalkMore
import Derived.Laws.RangeAny
import Derived.Shelf.Strings.IndexAnyAll
import Derived.Shelf.Strings.SlTrimAscii
import Derived.BigQuiet
import Derived.Deep.QuietTactic
import Derived.Laws.AppendOwnNone
import Derived.Lib.Builder
import Derived.Laws.Externs
import Derived.Maps.Own
import Derived.Maps.OwnSet
import Derived.Maps.Views
import Derived.Lib.SlTrimSet
import Derived.Lib.OthersKept
/- PURE: layer 18: which elements stay, are dropped, are opened; which attributes may be. No statement is proved here. Own work of the verifier. -/
namespace Go.Proofs.YtgokefodmjhhiaaGreatDoor
set_option linter.unusedVariables false
set_option linter.unusedSimpArgs false
def staysL : List (List UInt8) := [
  [97],
  [98],
  [98, 108, 111, 99, 107, 113, 117, 111, 116, 101],
  [98, 114],
  [99, 111, 100, 101],
  [100, 100],
  [100, 105, 118],
  [100, 108],
  [100, 116],
  [101, 109],
  [104, 49],
  [104, 50],
  [104, 51],
  [104, 52],
  [104, 53],
  [104, 54],
  [104, 114],
  [105],
  [105, 109, 103],
  [108, 105],
  [111, 108],
  [112],
  [112, 114, 101],
  [115],
  [115, 109, 97, 108, 108],
  [115, 112, 97, 110],
  [115, 116, 114, 111, 110, 103],
  [115, 117, 98],
  [115, 117, 112],
  [117],
  [117, 108]]
def dropsL : List (List UInt8) := [
  [97, 112, 112, 108, 101, 116],
  [97, 117, 100, 105, 111],
  [98, 97, 115, 101],
  [98, 117, 116, 116, 111, 110],
  [99, 97, 110, 118, 97, 115],
  [101, 109, 98, 101, 100],
  [102, 114, 97, 109, 101],
  [102, 114, 97, 109, 101, 115, 101, 116],
  [104, 101, 97, 100],
  [105, 110, 112, 117, 116],
  [108, 105, 110, 107],
  [109, 97, 116, 104],
  [109, 101, 116, 97],
  [111, 98, 106, 101, 99, 116],
  [111, 112, 116, 105, 111, 110],
  [115, 101, 108, 101, 99, 116],
  [115, 111, 117, 114, 99, 101],
  [115, 118, 103],
  [116, 101, 109, 112, 108, 97, 116, 101],
  [116, 114, 97, 99, 107],
  [118, 105, 100, 101, 111]]
def rawL : List (List UInt8) := [
  [115, 99, 114, 105, 112, 116],
  [115, 116, 121, 108, 101],
  [116, 105, 116, 108, 101],
  [116, 101, 120, 116, 97, 114, 101, 97],
  [120, 109, 112],
  [105, 102, 114, 97, 109, 101],
  [110, 111, 101, 109, 98, 101, 100],
  [110, 111, 102, 114, 97, 109, 101, 115],
  [112, 108, 97, 105, 110, 116, 101, 120, 116],
  [110, 111, 115, 99, 114, 105, 112, 116]]
theorem staysL_cases (n : List UInt8) (h : staysL.contains n = true) : n = [97] ∨ n = [98] ∨ n = [98, 108, 111, 99, 107, 113, 117, 111, 116, 101] ∨ n = [98, 114] ∨ n = [99, 111, 100, 101] ∨ n = [100, 100] ∨ n = [100, 105, 118] ∨ n = [100, 108] ∨ n = [100, 116] ∨ n = [101, 109] ∨ n = [104, 49] ∨ n = [104, 50] ∨ n = [104, 51] ∨ n = [104, 52] ∨ n = [104, 53] ∨ n = [104, 54] ∨ n = [104, 114] ∨ n = [105] ∨ n = [105, 109, 103] ∨ n = [108, 105] ∨ n = [111, 108] ∨ n = [112] ∨ n = [112, 114, 101] ∨ n = [115] ∨ n = [115, 109, 97, 108, 108] ∨ n = [115, 112, 97, 110] ∨ n = [115, 116, 114, 111, 110, 103] ∨ n = [115, 117, 98] ∨ n = [115, 117, 112] ∨ n = [117] ∨ n = [117, 108] := by
  simpa [staysL] using h
theorem staysL_none (n : List UInt8) (h : staysL.contains n = false) : n ≠ [97] ∧ n ≠ [98] ∧ n ≠ [98, 108, 111, 99, 107, 113, 117, 111, 116, 101] ∧ n ≠ [98, 114] ∧ n ≠ [99, 111, 100, 101] ∧ n ≠ [100, 100] ∧ n ≠ [100, 105, 118] ∧ n ≠ [100, 108] ∧ n ≠ [100, 116] ∧ n ≠ [101, 109] ∧ n ≠ [104, 49] ∧ n ≠ [104, 50] ∧ n ≠ [104, 51] ∧ n ≠ [104, 52] ∧ n ≠ [104, 53] ∧ n ≠ [104, 54] ∧ n ≠ [104, 114] ∧ n ≠ [105] ∧ n ≠ [105, 109, 103] ∧ n ≠ [108, 105] ∧ n ≠ [111, 108] ∧ n ≠ [112] ∧ n ≠ [112, 114, 101] ∧ n ≠ [115] ∧ n ≠ [115, 109, 97, 108, 108] ∧ n ≠ [115, 112, 97, 110] ∧ n ≠ [115, 116, 114, 111, 110, 103] ∧ n ≠ [115, 117, 98] ∧ n ≠ [115, 117, 112] ∧ n ≠ [117] ∧ n ≠ [117, 108] := by
  simpa [staysL] using h
theorem dropsL_cases (n : List UInt8) (h : dropsL.contains n = true) : n = [97, 112, 112, 108, 101, 116] ∨ n = [97, 117, 100, 105, 111] ∨ n = [98, 97, 115, 101] ∨ n = [98, 117, 116, 116, 111, 110] ∨ n = [99, 97, 110, 118, 97, 115] ∨ n = [101, 109, 98, 101, 100] ∨ n = [102, 114, 97, 109, 101] ∨ n = [102, 114, 97, 109, 101, 115, 101, 116] ∨ n = [104, 101, 97, 100] ∨ n = [105, 110, 112, 117, 116] ∨ n = [108, 105, 110, 107] ∨ n = [109, 97, 116, 104] ∨ n = [109, 101, 116, 97] ∨ n = [111, 98, 106, 101, 99, 116] ∨ n = [111, 112, 116, 105, 111, 110] ∨ n = [115, 101, 108, 101, 99, 116] ∨ n = [115, 111, 117, 114, 99, 101] ∨ n = [115, 118, 103] ∨ n = [116, 101, 109, 112, 108, 97, 116, 101] ∨ n = [116, 114, 97, 99, 107] ∨ n = [118, 105, 100, 101, 111] := by
  simpa [dropsL] using h
theorem dropsL_none (n : List UInt8) (h : dropsL.contains n = false) : n ≠ [97, 112, 112, 108, 101, 116] ∧ n ≠ [97, 117, 100, 105, 111] ∧ n ≠ [98, 97, 115, 101] ∧ n ≠ [98, 117, 116, 116, 111, 110] ∧ n ≠ [99, 97, 110, 118, 97, 115] ∧ n ≠ [101, 109, 98, 101, 100] ∧ n ≠ [102, 114, 97, 109, 101] ∧ n ≠ [102, 114, 97, 109, 101, 115, 101, 116] ∧ n ≠ [104, 101, 97, 100] ∧ n ≠ [105, 110, 112, 117, 116] ∧ n ≠ [108, 105, 110, 107] ∧ n ≠ [109, 97, 116, 104] ∧ n ≠ [109, 101, 116, 97] ∧ n ≠ [111, 98, 106, 101, 99, 116] ∧ n ≠ [111, 112, 116, 105, 111, 110] ∧ n ≠ [115, 101, 108, 101, 99, 116] ∧ n ≠ [115, 111, 117, 114, 99, 101] ∧ n ≠ [115, 118, 103] ∧ n ≠ [116, 101, 109, 112, 108, 97, 116, 101] ∧ n ≠ [116, 114, 97, 99, 107] ∧ n ≠ [118, 105, 100, 101, 111] := by
  simpa [dropsL] using h
theorem rawL_cases (n : List UInt8) (h : rawL.contains n = true) : n = [115, 99, 114, 105, 112, 116] ∨ n = [115, 116, 121, 108, 101] ∨ n = [116, 105, 116, 108, 101] ∨ n = [116, 101, 120, 116, 97, 114, 101, 97] ∨ n = [120, 109, 112] ∨ n = [105, 102, 114, 97, 109, 101] ∨ n = [110, 111, 101, 109, 98, 101, 100] ∨ n = [110, 111, 102, 114, 97, 109, 101, 115] ∨ n = [112, 108, 97, 105, 110, 116, 101, 120, 116] ∨ n = [110, 111, 115, 99, 114, 105, 112, 116] := by
  simpa [rawL] using h
theorem rawL_none (n : List UInt8) (h : rawL.contains n = false) : n ≠ [115, 99, 114, 105, 112, 116] ∧ n ≠ [115, 116, 121, 108, 101] ∧ n ≠ [116, 105, 116, 108, 101] ∧ n ≠ [116, 101, 120, 116, 97, 114, 101, 97] ∧ n ≠ [120, 109, 112] ∧ n ≠ [105, 102, 114, 97, 109, 101] ∧ n ≠ [110, 111, 101, 109, 98, 101, 100] ∧ n ≠ [110, 111, 102, 114, 97, 109, 101, 115] ∧ n ≠ [112, 108, 97, 105, 110, 116, 101, 120, 116] ∧ n ≠ [110, 111, 115, 99, 114, 105, 112, 116] := by
  simpa [rawL] using h
def elemN (n : List UInt8) : Nat := if staysL.contains n = true then 2 else if dropsL.contains n = true then 0 else if rawL.contains n = true then 0 else 1
theorem elemN_le (n : List UInt8) : elemN n ≤ 2 := by unfold elemN; cases staysL.contains n <;> cases dropsL.contains n <;> cases rawL.contains n <;> simp
def wordsL : List (List UInt8) := [
  [116, 105, 116, 108, 101],
  [100, 105, 114],
  [108, 97, 110, 103],
  [115, 116, 121, 108, 101]]
def imgL : List (List UInt8) := [
  [115, 114, 99],
  [97, 108, 116],
  [119, 105, 100, 116, 104],
  [104, 101, 105, 103, 104, 116]]
/-- may an attribute be at all? -/
def attrB (e n : List UInt8) : Bool :=
  if wordsL.contains n = true then ((elemN e : Nat) : Int) == 2
  else if n = [104, 114, 101, 102] then e == [97]
  else if imgL.contains n = true then e == [105, 109, 103]
  else if n = [115, 116, 97, 114, 116] then e == [111, 108]
  else if n = [118, 97, 108, 117, 101] then e == [108, 105]
  else false
def attrsL : List (List UInt8) := [
  [116, 105, 116, 108, 101],
  [100, 105, 114],
  [108, 97, 110, 103],
  [115, 116, 121, 108, 101],
  [104, 114, 101, 102],
  [115, 114, 99],
  [97, 108, 116],
  [119, 105, 100, 116, 104],
  [104, 101, 105, 103, 104, 116],
  [115, 116, 97, 114, 116],
  [118, 97, 108, 117, 101]]
theorem attrsL_cases (n : List UInt8) (h : attrsL.contains n = true) : n = [116, 105, 116, 108, 101] ∨ n = [100, 105, 114] ∨ n = [108, 97, 110, 103] ∨ n = [115, 116, 121, 108, 101] ∨ n = [104, 114, 101, 102] ∨ n = [115, 114, 99] ∨ n = [97, 108, 116] ∨ n = [119, 105, 100, 116, 104] ∨ n = [104, 101, 105, 103, 104, 116] ∨ n = [115, 116, 97, 114, 116] ∨ n = [118, 97, 108, 117, 101] := by
  simpa [attrsL] using h
theorem attrsL_none (n : List UInt8) (h : attrsL.contains n = false) : n ≠ [116, 105, 116, 108, 101] ∧ n ≠ [100, 105, 114] ∧ n ≠ [108, 97, 110, 103] ∧ n ≠ [115, 116, 121, 108, 101] ∧ n ≠ [104, 114, 101, 102] ∧ n ≠ [115, 114, 99] ∧ n ≠ [97, 108, 116] ∧ n ≠ [119, 105, 100, 116, 104] ∧ n ≠ [104, 101, 105, 103, 104, 116] ∧ n ≠ [115, 116, 97, 114, 116] ∧ n ≠ [118, 97, 108, 117, 101] := by
  simpa [attrsL] using h
theorem attrB_none (e n : List UInt8) (h : attrsL.contains n = false) : attrB e n = false := by
  have h2 := attrsL_none n h
  unfold attrB
  simp [wordsL, imgL, h2]
theorem attrB_off (e n : List UInt8) (h : elemN e ≠ 2) : attrB e n = false := by
  have h1 : ∀ x : List UInt8, elemN x = 2 → (e == x) = false := fun x hx => beq_eq_false_iff_ne.2 (fun e1 => h (by rw [e1]; exact hx))
  have h2 : (((elemN e : Nat) : Int) == 2) = false := beq_eq_false_iff_ne.2 (by omega)
  unfold attrB
  rw [h1 [97] (by decide +kernel), h1 [105, 109, 103] (by decide +kernel), h1 [111, 108] (by decide +kernel), h1 [108, 105] (by decide +kernel), h2]
  repeat' split
  all_goals rfl
end Go.Proofs.YtgokefodmjhhiaaGreatDoor

/- PURE: layer 13 on lists of bytes, by any reading of references: a tag, its attributes, tokens, a document taken apart. No statement is proved here. Own work of the verifier. -/
namespace Go.Proofs.YtgokefodmjhhiaaGreatDoor
set_option linter.unusedVariables false
set_option linter.unusedSimpArgs false
/-- an attribute: its name, its value -/
abbrev AtL := List UInt8 × List UInt8
/-- a token -/
structure TokL where
  kind : Nat
  name : List UInt8
  attrs : List AtL
  text : List UInt8
def whB (c : UInt8) : Bool := c == 32 || (c == 9 || (c == 10 || (c == 12 || c == 13)))
def whs (c : UInt8) : Bool := whB c || c == 47
def nameEndB (c : UInt8) : Bool := whB c || (c == 47 || c == 62)
def attrEndB (c : UInt8) : Bool := nameEndB c || c == 61
def valueEndB (c : UInt8) : Bool := whB c || c == 62
/-- all up to the first byte of some, and the others -/
def upL (p : UInt8 → Bool) (l : List UInt8) : List UInt8 × List UInt8 := (l.takeWhile fun c => !p c, l.dropWhile fun c => !p c)
theorem upL_len (p : UInt8 → Bool) (l : List UInt8) : (upL p l).1.length + (upL p l).2.length = l.length := by
  unfold upL
  rw [← List.length_append, List.takeWhile_append_dropWhile]
theorem drop_len (p : UInt8 → Bool) (l : List UInt8) : (l.dropWhile p).length ≤ l.length := (List.dropWhile_sublist p).length_le
theorem afterC_le13 (c : UInt8) (l : List UInt8) : (afterC c l).length ≤ l.length := by
  unfold afterC; have := drop_len (fun x => x != c) l
  rw [List.length_drop]; omega
/-- an attribute's value, and what stands behind it -/
def valueL (l : List UInt8) : List UInt8 × List UInt8 := match l with
  | [] => ([], [])
  | c :: r => if c = 34 then (beforeC 34 r, afterC 34 r) else if c = 39 then (beforeC 39 r, afterC 39 r) else upL valueEndB (c :: r)
theorem valueL_len (l : List UInt8) : (valueL l).2.length ≤ l.length := by
  unfold valueL
  cases l with
  | nil => exact Nat.le_refl _
  | cons c r =>
    simp only
    split
    · have := afterC_le13 34 r
      simp only [List.length_cons]; omega
    · split
      · have := afterC_le13 39 r
        simp only [List.length_cons]; omega
      · have := upL_len valueEndB (c :: r)
        omega
/-- an attribute that stands at the begin, and what stands behind it -/
def attrL (dec : List UInt8 → List UInt8) (l : List UInt8) : AtL × List UInt8 := match l with
  | [] => (([], []), [])
  | c :: r =>
    match (upL attrEndB r).2.dropWhile whB with
    | 61 :: b => ((lowL (c :: (upL attrEndB r).1), dec (valueL (b.dropWhile whB)).1), (valueL (b.dropWhile whB)).2)
    | _ => ((lowL (c :: (upL attrEndB r).1), []), (upL attrEndB r).2)
theorem attrL_len (dec : List UInt8 → List UInt8) (c : UInt8) (r : List UInt8) : (attrL dec (c :: r)).2.length ≤ r.length := by
  have h1 := upL_len attrEndB r
  have h2 := drop_len whB (upL attrEndB r).2
  unfold attrL
  simp only
  split
  · rename_i b hb
    rw [hb] at h2
    have h3 := drop_len whB b
    have h4 := valueL_len (b.dropWhile whB)
    simp only [List.length_cons] at h2
    show (valueL (b.dropWhile whB)).2.length ≤ _
    omega
  · show (upL attrEndB r).2.length ≤ _
    omega
theorem attrL_val {dec : List UInt8 → List UInt8} {c : UInt8} {r b : List UInt8} (h : (upL attrEndB r).2.dropWhile whB = 61 :: b) :
    attrL dec (c :: r) = ((lowL (c :: (upL attrEndB r).1), dec (valueL (b.dropWhile whB)).1), (valueL (b.dropWhile whB)).2) := by
  unfold attrL
  simp only [h]
theorem attrL_none {dec : List UInt8 → List UInt8} {c : UInt8} {r : List UInt8} (h : ∀ b, (upL attrEndB r).2.dropWhile whB ≠ 61 :: b) :
    attrL dec (c :: r) = ((lowL (c :: (upL attrEndB r).1), []), (upL attrEndB r).2) := by
  unfold attrL
  simp only
def countsB (A : List AtL) (n : List UInt8) : Bool := decide (A.length < 30) && !(A.any fun a => a.1 == n)
/-- a tag's attributes, and what stands behind the tag; nothing, if it has no end -/
def attrsLL (dec : List UInt8 → List UInt8) (A : List AtL) (l : List UInt8) : Option (List AtL × List UInt8) :=
  match h : l.dropWhile whs with
  | [] => none
  | c :: r =>
    if c = 62 then some (A, r)
    else attrsLL dec (if countsB A (attrL dec (c :: r)).1.1 = true then A ++ [(attrL dec (c :: r)).1] else A) (attrL dec (c :: r)).2
termination_by l.length
decreasing_by
  have h1 := drop_len whs l
  rw [h] at h1
  have h2 := attrL_len dec c r
  simp only [List.length_cons] at h1
  omega
theorem attrsLL_nil {dec : List UInt8 → List UInt8} {A : List AtL} {l : List UInt8} (h : l.dropWhile whs = []) : attrsLL dec A l = none := by
  rw [attrsLL]
  split
  · rfl
  · rename_i c r h2; rw [h] at h2; cases h2
theorem attrsLL_end {dec : List UInt8 → List UInt8} {A : List AtL} {l r : List UInt8} (h : l.dropWhile whs = 62 :: r) : attrsLL dec A l = some (A, r) := by
  rw [attrsLL]
  split
  · rename_i h2; rw [h] at h2; cases h2
  · rename_i c r2 h2
    rw [h] at h2
    injection h2 with h3 h4
    subst h3 h4
    rw [if_pos rfl]
theorem attrsLL_go {dec : List UInt8 → List UInt8} {A : List AtL} {l r : List UInt8} {c : UInt8} (h : l.dropWhile whs = c :: r) (hc : c ≠ 62) :
    attrsLL dec A l = attrsLL dec (if countsB A (attrL dec (c :: r)).1.1 = true then A ++ [(attrL dec (c :: r)).1] else A) (attrL dec (c :: r)).2 := by
  rw [attrsLL]
  split
  · rename_i h2; rw [h] at h2; cases h2
  · rename_i c2 r2 h2
    rw [h] at h2
    injection h2 with h3 h4
    subst h3 h4
    rw [if_neg hc]
/-- what is told of the attributes: each name once, at most 30; what stands behind is shorter -/
theorem attrsLL_ind (dec : List UInt8 → List UInt8) {P : List AtL → List UInt8 → Prop}
    (hstep : ∀ A l c r, l.dropWhile whs = c :: r → c ≠ 62 → P A l → P (if countsB A (attrL dec (c :: r)).1.1 = true then A ++ [(attrL dec (c :: r)).1] else A) (attrL dec (c :: r)).2) :
    ∀ (k : Nat) (A : List AtL) (l : List UInt8), l.length ≤ k → P A l → ∀ B b, attrsLL dec A l = some (B, b) → ∃ l', P B l' ∧ l'.dropWhile whs = 62 :: b := by
  intro k
  induction k with
  | zero =>
    intro A l hl hP B b hb
    obtain rfl : l = [] := List.eq_nil_of_length_eq_zero (by omega)
    rw [attrsLL_nil rfl] at hb; cases hb
  | succ k ih =>
    intro A l hl hP B b hb
    cases hd : l.dropWhile whs with
    | nil => rw [attrsLL_nil hd] at hb; cases hb
    | cons c r =>
      have h1 := drop_len whs l
      rw [hd] at h1
      simp only [List.length_cons] at h1
      by_cases hc : c = 62
      · subst hc
        rw [attrsLL_end hd] at hb
        injection hb with hb
        injection hb with hb1 hb2
        subst hb1 hb2
        exact ⟨l, hP, hd⟩
      · rw [attrsLL_go hd hc] at hb
        have h2 := attrL_len dec c r
        exact ih _ _ (by omega) (hstep A l c r hd hc hP) B b hb
theorem attrsLL_len {dec : List UInt8 → List UInt8} {A : List AtL} {l : List UInt8} {B : List AtL} {b : List UInt8} (h : attrsLL dec A l = some (B, b)) : b.length < l.length := by
  obtain ⟨l', h1, h2⟩ := attrsLL_ind dec (P := fun _ x => x.length ≤ l.length) (fun A x c r hx hc hP => by
    have h1 := drop_len whs x
    rw [hx] at h1
    simp only [List.length_cons] at h1
    have h2 := attrL_len dec c r
    omega) l.length A l (Nat.le_refl _) (Nat.le_refl _) B b h
  have h3 := drop_len whs l'
  rw [h2] at h3
  simp only [List.length_cons] at h3
  omega
/-- a tag: its name, its attributes, what stands behind it -/
def tagL (dec : List UInt8 → List UInt8) (l : List UInt8) : Option (List UInt8 × List AtL × List UInt8) :=
  match attrsLL dec [] (upL nameEndB l).2 with
  | none => none
  | some (A, b) => some (lowL (upL nameEndB l).1, A, b)
theorem tagL_len {dec : List UInt8 → List UInt8} {l n b : List UInt8} {A : List AtL} (h : tagL dec l = some (n, A, b)) : b.length < l.length := by
  unfold tagL at h
  have h1 := upL_len nameEndB l
  cases ha : attrsLL dec [] (upL nameEndB l).2 with
  | none => rw [ha] at h; cases h
  | some p =>
    obtain ⟨B, x⟩ := p
    rw [ha] at h
    have h2 := attrsLL_len ha
    injection h with h
    injection h with _ h
    injection h with _ h
    rw [← h]; omega
/-- does the end of a raw element stand at the begin? -/
def rawEndB (n l : List UInt8) : Bool := match l with
  | 60 :: 47 :: r => decide (n.length < r.length) && (lowL (r.take n.length) == n && nameEndB (r.getD n.length 0))
  | _ => false
/-- how many bytes belong to a raw element -/
def rawN (n : List UInt8) : List UInt8 → Nat
  | [] => 0
  | c :: r => if rawEndB n (c :: r) = true then 0 else rawN n r + 1
def plainText : List UInt8 := [112, 108, 97, 105, 110, 116, 101, 120, 116]
def rawSizeL (n l : List UInt8) : Nat := if n = plainText then l.length else rawN n l
theorem rawN_le (n : List UInt8) : ∀ l, rawN n l ≤ l.length
  | [] => Nat.le_refl _
  | c :: r => by
    unfold rawN
    split
    · exact Nat.zero_le _
    · have := rawN_le n r
      simp only [List.length_cons]; omega
theorem rawSizeL_le (n l : List UInt8) : rawSizeL n l ≤ l.length := by
  unfold rawSizeL
  split
  · exact Nat.le_refl _
  · exact rawN_le n l
/-- does a tag or a comment stand at the begin? -/
def isMarkB (l : List UInt8) : Bool := match l with
  | 60 :: c :: r => if c = 33 ∨ c = 63 then true else if c = 47 then !r.isEmpty else letterB c
  | _ => false
/-- how many bytes are characters -/
def markN : List UInt8 → Nat
  | [] => 0
  | c :: r => if isMarkB (c :: r) = true then 0 else markN r + 1
theorem markN_le : ∀ l, markN l ≤ l.length
  | [] => Nat.le_refl _
  | c :: r => by
    unfold markN
    split
    · exact Nat.zero_le _
    · have := markN_le r
      simp only [List.length_cons]; omega
theorem markN_zero {c : UInt8} {r : List UInt8} (h : markN (c :: r) = 0) : isMarkB (c :: r) = true := by
  unfold markN at h
  split at h
  · assumption
  · omega
def charsT (x : List UInt8) : TokL := ⟨1, [], [], x⟩
def startT (n : List UInt8) (A : List AtL) : TokL := ⟨2, n, A, []⟩
def endT (n : List UInt8) : TokL := ⟨3, n, [], []⟩
def remT (x : List UInt8) : TokL := ⟨4, [], [], x⟩
/-- a text up to another one, and what stands behind that -/
def cutAt (t : List UInt8) : List UInt8 → List UInt8 × List UInt8
  | [] => ([], [])
  | c :: r => if t.isPrefixOf (c :: r) = true then ([], (c :: r).drop t.length) else (c :: (cutAt t r).1, (cutAt t r).2)
theorem cutAt_len (t : List UInt8) : ∀ l, (cutAt t l).2.length ≤ l.length
  | [] => Nat.le_refl _
  | c :: r => by
    unfold cutAt
    split
    · show ((c :: r).drop t.length).length ≤ _
      rw [List.length_drop]; omega
    · have := cutAt_len t r
      simp only [List.length_cons]; omega
def remEnd : List UInt8 := [45, 45, 62]
/-- what a reading of a tag or a comment gives: a token that is added, raw characters behind it, what stands behind -/
abbrev MarkR := Option TokL × List UInt8 × List UInt8
def startL (dec : List UInt8 → List UInt8) (l : List UInt8) : MarkR := match tagL dec l with
  | none => (none, [], [])
  | some (n, A, b) => if rawL.contains n = true then (some (startT n A), b.take (rawSizeL n b), b.drop (rawSizeL n b)) else (some (startT n A), [], b)
def endL (dec : List UInt8 → List UInt8) (l : List UInt8) : MarkR := match tagL dec l with
  | none => (none, [], [])
  | some (n, A, b) => (some (endT n), [], b)
def remL (l : List UInt8) : MarkR := (some (remT (beforeC 62 l)), [], afterC 62 l)
def longL (l : List UInt8) : MarkR := match l with
  | 62 :: b => (some (remT []), [], b)
  | 45 :: 62 :: b => (some (remT []), [], b)
  | _ => (some (remT (cutAt remEnd l).1), [], (cutAt remEnd l).2)
/-- a mark, behind its `<` -/
def markL (dec : List UInt8 → List UInt8) (l : List UInt8) : MarkR := match l with
  | 47 :: r => match r with
    | [] => (none, [], [])
    | c :: q => if letterB c = true then endL dec (c :: q) else if c = 62 then (none, [], q) else remL (c :: q)
  | 33 :: r => match r with
    | 45 :: 45 :: b => longL b
    | _ => remL r
  | 63 :: r => remL (63 :: r)
  | _ => startL dec l
theorem markL_end {dec : List UInt8 → List UInt8} {c : UInt8} (h : letterB c = true) (r : List UInt8) : markL dec (47 :: c :: r) = endL dec (c :: r) := if_pos h
theorem remL_len (l : List UInt8) : (remL l).2.2.length ≤ l.length := afterC_le13 62 l
theorem longL_len (l : List UInt8) : (longL l).2.2.length ≤ l.length := by
  unfold longL
  split
  · simp only [List.length_cons]; omega
  · simp only [List.length_cons]; omega
  · exact cutAt_len remEnd l
theorem startL_len (dec : List UInt8 → List UInt8) (l : List UInt8) : (startL dec l).2.2.length ≤ l.length := by
  unfold startL
  cases h : tagL dec l with
  | none => exact Nat.zero_le _
  | some p =>
    obtain ⟨n, A, b⟩ := p
    have := tagL_len h
    simp only
    split
    · show (b.drop _).length ≤ _
      rw [List.length_drop]; omega
    · show b.length ≤ _
      omega
theorem endL_len (dec : List UInt8 → List UInt8) (l : List UInt8) : (endL dec l).2.2.length ≤ l.length := by
  unfold endL
  cases h : tagL dec l with
  | none => exact Nat.zero_le _
  | some p =>
    obtain ⟨n, A, b⟩ := p
    have := tagL_len h
    show b.length ≤ _
    omega
theorem markL_len (dec : List UInt8 → List UInt8) (l : List UInt8) : (markL dec l).2.2.length ≤ l.length := by
  unfold markL
  split
  · rename_i r
    split
    · exact Nat.zero_le _
    · rename_i c q
      split
      · have := endL_len dec (c :: q)
        simp only [List.length_cons] at this ⊢; omega
      · split
        · simp only [List.length_cons]; omega
        · have := remL_len (c :: q)
          simp only [List.length_cons] at this ⊢; omega
  · rename_i r
    split
    · rename_i b
      have := longL_len b
      simp only [List.length_cons]; omega
    · have := remL_len r
      simp only [List.length_cons]; omega
  · rename_i r
    exact remL_len (63 :: r)
  · exact startL_len dec l
/-- characters that no others come behind are one token -/
def flushT (L : List TokL) (x : List UInt8) : List TokL := if x = [] then L else L ++ [charsT x]
def addT (L : List TokL) (x : List UInt8) (m : MarkR) : List TokL × List UInt8 := match m.1 with
  | none => (L, x ++ m.2.1)
  | some t => (flushT L x ++ [t], m.2.1)
/-- a document taken apart, behind tokens and characters -/
def scanL (dec : List UInt8 → List UInt8) (L : List TokL) (x : List UInt8) (l : List UInt8) : List TokL :=
  match h : l with
  | [] => flushT L x
  | c :: r =>
    if h2 : 0 < markN (c :: r) then scanL dec L (x ++ dec ((c :: r).take (markN (c :: r)))) ((c :: r).drop (markN (c :: r)))
    else scanL dec (addT L x (markL dec r)).1 (addT L x (markL dec r)).2 (markL dec r).2.2
termination_by l.length
decreasing_by
  · rw [List.length_drop]
    have := markN_le (c :: r)
    simp only [List.length_cons] at this ⊢
    omega
  · have := markL_len dec r
    simp only [List.length_cons]
    omega
theorem scanL_nil (dec : List UInt8 → List UInt8) (L : List TokL) (x : List UInt8) : scanL dec L x [] = flushT L x := by rw [scanL]
theorem scanL_text (dec : List UInt8 → List UInt8) (L : List TokL) (x : List UInt8) {c : UInt8} {r : List UInt8} (h : 0 < markN (c :: r)) :
    scanL dec L x (c :: r) = scanL dec L (x ++ dec ((c :: r).take (markN (c :: r)))) ((c :: r).drop (markN (c :: r))) := by
  rw [scanL, dif_pos h]
theorem scanL_mark (dec : List UInt8 → List UInt8) (L : List TokL) (x : List UInt8) {c : UInt8} {r : List UInt8} (h : isMarkB (c :: r) = true) :
    scanL dec L x (c :: r) = scanL dec (addT L x (markL dec r)).1 (addT L x (markL dec r)).2 (markL dec r).2.2 := by
  have h0 : markN (c :: r) = 0 := by unfold markN; rw [if_pos h]
  rw [scanL, dif_neg (by rw [h0]; exact Nat.lt_irrefl 0)]
end Go.Proofs.YtgokefodmjhhiaaGreatDoor

/- Cuts at a byte, and a text's size: split off XWordP and XWordC, so that a seat without word fills. No statement is proved here. Own work of the verifier. -/
namespace Go.Proofs.YtgokefodmjhhiaaGreatDoor
open Go.RowKit
set_option linter.unusedVariables false
set_option linter.unusedSimpArgs false
theorem cut_case (c : UInt8) (l : List UInt8) : (c ∉ l ∧ beforeC c l = l ∧ afterC c l = []) ∨ ∃ a r, l = a ++ c :: r ∧ c ∉ a ∧ beforeC c l = a ∧ afterC c l = r := by
  induction l with
  | nil => exact .inl ⟨by simp, rfl, rfl⟩
  | cons x l ih =>
    by_cases hx : x = c
    · subst hx
      exact .inr ⟨[], l, rfl, by simp, by simp [beforeC], by simp [afterC]⟩
    · have hne : (x != c) = true := by rw [bne_iff_ne]; exact hx
      have e1 : beforeC c (x :: l) = x :: beforeC c l := by unfold beforeC; rw [List.takeWhile_cons, hne]; rfl
      have e2 : afterC c (x :: l) = afterC c l := by unfold afterC; rw [List.dropWhile_cons, hne]; rfl
      rcases ih with ⟨h1, h2, h3⟩ | ⟨a, r, h1, h2, h3, h4⟩
      · exact .inl ⟨by simp [h1]; exact fun e => hx e.symm, by rw [e1, h2], by rw [e2, h3]⟩
      · exact .inr ⟨x :: a, r, by rw [h1]; rfl, by simp [h2]; exact fun e => hx e.symm, by rw [e1, h3], by rw [e2, h4]⟩
def szOfS : Value → Nat
  | .string t => t.size
  | _ => 0
end Go.Proofs.YtgokefodmjhhiaaGreatDoor

/- What package word computes, as functions on lists of bytes, and facts on them. No statement is proved here. -/
namespace Go.Proofs.YtgokefodmjhhiaaGreatDoor
set_option linter.unusedVariables false
set_option linter.unusedSimpArgs false

def wsB (c : UInt8) : Bool := c == 32 || c == 9 || c == 10 || c == 13
def noWs (l : List UInt8) : Bool := l.all fun c => !wsB c
def allWs (l : List UInt8) : Bool := l.all wsB

/-! ### the letter Q -/
def qStep (c : UInt8) (r : List UInt8) : UInt8 × Nat := if c = 95 then (32, 1) else if c = 61 then (hex2 r).elim (c, 1) (fun b => (b, 3)) else (c, 1)
def qdec (l : List UInt8) : List UInt8 :=
  match l with
  | [] => []
  | c :: r => (qStep c r).1 :: qdec (r.drop ((qStep c r).2 - 1))
termination_by l.length
decreasing_by simp [List.length_drop]; omega
theorem qdec_nil : qdec [] = [] := by rw [qdec]
theorem qdec_cons (c : UInt8) (r : List UInt8) : qdec (c :: r) = (qStep c r).1 :: qdec (r.drop ((qStep c r).2 - 1)) := by rw [qdec]
theorem qStep_cases (c : UInt8) (r : List UInt8) : (c = 95 ∧ qStep c r = (32, 1)) ∨ (c = 61 ∧ ∃ b, hex2 r = some b ∧ qStep c r = (b, 3) ∧ 2 ≤ r.length) ∨ (c = 61 ∧ hex2 r = none ∧ qStep c r = (c, 1)) ∨ (c ≠ 95 ∧ c ≠ 61 ∧ qStep c r = (c, 1)) := by
  unfold qStep
  by_cases h : c = 95
  · exact .inl ⟨h, by rw [if_pos h]⟩
  · rw [if_neg h]
    by_cases h2 : c = 61
    · rw [if_pos h2]
      cases hx : hex2 r with
      | none => exact .inr (.inr (.inl ⟨h2, rfl, rfl⟩))
      | some b => exact .inr (.inl ⟨h2, b, rfl, rfl, hex2_len hx⟩)
    · exact .inr (.inr (.inr ⟨h, h2, by rw [if_neg h2]⟩))
theorem qStep_le (c : UInt8) (r : List UInt8) : 1 ≤ (qStep c r).2 ∧ (qStep c r).2 ≤ 3 ∧ (qStep c r).2 ≤ r.length + 1 := by
  rcases qStep_cases c r with ⟨_, h⟩ | ⟨_, b, _, h, _⟩ | ⟨_, _, h⟩ | ⟨_, _, h⟩
  all_goals rw [h]; simp
  omega
theorem qdec_length (l : List UInt8) : (qdec l).length ≤ l.length := by
  refine list_ind (p := fun l => (qdec l).length ≤ l.length) ?_ l
  intro l ih
  match l with
  | [] => rw [qdec_nil]; simp
  | c :: r =>
    rw [qdec_cons]
    have := ih (r.drop ((qStep c r).2 - 1)) (by rw [List.length_drop, List.length_cons]; omega)
    rw [List.length_drop] at this
    simp only [List.length_cons]; omega
theorem qdec_round {T acc : List UInt8} {c : UInt8} {r L : List UInt8} (h : acc ++ qdec L = T) (hc : L = c :: r) : (acc ++ [(qStep c r).1]) ++ qdec (L.drop (qStep c r).2) = T := by
  subst hc
  rw [← h, qdec_cons, List.append_assoc]
  have hle := qStep_le c r
  obtain ⟨n, hn⟩ : ∃ n, (qStep c r).2 = n + 1 := ⟨(qStep c r).2 - 1, by omega⟩
  rw [hn, List.drop_succ_cons, Nat.add_sub_cancel]; rfl

/-! ### an encoded word -/
/-- the kind of the alphabet that is named; 0: that may not be, or is not known -/
def labelK (a : List UInt8) : Nat := if a.length ≤ 40 ∧ noWs a = true then kindL (beforeC 42 a) else 0
/-- the bytes that a text stands for by its letter -/
def bytesO (x t : List UInt8) : Option (List UInt8) :=
  if noWs t = true then (if x = [66] ∨ x = [98] then some (decB t) else if x = [81] ∨ x = [113] then some (qdec t) else none) else none
/-- the encoded word that a text begins with -/
def oneL (l : List UInt8) : Option (List UInt8 × Nat) :=
  if l.take 2 = [61, 63] ∧ (afterC 63 (afterC 63 (afterC 63 (l.drop 2)))).take 1 = [61] ∧ labelK (beforeC 63 (l.drop 2)) ≠ 0 then
    (bytesO (beforeC 63 (afterC 63 (l.drop 2))) (beforeC 63 (afterC 63 (afterC 63 (l.drop 2))))).map fun b => (decodeL (labelK (beforeC 63 (l.drop 2))) b, l.length - ((afterC 63 (afterC 63 (afterC 63 (l.drop 2)))).length - 1))
  else none
def oneT (l : List UInt8) : List UInt8 := (oneL l).elim [] (·.1)
def oneN (l : List UInt8) : Nat := (oneL l).elim 0 (·.2)

theorem cut_here (c : UInt8) (a r : List UInt8) (h : c ∉ a) : beforeC c (a ++ c :: r) = a ∧ afterC c (a ++ c :: r) = r := by
  have hl : a.length < (a ++ c :: r).length := by simp
  have := cut_at c (a ++ c :: r) a.length hl (by rw [List.getElem_append_right (Nat.le_refl _)]; simp) (fun j hj => by
    rw [List.getElem_append_left hj]; intro e; exact h (e ▸ List.getElem_mem hj))
  exact ⟨by rw [this.2.1, List.take_left], by rw [this.2.2]; simp [List.drop_append]⟩
/-- the word of three parts, and what is behind it -/
def wordF (a x t r : List UInt8) : List UInt8 := [61, 63] ++ (a ++ 63 :: (x ++ 63 :: (t ++ 63 :: 61 :: r)))
theorem one_form (a x t r : List UInt8) (ha : (63 : UInt8) ∉ a) (hx : (63 : UInt8) ∉ x) (ht : (63 : UInt8) ∉ t) :
    oneL (wordF a x t r) = if labelK a = 0 then none else (bytesO x t).map fun b => (decodeL (labelK a) b, a.length + x.length + t.length + 6) := by
  have e0 : (wordF a x t r).drop 2 = a ++ 63 :: (x ++ 63 :: (t ++ 63 :: 61 :: r)) := rfl
  have e1 : (wordF a x t r).take 2 = [61, 63] := rfl
  obtain ⟨a1, a2⟩ := cut_here 63 a (x ++ 63 :: (t ++ 63 :: 61 :: r)) ha
  obtain ⟨x1, x2⟩ := cut_here 63 x (t ++ 63 :: 61 :: r) hx
  obtain ⟨t1, t2⟩ := cut_here 63 t (61 :: r) ht
  have hlen : (wordF a x t r).length - ((61 :: r).length - 1) = a.length + x.length + t.length + 6 := by
    simp [wordF]; omega
  unfold oneL
  rw [e0, e1, a1, a2, x1, x2, t1, t2, hlen]
  by_cases hk : labelK a = 0
  · rw [if_pos hk, if_neg (fun h => h.2.2 hk)]
  · rw [if_neg hk, if_pos ⟨rfl, rfl, hk⟩]
theorem labelK_nil : labelK [] = 0 := by decide +kernel
theorem noWs_app (a b : List UInt8) : noWs (a ++ b) = (noWs a && noWs b) := by simp [noWs]
theorem one_some {l : List UInt8} {g : List UInt8} {n : Nat} (h : oneL l = some (g, n)) :
    ∃ a x t r, l = wordF a x t r ∧ (63 : UInt8) ∉ a ∧ (63 : UInt8) ∉ x ∧ (63 : UInt8) ∉ t ∧ labelK a ≠ 0 ∧ n = a.length + x.length + t.length + 6 ∧ ∃ b, bytesO x t = some b ∧ g = decodeL (labelK a) b := by
  unfold oneL at h
  split at h
  · rename_i hc
    obtain ⟨h1, h2, h3⟩ := hc
    have hl : l = [61, 63] ++ l.drop 2 := by conv => lhs; rw [← List.take_append_drop 2 l, h1]
    rcases cut_case 63 (l.drop 2) with ⟨_, _, e⟩ | ⟨a, r1, e1, ha, b1, c1⟩
    · rw [e] at h2; exact absurd h2 (by decide)
    · rcases cut_case 63 r1 with ⟨_, _, e⟩ | ⟨x, r2, e2, hx, b2, c2⟩
      · rw [c1, e] at h2; exact absurd h2 (by decide)
      · rcases cut_case 63 r2 with ⟨_, _, e⟩ | ⟨t, r3, e3, ht, b3, c3⟩
        · rw [c1, c2, e] at h2; exact absurd h2 (by decide)
        · rw [c1, c2, c3] at h2
          match r3, h2 with
          | z :: r, h2 =>
            have hz : z = 61 := by simpa using h2
            subst hz
            have hw : l = wordF a x t r := by rw [hl, e1, e2, e3]; rfl
            refine ⟨a, x, t, r, hw, ha, hx, ht, by rw [← b1]; exact h3, ?_⟩
            rw [b1, c1, c2, c3, b2, b3] at h
            cases hb : bytesO x t with
            | none => rw [hb] at h; cases h
            | some b =>
              rw [hb] at h
              simp only [Option.map_some, Option.some.injEq, Prod.mk.injEq] at h
              refine ⟨?_, b, rfl, h.1.symm⟩
              rw [← h.2, hw]; simp [wordF]; omega
  · cases h
theorem one_pos {l : List UInt8} (h : oneN l ≠ 0) : oneL l = some (oneT l, oneN l) ∧ oneN l ≤ l.length ∧ 6 ≤ oneN l := by
  unfold oneN oneT at *
  cases ho : oneL l with
  | none => rw [ho] at h; exact absurd rfl h
  | some p =>
    obtain ⟨g, n⟩ := p
    obtain ⟨a, x, t, r, hw, _, _, _, _, hn, _⟩ := one_some ho
    refine ⟨rfl, ?_, ?_⟩
    · show n ≤ l.length
      rw [hn, hw]; simp [wordF]; omega
    · show 6 ≤ n
      omega
theorem one_zero {l : List UInt8} (h : oneN l = 0) : oneL l = none ∧ oneT l = [] := by
  unfold oneN oneT at *
  cases ho : oneL l with
  | none => exact ⟨rfl, rfl⟩
  | some p =>
    obtain ⟨g, n⟩ := p
    obtain ⟨a, x, t, r, _, _, _, _, _, hn, _⟩ := one_some ho
    rw [ho] at h
    have : n = 0 := h
    omega
theorem one_begin {l : List UInt8} (h : oneN l ≠ 0) : l.take 2 = [61, 63] := by
  obtain ⟨ho, _⟩ := one_pos h
  obtain ⟨a, x, t, r, hw, _⟩ := one_some ho
  rw [hw]; rfl
theorem one_none {l : List UInt8} (h : l.take 2 ≠ [61, 63]) : oneN l = 0 := by
  by_cases hn : oneN l = 0
  · exact hn
  · exact absurd (one_begin hn) h
/-- a word is told by its own bytes -/
theorem one_local {l t : List UInt8} (h : oneN l ≠ 0) (ht : oneN l = l.length) : oneN (l ++ t) = oneN l ∧ oneT (l ++ t) = oneT l := by
  obtain ⟨ho, _⟩ := one_pos h
  obtain ⟨a, x, y, r, hw, h1, h2, h3, h4, hn, b, hb, hg⟩ := one_some ho
  have hr : r = [] := by
    apply List.eq_nil_of_length_eq_zero
    have := congrArg List.length hw
    simp [wordF] at this
    omega
  subst hr
  have e : l ++ t = wordF a x y t := by rw [hw]; simp [wordF]
  have h5 := one_form a x y t h1 h2 h3
  rw [if_neg h4, hb] at h5
  constructor
  · show (oneL (l ++ t)).elim 0 (·.2) = _
    rw [e, h5, hn]; rfl
  · show (oneL (l ++ t)).elim [] (·.1) = _
    rw [e, h5, hg]; rfl
theorem beforeC_le (c : UInt8) (l : List UInt8) : (beforeC c l).length ≤ l.length := (List.takeWhile_sublist _).length_le
theorem bytesO_length {x t b : List UInt8} (h : bytesO x t = some b) : b.length ≤ t.length := by
  unfold bytesO at h
  split at h
  · split at h
    · rw [← Option.some.inj h]; have := decB_len t; omega
    · split at h
      · rw [← Option.some.inj h]; exact qdec_length t
      · cases h
  · cases h
theorem oneT_length (l : List UInt8) : (oneT l).length ≤ 3 * oneN l := by
  by_cases h : oneN l = 0
  · rw [(one_zero h).2, h]; simp
  · obtain ⟨ho, _⟩ := one_pos h
    obtain ⟨a, x, t, r, hw, _, _, _, _, hn, b, hb, hg⟩ := one_some ho
    have h1 := decodeL_length (labelK a) b
    have h2 := bytesO_length hb
    rw [hg, hn]; omega
theorem oneT_whole (l : List UInt8) : allWhole (oneT l) = true := by
  by_cases h : oneN l = 0
  · rw [(one_zero h).2]; exact allWhole_nil
  · obtain ⟨ho, _⟩ := one_pos h
    obtain ⟨a, x, t, r, hw, _, _, _, _, hn, b, hb, hg⟩ := one_some ho
    rw [hg]; exact decodeL_whole _ _

/-! ### a text, read -/
def decW (behind : Bool) (piece l : List UInt8) : List UInt8 :=
  if h : l = [] then validL piece
  else if oneN l = 0 then decW behind (piece ++ l.take 1) (l.drop 1)
  else (if behind && allWs piece then [] else validL piece) ++ (oneT l ++ decW true [] (l.drop (oneN l)))
termination_by l.length
decreasing_by
  · have := List.length_pos_iff.2 h; rw [List.length_drop]; omega
  · have := List.length_pos_iff.2 h; rw [List.length_drop]; omega
theorem decW_nil (b : Bool) (p : List UInt8) : decW b p [] = validL p := by rw [decW]; simp
theorem decW_go {b : Bool} {p l : List UInt8} (h : l ≠ []) (h0 : oneN l = 0) : decW b p l = decW b (p ++ l.take 1) (l.drop 1) := by
  rw [decW, dif_neg h, if_pos h0]
theorem decW_word {b : Bool} {p l : List UInt8} (h0 : oneN l ≠ 0) : decW b p l = (if b && allWs p then [] else validL p) ++ (oneT l ++ decW true [] (l.drop (oneN l))) := by
  have hl : l ≠ [] := by
    rintro rfl
    have := (one_pos h0).2
    simp at this; omega
  rw [decW, dif_neg hl, if_neg h0]
theorem whole_append {a : List UInt8} (b : List UInt8) (h : allWhole a = true) : allWhole (a ++ b) = allWhole b := by
  revert h
  refine list_ind (p := fun a => allWhole a = true → allWhole (a ++ b) = allWhole b) ?_ a
  intro a ih h
  by_cases ha : a = []
  · subst ha; rfl
  · by_cases hz : wholeN a = 0
    · rw [allWhole_zero hz ha] at h; cases h
    · rw [allWhole_pos hz] at h
      have hw := wholeN_le a
      have e : a ++ b = a.take (wholeN a) ++ (a.drop (wholeN a) ++ b) := by rw [← List.append_assoc, List.take_append_drop]
      have h1 := whole_local a (a.drop (wholeN a) ++ b) (by omega)
      rw [← ih (a.drop (wholeN a)) (by rw [List.length_drop]; omega) h, e]
      exact allWhole_app (by rw [h1, List.length_take]; omega) (by intro e; have := congrArg List.length e; rw [List.length_take, List.length_nil] at this; omega)
theorem decW_whole (b : Bool) (p l : List UInt8) : allWhole (decW b p l) = true := by
  revert b p
  refine list_ind (p := fun l => ∀ b p, allWhole (decW b p l) = true) ?_ l
  intro l ih b p
  by_cases hl : l = []
  · subst hl; rw [decW_nil]; exact allWhole_valid p
  · have hl' := List.length_pos_iff.2 hl
    by_cases h0 : oneN l = 0
    · rw [decW_go hl h0]; exact ih _ (by rw [List.length_drop]; omega) _ _
    · rw [decW_word h0]
      have h1 := ih (l.drop (oneN l)) (by rw [List.length_drop]; omega) true []
      have h2 : allWhole (oneT l ++ decW true [] (l.drop (oneN l))) = true := by rw [whole_append _ (oneT_whole l)]; exact h1
      split
      · exact h2
      · rw [whole_append _ (allWhole_valid p)]; exact h2
theorem decW_length (b : Bool) (p l : List UInt8) : (decW b p l).length ≤ 3 * (p.length + l.length) := by
  revert b p
  refine list_ind (p := fun l => ∀ b p, (decW b p l).length ≤ 3 * (p.length + l.length)) ?_ l
  intro l ih b p
  by_cases hl : l = []
  · subst hl; rw [decW_nil]; have := validL_length p; simp; omega
  · have hl' := List.length_pos_iff.2 hl
    by_cases h0 : oneN l = 0
    · rw [decW_go hl h0]
      have := ih (l.drop 1) (by rw [List.length_drop]; omega) b (p ++ l.take 1)
      rw [List.length_drop, List.length_append, List.length_take] at this
      omega
    · rw [decW_word h0]
      have h1 := ih (l.drop (oneN l)) (by rw [List.length_drop]; omega) true []
      have h2 := oneT_length l
      have h3 := (one_pos h0).2.1
      have h4 := validL_length p
      rw [List.length_drop] at h1
      simp only [List.length_nil] at h1
      split
      · simp only [List.length_append, List.length_nil]; omega
      · simp only [List.length_append]; omega
/-- what has no sign of a word is one piece -/
theorem decW_plain (b : Bool) (p l : List UInt8) (h : ∀ i, ((l.drop i).take 2) ≠ [61, 63]) : decW b p l = validL (p ++ l) := by
  revert b p h
  refine list_ind (p := fun l => ∀ b p, (∀ i, ((l.drop i).take 2) ≠ [61, 63]) → decW b p l = validL (p ++ l)) ?_ l
  intro l ih b p h
  by_cases hl : l = []
  · subst hl; rw [decW_nil, List.append_nil]
  · have hl' := List.length_pos_iff.2 hl
    rw [decW_go hl (one_none (by have := h 0; rwa [List.drop_zero] at this)), ih (l.drop 1) (by rw [List.length_drop]; omega) b _ (fun i => by rw [List.drop_drop]; exact h _)]
    rw [List.append_assoc, List.take_append_drop]
end Go.Proofs.YtgokefodmjhhiaaGreatDoor

/- What package word writes, as functions on lists of bytes: groups of whole signs, their words, and that these are read back. No statement is proved here. -/
namespace Go.Proofs.YtgokefodmjhhiaaGreatDoor
set_option linter.unusedVariables false
set_option linter.unusedSimpArgs false

theorem whole_first {l : List UInt8} (h : wholeN l ≠ 0) : contB (l.getD 0 0) = false ∧ ∀ p, 0 < p → p < wholeN l → contB (l.getD p 0) = true := by
  have nc : ∀ a : UInt8, (a.toNat < 128 ∨ 192 ≤ a.toNat) → contB a = false := fun a ha => by
    cases hc : contB a with
    | false => rfl
    | true => have := (contB_iff a).1 hc; omega
  rcases whole_cases l with e | ⟨a, r, rfl, h1, e⟩ | ⟨a, b, r, rfl, h1, h2, h3, h4, e⟩ | ⟨a, b, c, r, rfl, h1, h2, h3, h4, h5, h6, e⟩ | ⟨a, b, c, d, r, rfl, h1, h2, h3, h4, h5, h6, h7, e⟩
  · exact absurd e h
  · rw [e]; exact ⟨nc a (.inl h1), fun p h0 h1 => by omega⟩
  · rw [e]; exact ⟨nc a (.inr h1), fun p h0 h1 => by
      obtain rfl : p = 1 := by omega
      exact h3⟩
  · rw [e]; exact ⟨nc a (.inr (by omega)), fun p h0 h1 => by
      obtain rfl | rfl : p = 1 ∨ p = 2 := by omega
      · exact h3
      · exact h4⟩
  · rw [e]; exact ⟨nc a (.inr (by omega)), fun p h0 h1 => by
      obtain rfl | rfl | rfl : p = 1 ∨ p = 2 ∨ p = 3 := by omega
      · exact h3
      · exact h4
      · exact h5⟩
theorem allWhole_ne {l : List UInt8} (h : allWhole l = true) (hl : l ≠ []) : wholeN l ≠ 0 := fun e => by rw [allWhole_zero e hl] at h; cases h
theorem allWhole_step {l : List UInt8} (h : allWhole l = true) : allWhole (l.drop (wholeN l)) = true := by
  by_cases hz : wholeN l = 0
  · rw [hz, List.drop_zero]; exact h
  · rw [← allWhole_pos hz]; exact h

/-- how many bytes the whole signs ahead have that have at most so many -/
def groupN (room : Nat) (l : List UInt8) : Nat := if h : wholeN l = 0 ∨ room < wholeN l then 0 else wholeN l + groupN (room - wholeN l) (l.drop (wholeN l))
termination_by l.length
decreasing_by
  have := wholeN_le l
  rw [List.length_drop]; omega
theorem group_stop {room : Nat} {l : List UInt8} (h : wholeN l = 0 ∨ room < wholeN l) : groupN room l = 0 := by rw [groupN, dif_pos h]
theorem group_go {room : Nat} {l : List UInt8} (h : wholeN l ≠ 0) (h' : wholeN l ≤ room) : groupN room l = wholeN l + groupN (room - wholeN l) (l.drop (wholeN l)) := by
  rw [groupN, dif_neg (by omega)]
theorem group_le (room : Nat) (l : List UInt8) : groupN room l ≤ room ∧ groupN room l ≤ l.length := by
  revert room
  refine list_ind (p := fun l => ∀ room, groupN room l ≤ room ∧ groupN room l ≤ l.length) ?_ l
  intro l ih room
  by_cases h : wholeN l = 0 ∨ room < wholeN l
  · rw [group_stop h]; omega
  · have hw := wholeN_le l
    have := ih (l.drop (wholeN l)) (by rw [List.length_drop]; omega) (room - wholeN l)
    rw [List.length_drop] at this
    rw [group_go (by omega) (by omega)]; omega
theorem group_whole (room : Nat) (l : List UInt8) (h : allWhole l = true) : allWhole (l.drop (groupN room l)) = true ∧ allWhole (l.take (groupN room l)) = true := by
  revert room h
  refine list_ind (p := fun l => ∀ room, allWhole l = true → allWhole (l.drop (groupN room l)) = true ∧ allWhole (l.take (groupN room l)) = true) ?_ l
  intro l ih room h
  by_cases hc : wholeN l = 0 ∨ room < wholeN l
  · rw [group_stop hc]; exact ⟨h, allWhole_nil⟩
  · have hw := wholeN_le l
    have := ih (l.drop (wholeN l)) (by rw [List.length_drop]; omega) (room - wholeN l) (allWhole_step h)
    rw [group_go (by omega) (by omega), ← List.drop_drop, List.take_add]
    refine ⟨this.1, ?_⟩
    have h1 := whole_local l ((l.drop (wholeN l)).take (groupN (room - wholeN l) (l.drop (wholeN l)))) (by omega)
    rw [allWhole_app (by rw [h1, List.length_take]; omega) (by intro e; have := congrArg List.length e; rw [List.length_take, List.length_nil] at this; omega)]
    exact this.2
theorem group_pos {room : Nat} {l : List UInt8} (hr : 4 ≤ room) (h : allWhole l = true) (hl : l ≠ []) : 0 < groupN room l := by
  have hz := allWhole_ne h hl
  have hw := wholeN_le l
  rw [group_go hz (by omega)]; omega
theorem group_all' (l : List UInt8) : ∀ room, allWhole l = true → l.length ≤ room → groupN room l = l.length := by
  refine list_ind (p := fun l => ∀ room, allWhole l = true → l.length ≤ room → groupN room l = l.length) ?_ l
  intro l ih room h hr
  by_cases hl : l = []
  · subst hl; rw [group_stop (.inl rfl)]; rfl
  · have hz := allWhole_ne h hl
    have hw := wholeN_le l
    rw [group_go hz (by omega), ih _ (by rw [List.length_drop]; omega) _ (allWhole_step h) (by rw [List.length_drop]; omega), List.length_drop]; omega
theorem group_all {room : Nat} {l : List UInt8} (h : allWhole l = true) (hr : l.length ≤ room) : groupN room l = l.length := group_all' l room h hr
/-- where a group ends a sign begins, and up to its room no other one -/
theorem group_cont' (l : List UInt8) : ∀ room, allWhole l = true → room < l.length →
    contB (l.getD (groupN room l) 0) = false ∧ ∀ p, groupN room l < p → p ≤ room → contB (l.getD p 0) = true := by
  refine list_ind (p := fun l => ∀ room, allWhole l = true → room < l.length → contB (l.getD (groupN room l) 0) = false ∧ ∀ p, groupN room l < p → p ≤ room → contB (l.getD p 0) = true) ?_ l
  intro l ih room h hr
  have hl : l ≠ [] := by rintro rfl; simp at hr
  have hz := allWhole_ne h hl
  have hw := wholeN_le l
  have hf := whole_first hz
  by_cases hc : room < wholeN l
  · rw [group_stop (.inr hc)]
    exact ⟨hf.1, fun p h0 h1 => hf.2 p h0 (by omega)⟩
  · have hi := ih (l.drop (wholeN l)) (by rw [List.length_drop]; omega) (room - wholeN l) (allWhole_step h) (by rw [List.length_drop]; omega)
    have hg : ∀ q, (l.drop (wholeN l)).getD q 0 = l.getD (wholeN l + q) 0 := fun q => by
      simp only [List.getD_eq_getElem?_getD, List.getElem?_drop]
    rw [group_go hz (by omega)]
    refine ⟨by rw [← hg]; exact hi.1, fun p h0 h1 => ?_⟩
    have := hi.2 (p - wholeN l) (by omega) (by omega)
    rw [hg, Nat.add_sub_cancel' (by omega)] at this
    exact this

theorem group_cont {room : Nat} {l : List UInt8} (h : allWhole l = true) (hr : room < l.length) :
    contB (l.getD (groupN room l) 0) = false ∧ ∀ p, groupN room l < p → p ≤ room → contB (l.getD p 0) = true := group_cont' l room h hr

/-! ### words -/
def wordL (g : List UInt8) : List UInt8 := wordF [117, 116, 102, 45, 56] [66] (encB g) []
theorem wordL_eq (g : List UInt8) : wordL g = [61, 63, 117, 116, 102, 45, 56, 63, 66, 63] ++ encB g ++ [63, 61] := by simp [wordL, wordF]
theorem wordL_app (g r : List UInt8) : wordL g ++ r = wordF [117, 116, 102, 45, 56] [66] (encB g) r := by simp [wordL, wordF]
theorem wordL_length (g : List UInt8) : (wordL g).length = 12 + (encB g).length := by rw [wordL_eq]; simp; omega
theorem letter_sign (n : Nat) (h : n < 64) : 33 ≤ (letter n).toNat ∧ (letter n).toNat ≤ 126 ∧ letter n ≠ 63 := by
  have : ∀ n, n < 64 → 33 ≤ (letter n).toNat ∧ (letter n).toNat ≤ 126 ∧ letter n ≠ 63 := by decide +kernel
  exact this n h
theorem encFrom_signs (l : List UInt8) : ∀ h w, (h = 0 ∨ (h = 2 ∧ w < 4) ∨ (h = 4 ∧ w < 16)) → ∀ c ∈ encFrom h w l, 33 ≤ c.toNat ∧ c.toNat ≤ 126 ∧ c ≠ 63 := by
  have h61 : 33 ≤ (61 : UInt8).toNat ∧ (61 : UInt8).toNat ≤ 126 ∧ (61 : UInt8) ≠ 63 := by decide
  induction l with
  | nil =>
    intro h w hh c hc
    rcases hh with rfl | ⟨rfl, hw⟩ | ⟨rfl, hw⟩
    · simp [encFrom] at hc
    · simp [encFrom] at hc
      rcases hc with rfl | rfl
      · exact letter_sign _ (by omega)
      · exact h61
    · simp [encFrom] at hc
      rcases hc with rfl | rfl
      · exact letter_sign _ (by omega)
      · exact h61
  | cons a r ih =>
    intro h w hh c hc
    have ha := a.toNat_lt
    rcases hh with rfl | ⟨rfl, hw⟩ | ⟨rfl, hw⟩
    · rw [encFrom, if_pos rfl] at hc
      rcases List.mem_cons.1 hc with rfl | hc
      · exact letter_sign _ (by omega)
      · exact ih 2 _ (.inr (.inl ⟨rfl, by omega⟩)) c hc
    · rw [encFrom, if_neg (by omega), if_pos rfl] at hc
      rcases List.mem_cons.1 hc with rfl | hc
      · exact letter_sign _ (by omega)
      · exact ih 4 _ (.inr (.inr ⟨rfl, by omega⟩)) c hc
    · rw [encFrom, if_neg (by omega), if_neg (by omega)] at hc
      rcases List.mem_cons.1 hc with rfl | hc
      · exact letter_sign _ (by omega)
      · rcases List.mem_cons.1 hc with rfl | hc
        · exact letter_sign _ (by omega)
        · exact ih 0 0 (.inl rfl) c hc
theorem encB_signs (l : List UInt8) : ∀ c ∈ encB l, 33 ≤ c.toNat ∧ c.toNat ≤ 126 ∧ c ≠ 63 := encFrom_signs l 0 0 (.inl rfl)
theorem noWs_signs {l : List UInt8} (h : ∀ c ∈ l, 33 ≤ c.toNat) : noWs l = true := by
  rw [noWs, List.all_eq_true]
  intro c hc
  have := h c hc
  have : ∀ c : UInt8, 33 ≤ c.toNat → (!wsB c) = true := u8_all (p := fun c => 33 ≤ c.toNat → (!wsB c) = true) (by decide +kernel)
  exact this c (h c hc)
theorem labelK_utf8 : labelK [117, 116, 102, 45, 56] = 1 := by decide +kernel
/-- a word is read as its group -/
theorem word_one (g r : List UInt8) (h : allWhole g = true) : oneN (wordL g ++ r) = (wordL g).length ∧ oneT (wordL g ++ r) = g := by
  have hs := encB_signs g
  have h1 := one_form [117, 116, 102, 45, 56] [66] (encB g) r (by decide) (by decide) (fun hm => (hs 63 hm).2.2 rfl)
  have hb : bytesO [66] (encB g) = some g := by
    unfold bytesO
    rw [if_pos (noWs_signs fun c hc => (hs c hc).1), if_pos (.inl rfl), decB_encB]
  rw [if_neg (by rw [labelK_utf8]; decide), hb, labelK_utf8] at h1
  have hd : decodeL 1 g = g := by
    show validL g = g
    exact valid_whole g h
  constructor
  · show (oneL (wordL g ++ r)).elim 0 (·.2) = _
    rw [wordL_app, h1, wordL_length]
    show 5 + 1 + (encB g).length + 6 = _
    omega
  · show (oneL (wordL g ++ r)).elim [] (·.1) = _
    rw [wordL_app, h1]
    exact hd

/-! ### the document's way -/
def encW (some l : List UInt8) : List UInt8 :=
  if h : wholeN l = 0 then wordL some
  else if 30 < some.length + wholeN l then wordL some ++ 32 :: encW (l.take (wholeN l)) (l.drop (wholeN l))
  else encW (some ++ l.take (wholeN l)) (l.drop (wholeN l))
termination_by l.length
decreasing_by
  all_goals
    have := wholeN_le l
    rw [List.length_drop]; omega
theorem encW_end {p l : List UInt8} (h : wholeN l = 0) : encW p l = wordL p := by rw [encW, dif_pos h]
theorem encW_new {p l : List UInt8} (h : wholeN l ≠ 0) (h' : 30 < p.length + wholeN l) : encW p l = wordL p ++ 32 :: encW (l.take (wholeN l)) (l.drop (wholeN l)) := by
  rw [encW, dif_neg h, if_pos h']
theorem encW_go {p l : List UInt8} (h : wholeN l ≠ 0) (h' : ¬ 30 < p.length + wholeN l) : encW p l = encW (p ++ l.take (wholeN l)) (l.drop (wholeN l)) := by
  rw [encW, dif_neg h, if_neg h']
/-! ### the program's way -/
def groups (l : List UInt8) : List (List UInt8) := if h : groupN 30 l = 0 then [] else l.take (groupN 30 l) :: groups (l.drop (groupN 30 l))
termination_by l.length
decreasing_by
  have := group_le 30 l
  rw [List.length_drop]; omega
theorem groups_end {l : List UInt8} (h : groupN 30 l = 0) : groups l = [] := by rw [groups, dif_pos h]
theorem groups_go {l : List UInt8} (h : groupN 30 l ≠ 0) : groups l = l.take (groupN 30 l) :: groups (l.drop (groupN 30 l)) := by rw [groups, dif_neg h]
theorem groups_nil : groups [] = [] := groups_end (group_stop (.inl rfl))
def joinW : List (List UInt8) → List UInt8
  | [] => []
  | [g] => wordL g
  | g :: r => wordL g ++ 32 :: joinW r
theorem encW_groups (l : List UInt8) : ∀ p : List UInt8, p.length ≤ 30 → allWhole l = true →
    encW p l = if l.drop (groupN (30 - p.length) l) = [] then wordL (p ++ l) else wordL (p ++ l.take (groupN (30 - p.length) l)) ++ 32 :: encW [] (l.drop (groupN (30 - p.length) l)) := by
  refine list_ind (p := fun l => ∀ p : List UInt8, p.length ≤ 30 → allWhole l = true →
    encW p l = if l.drop (groupN (30 - p.length) l) = [] then wordL (p ++ l) else wordL (p ++ l.take (groupN (30 - p.length) l)) ++ 32 :: encW [] (l.drop (groupN (30 - p.length) l))) ?_ l
  intro l ih p hp h
  by_cases hl : l = []
  · subst hl
    rw [if_pos (List.drop_nil), List.append_nil]; exact encW_end rfl
  · have hz := allWhole_ne h hl
    have hw := wholeN_le l
    by_cases hc : 30 < p.length + wholeN l
    · rw [group_stop (.inr (by omega)), List.drop_zero, if_neg hl, List.take_zero, List.append_nil, encW_new hz hc]
      conv => rhs; rw [encW_go (p := []) hz (by simp; omega)]
      rfl
    · rw [encW_go hz hc, ih (l.drop (wholeN l)) (by rw [List.length_drop]; omega) _ (by rw [List.length_append, List.length_take]; omega) (allWhole_step h)]
      have e : 30 - (p ++ l.take (wholeN l)).length = 30 - p.length - wholeN l := by rw [List.length_append, List.length_take]; omega
      rw [e, group_go (room := 30 - p.length) hz (by omega), ← List.drop_drop, List.take_add]
      rw [List.append_assoc, List.append_assoc, List.take_append_drop]
theorem encW_join (l : List UInt8) : allWhole l = true → l ≠ [] → encW [] l = joinW (groups l) := by
  refine list_ind (p := fun l => allWhole l = true → l ≠ [] → encW [] l = joinW (groups l)) ?_ l
  intro l ih h hl
  have hg := group_pos (room := 30) (by omega) h hl
  have hle := group_le 30 l
  rw [encW_groups l [] (by simp) h, groups_go (by omega)]
  show (if l.drop (groupN 30 l) = [] then wordL l else wordL (l.take (groupN 30 l)) ++ 32 :: encW [] (l.drop (groupN 30 l))) = _
  by_cases hd : l.drop (groupN 30 l) = []
  · rw [if_pos hd, hd, groups_nil]
    have := List.take_append_drop (groupN 30 l) l
    rw [hd, List.append_nil] at this
    rw [this]; rfl
  · rw [if_neg hd, ih _ (by rw [List.length_drop]; omega) (group_whole 30 l h).1 hd]
    have hg2 := group_pos (room := 30) (by omega) (group_whole 30 l h).1 hd
    rw [groups_go (l := l.drop (groupN 30 l)) (by omega)]; rfl
/-- what is written is read -/
theorem dec_ws (b : Bool) (p l : List UInt8) (c : UInt8) (h : c ≠ 61) : decW b p (c :: l) = decW b (p ++ [c]) l :=
  decW_go (by simp) (one_none (by
    intro e
    have := congrArg (·.head?) e
    simp at this
    exact h this))
theorem back_groups (l : List UInt8) : allWhole l = true → l ≠ [] → decW false [] (joinW (groups l)) = l ∧ decW true [32] (joinW (groups l)) = l := by
  refine list_ind (p := fun l => allWhole l = true → l ≠ [] → decW false [] (joinW (groups l)) = l ∧ decW true [32] (joinW (groups l)) = l) ?_ l
  intro l ih h hl
  have hg := group_pos (room := 30) (by omega) h hl
  have hle := group_le 30 l
  have hw := group_whole 30 l h
  rw [groups_go (by omega)]
  by_cases hd : l.drop (groupN 30 l) = []
  · have e := List.take_append_drop (groupN 30 l) l
    rw [hd, List.append_nil] at e
    rw [hd, groups_nil, e]
    show decW false [] (wordL l) = l ∧ decW true [32] (wordL l) = l
    obtain ⟨h1, h2⟩ := word_one l [] h
    rw [List.append_nil] at h1 h2
    have h0 : oneN (wordL l) ≠ 0 := by rw [h1, wordL_length]; omega
    have hdr : (wordL l).drop (wordL l).length = [] := List.drop_length
    rw [decW_word h0, decW_word h0, h1, h2, hdr, decW_nil, validL_nil]
    constructor <;> simp [allWs, wsB, validL_nil]
  · have hg2 := group_pos (room := 30) (by omega) hw.1 hd
    obtain ⟨i1, i2⟩ := ih _ (by rw [List.length_drop]; omega) hw.1 hd
    have e : joinW (l.take (groupN 30 l) :: groups (l.drop (groupN 30 l))) = wordL (l.take (groupN 30 l)) ++ 32 :: joinW (groups (l.drop (groupN 30 l))) := by
      rw [groups_go (l := l.drop (groupN 30 l)) (by omega)]; rfl
    rw [e]
    obtain ⟨h1, h2⟩ := word_one (l.take (groupN 30 l)) (32 :: joinW (groups (l.drop (groupN 30 l)))) hw.2
    have h0 : oneN (wordL (l.take (groupN 30 l)) ++ 32 :: joinW (groups (l.drop (groupN 30 l)))) ≠ 0 := by rw [h1, wordL_length]; omega
    rw [decW_word h0, decW_word h0, h1, h2, List.drop_left, dec_ws _ _ _ _ (by decide)]
    show _ ++ (_ ++ decW true [32] _) = l ∧ _ ++ (_ ++ decW true [32] _) = l
    rw [i2, List.take_append_drop]
    constructor <;> simp [allWs, wsB, validL_nil]

/-! ### signs alone, and no word longer than 52 -/
theorem wordL_signs (g : List UInt8) : ∀ c ∈ wordL g, 33 ≤ c.toNat ∧ c.toNat ≤ 126 := by
  intro c hc
  rw [wordL_eq] at hc
  simp only [List.mem_append] at hc
  rcases hc with (hc | hc) | hc
  · have : ∀ c ∈ ([61, 63, 117, 116, 102, 45, 56, 63, 66, 63] : List UInt8), 33 ≤ c.toNat ∧ c.toNat ≤ 126 := by decide
    exact this c hc
  · exact ⟨(encB_signs g c hc).1, (encB_signs g c hc).2.1⟩
  · have : ∀ c ∈ ([63, 61] : List UInt8), 33 ≤ c.toNat ∧ c.toNat ≤ 126 := by decide
    exact this c hc
theorem joinW_signs (L : List (List UInt8)) : ∀ c ∈ joinW L, 32 ≤ c.toNat ∧ c.toNat ≤ 126 := by
  induction L with
  | nil => intro c hc; cases hc
  | cons g r ih =>
    intro c hc
    match r, ih, hc with
    | [], _, hc => have := wordL_signs g c hc; omega
    | q :: r, ih, hc =>
      rcases List.mem_append.1 (show c ∈ wordL g ++ 32 :: joinW (q :: r) from hc) with h | h
      · have := wordL_signs g c h; omega
      · rcases List.mem_cons.1 h with rfl | h
        · decide
        · exact ih c h
/-- no run without a blank has more than 52 bytes, where n are behind -/
def runOK (n : Nat) : List UInt8 → Bool
  | [] => true
  | c :: r => if c = 32 then runOK 0 r else decide (n + 1 ≤ 52) && runOK (n + 1) r
theorem run_signs (a : List UInt8) (h : ∀ c ∈ a, 33 ≤ c.toNat) : ∀ (n : Nat) (r : List UInt8), n + a.length ≤ 52 → (∀ m, m ≤ 52 → runOK m r = true) → runOK n (a ++ r) = true := by
  induction a with
  | nil => intro n r hn hr; exact hr n (by simpa using hn)
  | cons c a ih =>
    intro n r hn hr
    have hc : c ≠ 32 := by
      rintro rfl
      have := h 32 (List.mem_cons_self ..)
      exact absurd this (by decide)
    rw [List.length_cons] at hn
    rw [List.cons_append, runOK, if_neg hc, ih (fun x hx => h x (List.mem_cons_of_mem _ hx)) (n + 1) r (by omega) hr]
    simp; omega
theorem groups_le (l : List UInt8) : ∀ g ∈ groups l, g.length ≤ 30 := by
  refine list_ind (p := fun l => ∀ g ∈ groups l, g.length ≤ 30) ?_ l
  intro l ih g hg
  by_cases h : groupN 30 l = 0
  · rw [groups_end h] at hg; cases hg
  · rw [groups_go h] at hg
    have hle := group_le 30 l
    rcases List.mem_cons.1 hg with rfl | hg
    · rw [List.length_take]; omega
    · exact ih _ (by rw [List.length_drop]; omega) g hg
theorem run_join (L : List (List UInt8)) (h : ∀ g ∈ L, g.length ≤ 30) : runOK 0 (joinW L) = true := by
  induction L with
  | nil => rfl
  | cons g r ih =>
    have hg := h g (List.mem_cons_self ..)
    have hl : (wordL g).length ≤ 52 := by rw [wordL_length, encB_len]; omega
    have hr := ih (fun x hx => h x (List.mem_cons_of_mem _ hx))
    match r, hr with
    | [], _ =>
      have := run_signs (wordL g) (fun c hc => (wordL_signs g c hc).1) 0 [] (by omega) (fun m _ => rfl)
      rw [List.append_nil] at this; exact this
    | q :: r, hr =>
      exact run_signs (wordL g) (fun c hc => (wordL_signs g c hc).1) 0 (32 :: joinW (q :: r)) (by omega) (fun m _ => by rw [runOK, if_pos rfl]; exact hr)
theorem joinW_length (l : List UInt8) : (joinW (groups l)).length ≤ 53 * l.length := by
  refine list_ind (p := fun l => (joinW (groups l)).length ≤ 53 * l.length) ?_ l
  intro l ih
  by_cases h : groupN 30 l = 0
  · rw [groups_end h]; simp [joinW]
  · have hle := group_le 30 l
    have hi := ih (l.drop (groupN 30 l)) (by rw [List.length_drop]; omega)
    have hl : (wordL (l.take (groupN 30 l))).length ≤ 52 := by
      have : (l.take (groupN 30 l)).length ≤ 30 := by rw [List.length_take]; omega
      rw [wordL_length, encB_len]; omega
    rw [List.length_drop] at hi
    rw [groups_go h]
    cases hg : groups (l.drop (groupN 30 l)) with
    | nil => show (wordL _).length ≤ _; omega
    | cons q r =>
      rw [hg] at hi
      show (wordL (l.take (groupN 30 l)) ++ 32 :: joinW (q :: r)).length ≤ _
      rw [List.length_append, List.length_cons]; omega
end Go.Proofs.YtgokefodmjhhiaaGreatDoor

/- WALK of strings.IndexRune beyond ASCII; a sign's bytes. No statement is proved here. -/
namespace Go.Proofs.YtgokefodmjhhiaaGreatDoor
open Go.RowKit
set_option linter.unusedVariables false
set_option linter.unusedSimpArgs false

theorem indexByte_high (l : List UInt8) (c : UInt8) (h : ∀ x ∈ l, x.toNat < 128) (hc : 128 ≤ c.toNat) : Lib.indexByte l c = -1 := by
  induction l with
  | nil => rfl
  | cons a r ih =>
    have ha := h a (List.mem_cons_self ..)
    have hne : (a == c) = false := by
      rw [beq_eq_false_iff_ne]; rintro rfl; omega
    simp [Lib.indexByte, hne, ih (fun x hx => h x (List.mem_cons_of_mem _ hx))]

/-- a quiet call behind a quiet region -/
theorem quiet_add_same {P : Program} {f : FuncId} {args : Array Value} {w : World} {a n : Nat} {v : Value}
    (h : Calls P f args (w.drewN (a + n)) fun e w' => e = .returned v ∧ w' = w.drewN (a + n)) :
    Calls P f args (w.drewN (a + n)) fun e w'' => e = .returned v ∧ ∃ m, w'' = w.drewN (a + m) :=
  h.mono fun _ _ ⟨he, hm⟩ => ⟨he, n, hm⟩

set_option maxRecDepth 100000 in
set_option maxHeartbeats 1000000 in
/-- a sign beyond ASCII is in no text of ASCII bytes -/
theorem indexRune_high (s : ByteArray) (r : Int) (w : World) (hs : s.size ≤ 100) (ha : s.data.toList.all (fun c => decide (c.toNat < 128)) = true) (h1 : 128 ≤ r) (h2 : r ≤ 2147483647) :
    Calls Tryz.prog 206 #[.string s, .int .i32 r] w fun e w' => e = .returned (.int .i64 (-1)) ∧ Below w.heap.size w w' := by
  have h3 : ¬ r < 128 := by omega
  have h4 : 0 ≤ r := by omega
  by_cases he : r = 65533
  · subst he
    have HA := hide ha
    clear ha
    go_enter Tryz.func206, Tryz.ntmps206
    go_wp2
    go_loopw [5, 6] (fun _ _ wr => ∃ pos : Nat, pos ≤ s.size ∧ wr = w.iter s pos) (fun _ _ wr => s.size - wr.iterPos w.heap.size)
    case atStart => exact ⟨0, Nat.zero_le _, rfl⟩
    case round =>
      obtain ⟨pos, hp, rfl⟩ := hrel
      by_cases hlt : pos < s.size
      · obtain ⟨x, hx, hx1, hnx⟩ := next_ascii (P := Tryz.prog) w s pos hlt HA.out
        clear hx
        have hne : ((x.toNat : Int) == 65533) = false := by rw [beq_eq_false_iff_ne]; omega
        go_wp2
        go_roundw
        case rel => exact ⟨pos + 1, by omega, rfl⟩
        case measure => simp; omega
      · obtain rfl : pos = s.size := by omega
        have hnx := run_next_end (P := Tryz.prog) w s s.size
        go_wp2
        go_ret
        exact ⟨rfl, iter_below _ _ _⟩
  · have hne : (r == 65533) = false := by rw [beq_eq_false_iff_ne]; exact he
    cases hv : Utf8.valid r with
    | false =>
      have HV : Hid (Lib.validRune r = false) := hide (by rw [show Lib.validRune r = Go.validRune r from rfl, ← validRune_eq]; exact hv)
      clear hv he
      go_enter Tryz.func206, Tryz.ntmps206
      go_wp2_with fail
      refine (Tryz.utf8_ValidRune r _).mono ?_
      rintro e w' ⟨rfl, hw⟩
      subst hw
      rw [HV.out]
      go_wp2_with fail
      go_ret
      exact ⟨rfl, Below.refl _ _⟩
    | true =>
      obtain ⟨e1, e2, e3⟩ := encode_facts r hv h1
      have HV : Hid (Lib.validRune r = true) := hide (by rw [show Lib.validRune r = Go.validRune r from rfl, ← validRune_eq]; exact hv)
      clear hv he
      obtain ⟨E, hE⟩ : ∃ E, E = Utf8.encode r := ⟨_, rfl⟩
      rw [← hE] at e1 e2 e3
      have hcv : ∀ w : World, (convert 21 9 (.int .i32 r)).run Tryz.prog w = .ok (.string E) w := fun w => by
        rw [hE]; exact run_convert_int_string w 21 9 .i32 r (by rw [Tryz.underlying21]; rfl) Tryz.underlying9
      clear hE
      obtain ⟨m, hm⟩ : ∃ m : Nat, E.size = m + 1 := ⟨E.size - 1, by omega⟩
      have hm1 : m < E.size := by omega
      have hb : 128 ≤ (E[m]'hm1).toNat := by
        have : ∀ j (h : j < E.size), j = E.size - 1 → 128 ≤ (E[j]'h).toNat := fun j h e => by subst e; exact e3 h
        exact this m hm1 (by omega)
      have hmm : (m : Int) < (m : Int) + 1 := by omega
      have hw : IntKind.i64.wrap ((m : Int) + 1) = (m : Int) + 1 := IntWalk.i64_in _ (by omega)
      clear e3
      by_cases hlt : m < s.size
      · have hsm : (s[m]'hlt).toNat < 128 := by
          have := List.all_eq_true.1 ha s[m] (by rw [← Array.mem_def]; exact Array.getElem_mem (by exact hlt))
          simpa using this
        have hne2 : ((s[m].toNat : Int) != (E[m].toNat : Int)) = true := by
          rw [bne_iff_ne]; omega
        have hix : Lib.indexByte (s.extract (m + 1) s.size).data.toList (E[m].toNat : Int).toNat.toUInt8 = -1 := by
          refine indexByte_high _ _ (fun x hx => ?_) (by simp; exact hb)
          have := List.all_eq_true.1 ha x (mem_extract hx)
          simpa using this
        have HIX := hide hix
        have o0 : (0 : Int) ≤ m := by omega
        have o1 : (m : Int) + 1 ≤ s.size := by omega
        have o3 : (0 : Int) ≤ (m : Int) + 1 := by omega
        have o4 : ((m : Int) + 1).toNat = m + 1 := by omega
        clear ha hb hix
        go_enter Tryz.func206, Tryz.ntmps206
        go_wp2_with fail
        refine (Tryz.utf8_ValidRune r _).mono ?_
        rintro e w' ⟨rfl, hw⟩
        subst hw
        rw [HV.out]
        go_wp2_with fail
        go_step3
        go_wp2
        go_loop [9, 10, 11, 12] (fun i f _ _ => i = .int .i64 m ∧ f = .int .i64 0) (fun _ _ _ _ => 0)
        case atStart => exact ⟨rfl, rfl⟩
        case round =>
          obtain ⟨rfl, rfl⟩ := hrel
          go_wp2
          go_step3
          go_wp2
          go_quiet (fail)
          go_wp2
          go_quiet ((go_at_call 182; exact quiet_add_same (Tryz.strings_IndexByte _ _ _)))
          rw [HIX.out]
          go_wp2
          simp +zetaDelta only [Exit.noGoto_ret, go_sem]
          go_ret
          exact ⟨rfl, ⟨rfl, rfl, rfl, Nat.le_refl _, fun _ _ => rfl⟩⟩
      · have o4 : ((m : Int) + 1).toNat = m + 1 := by omega
        clear ha hb
        go_enter Tryz.func206, Tryz.ntmps206
        go_wp2_with fail
        refine (Tryz.utf8_ValidRune r _).mono ?_
        rintro e w' ⟨rfl, hw⟩
        subst hw
        rw [HV.out]
        go_wp2_with fail
        go_step3
        go_wp2
        go_loop [9, 10, 11, 12] (fun i f _ _ => i = .int .i64 m ∧ f = .int .i64 0) (fun _ _ _ _ => 0)
        case atStart => exact ⟨rfl, rfl⟩
        case round =>
          obtain ⟨rfl, rfl⟩ := hrel
          go_wp2
          try simp +zetaDelta only [Exit.noGoto_ret, go_sem]
          go_ret
          exact ⟨rfl, Below.refl _ _⟩

theorem decode_high_or (s : ByteArray) (pos : Nat) (h : pos < s.size) : (s[pos].toNat < 128 ∧ Utf8.decode s pos = (s[pos].toNat, 1)) ∨ (128 ≤ s[pos].toNat ∧ 128 ≤ (Utf8.decode s pos).1 ∧ 1 ≤ (Utf8.decode s pos).2) := by
  by_cases ha : s[pos].toNat < 128
  · refine .inl ⟨ha, ?_⟩
    simp only [Utf8.decode, get_at s pos h, ha, if_true]
  · exact .inr ⟨by omega, decode_high s pos h (by omega)⟩

theorem not_contains_high {l : List UInt8} (h : l.all (fun c => decide (c.toNat < 128)) = true) {c : UInt8} (hc : 128 ≤ c.toNat) : l.contains c = false := by
  cases hm : l.contains c with
  | false => rfl
  | true =>
    have := List.all_eq_true.1 h c (by simpa using hm)
    have h2 : c.toNat < 128 := by simpa using this
    omega

/-- the bytes of a sign that is read are its first byte and bytes beyond ASCII -/
theorem decode_span (s : ByteArray) (pos : Nat) (h : pos < s.size) (ha : 128 ≤ s[pos].toNat) : ∀ j, pos ≤ j → j < pos + (Utf8.decode s pos).2 → ∀ b, s.data.toList[j]? = some b → 128 ≤ b.toNat := by
  intro j h1 h2 b hb
  rcases Nat.eq_or_lt_of_le h1 with rfl | h1
  · rw [List.getElem?_eq_getElem (by rw [toList_length]; exact h)] at hb
    rw [← Option.some.inj hb]; exact ha
  · have hj : j < s.size := by have := (List.getElem?_eq_some_iff.1 hb).1; rwa [toList_length] at this
    have e := decode_decL s pos h
    have hsp := decL_spec (s.data.toList.drop pos) (by rw [drop_cons s pos h]; simp)
    rw [e, hsp.2.1] at h2
    by_cases hz : wholeN (s.data.toList.drop pos) = 0
    · rw [vStep_zero hz] at h2
      simp at h2; omega
    · rw [vStep_pos rfl hz] at h2
      simp only at h2
      have hw := whole_first hz
      have := hw.2 (j - pos) (by omega) (by omega)
      rw [List.getD_eq_getElem?_getD, List.getElem?_drop, Nat.add_sub_cancel' (by omega), hb] at this
      have := (contB_iff b).1 this
      omega

theorem decode_end (s : ByteArray) (pos : Nat) (h : pos < s.size) : pos + (Utf8.decode s pos).2 ≤ s.size := by
  have hne : s.data.toList.drop pos ≠ [] := by rw [drop_cons s pos h]; simp
  have hsp := decL_spec _ hne
  have hst := vStep_pos' _ hne
  rw [List.length_drop, toList_length] at hst
  rw [decode_decL s pos h, hsp.2.1]; omega
end Go.Proofs.YtgokefodmjhhiaaGreatDoor

/- WALKS of strings.IndexAny and ContainsAny at any text and a set of ASCII bytes. No statement is proved here. -/
namespace Go.Proofs.YtgokefodmjhhiaaGreatDoor
open Go.RowKit
set_option linter.unusedVariables false
set_option linter.unusedSimpArgs false

/-- is one of the bytes of cs in l? -/
def hasAny (cs l : List UInt8) : Bool := l.any fun c => cs.contains c

theorem noAny_step {s : ByteArray} {cs : List UInt8} {pos n : Nat} (h : Lib.NoAny s.data.toList cs pos) (hn : ∀ j, pos ≤ j → j < pos + n → ∀ b, s.data.toList[j]? = some b → cs.contains b = false) : Lib.NoAny s.data.toList cs (pos + n) := by
  intro j b hj hb
  rcases Nat.lt_or_ge j pos with h1 | h1
  · exact h j b h1 hb
  · exact hn j h1 hj b hb
set_option maxRecDepth 100000 in
set_option maxHeartbeats 1000000 in
theorem indexAny_short (s cs : ByteArray) (w : World) (h2 : 2 ≤ cs.size) (hcs : cs.size ≤ 100) (h8 : s.size ≤ 8) (ha : cs.data.toList.all (fun c => decide (c.toNat < 128)) = true) :
    Calls Tryz.prog 174 #[.string s, .string cs] w fun e w' => e = .returned (.int .i64 (Lib.indexAny s.data.toList cs.data.toList)) ∧ Below w.heap.size w w' := by
  have hemp : cs.toList.isEmpty = false := by
    rw [Lib.toList_data]
    cases h : cs.data.toList with
    | nil => have := Lib.size_eq cs; rw [h, List.length_nil] at this; omega
    | cons _ _ => rfl
  have hn1 : ((cs.size : Int) == 1) = false := beq_eq_false_iff_ne.2 (by omega)
  have h8z : decide ((8 : Int) < (s.size : Int)) = false := decide_eq_false (by omega)
  have HA := hide ha
  clear ha
  go_enter Tryz.func174, Tryz.ntmps174
  go_wp2_with fail
  refine (Tryz.strings_shouldUseASCIISet _ _).mono ?_
  rintro e w1 ⟨rfl, hw1⟩
  subst hw1
  rw [h8z]
  go_wp2_with fail
  have hit : (w1.iter s 0).heap[w1.heap.size]? = some (Obj.stringIter s 0) := heap_alloc_new w1 _
  have hb0 : Below w1.heap.size w1 (w1.iter s 0) := iter_below w1 s 0
  have hg0 : w1.heap.size < (w1.iter s 0).heap.size := (Array.getElem?_eq_some_iff.1 hit).1
  go_loopw [9, 10] (fun _ _ wr => ∃ pos : Nat, pos ≤ s.size ∧ wr.heap[w1.heap.size]? = some (Obj.stringIter s pos) ∧ Below w1.heap.size w1 wr ∧ Lib.NoAny s.data.toList cs.data.toList pos) (fun _ _ wr => s.size - wr.iterPos w1.heap.size)
  case atStart => exact ⟨0, Nat.zero_le _, hit, hb0, Lib.NoAny.zero _ _⟩
  case round =>
    obtain ⟨pos, hpos, hk, hb, hno⟩ := hrel
    have HK := hide hk
    have HB := hide hb
    have HN := hide hno
    have hsz : w1.heap.size < wr.heap.size := (Array.getElem?_eq_some_iff.1 hk).1
    clear hk hb hno
    by_cases hlt : pos < s.size
    · have hnx := fun ty => Lib.run_next_any_at (P := Tryz.prog) wr w1.heap.size s pos ty HK.out hlt
      have hle := decode_le s pos
      rcases decode_high_or s pos hlt with ⟨hx, hdec⟩ | ⟨hx, hd1, hd2⟩
      · rw [hdec] at hnx
        have hg : s.data.toList[pos]? = some s[pos] := by rw [List.getElem?_eq_getElem (by rw [toList_length]; exact hlt)]; rfl
        have hcon := Lib.contains_iff_indexByte cs.data.toList s[pos]
        have hback : ((s[pos].toNat : Int)).toNat.toUInt8 = s[pos] := by simp
        have HI := hide (Lib.iterAt_heap wr w1.heap.size s pos (pos + 1) HK.out)
        have HB1 := hide (Lib.below_iterAt HB.out (Nat.le_refl _) s (pos + 1))
        have HG := hide hg
        clear hdec hg
        cases hin : cs.data.toList.contains s[pos]
        · rw [hin] at hcon
          have hlt2 : ¬ ((0 : Int) ≤ Lib.indexByte cs.data.toList s[pos]) := of_decide_eq_false hcon.symm
          have HIN := hide hin
          clear hcon hin
          go_wp2_with fail
          refine (Tryz.strings_IndexRune_ascii _ _ _ (by omega) (by omega)).mono ?_
          rintro e w2 ⟨rfl, hw2⟩
          subst hw2
          rw [hback]
          go_wp2_with fail
          go_roundw
          case rel => exact ⟨pos + 1, by omega, HI.out, HB1.out, HN.out.succ HG.out HIN.out⟩
          case measure =>
            rw [show World.iterPos (World.iterAt wr w1.heap.size s (pos + 1)) w1.heap.size = pos + 1 by unfold World.iterPos; rw [HI.out], show World.iterPos wr w1.heap.size = pos by unfold World.iterPos; rw [HK.out]]
            omega
        · rw [hin] at hcon
          have hge : (0 : Int) ≤ Lib.indexByte cs.data.toList s[pos] := of_decide_eq_true hcon.symm
          have HIN := hide hin
          clear hcon hin
          go_wp2_with fail
          refine (Tryz.strings_IndexRune_ascii _ _ _ (by omega) (by omega)).mono ?_
          rintro e w2 ⟨rfl, hw2⟩
          subst hw2
          rw [hback]
          go_wp2_with fail
          go_ret
          exact ⟨ret_int (by rw [Lib.indexAny_hit HN.out HG.out HIN.out]), HB1.out⟩
      · have hsp := decode_span s pos hlt hx
        have hle2 := decode_end s pos hlt
        generalize Utf8.decode s pos = dl at hnx hd1 hd2 hle hsp hle2
        obtain ⟨r, n⟩ := dl
        simp only at hnx hd1 hd2 hle hsp hle2
        have HI := hide (Lib.iterAt_heap wr w1.heap.size s pos (pos + n) HK.out)
        have HB1 := hide (Lib.below_iterAt HB.out (Nat.le_refl _) s (pos + n))
        have HN2 := hide (noAny_step HN.out fun j h1 h2 b hb => not_contains_high HA.out (hsp j h1 h2 b hb))
        clear hsp
        go_wp2_with fail
        refine (indexRune_high cs (r : Int) _ (by omega) HA.out (by omega) (by omega)).mono ?_
        rintro e w2 ⟨rfl, hb2⟩
        have HI2 := hide ((hb2.block _ (by rw [Lib.iterAt_size]; exact hsz)).trans HI.out)
        have HB2 := hide (HB1.out.trans (hb2.mono (by rw [Lib.iterAt_size]; exact HB.out.size)))
        clear hb2
        go_wp2_with fail
        go_roundw
        case rel => exact ⟨pos + n, by omega, HI2.out, HB2.out, HN2.out⟩
        case measure =>
          have e1 : World.iterPos w2 w1.heap.size = pos + n := by unfold World.iterPos; rw [HI2.out]
          have e2 : World.iterPos wr w1.heap.size = pos := by unfold World.iterPos; rw [HK.out]
          rw [e1, e2]; omega
    · have hnx := fun ty => Lib.run_next_end_at (P := Tryz.prog) wr w1.heap.size s pos ty HK.out hlt
      go_wp2
      go_ret
      exact ⟨ret_int (by rw [Lib.indexAny_none (by rw [← Lib.size_eq]; exact fun j b hj => HN.out j b (by omega))]), HB.out⟩
theorem hasAny_index (cs l : List UInt8) : Lib.containsAny l cs = hasAny cs l := by
  unfold Lib.containsAny hasAny
  induction l with
  | nil => rfl
  | cons a r ih =>
    rw [List.any_cons, ← ih]
    have hge := Lib.indexAny_ge cs r
    by_cases h : cs.contains a = true
    · have e : Lib.indexAny (a :: r) cs = 0 := by simp only [Lib.indexAny]; exact if_pos h
      rw [decide_eq_true (show 0 ≤ Lib.indexAny (a :: r) cs by omega), h]; rfl
    · have hf : cs.contains a = false := by simpa using h
      rw [hf, Bool.false_or]
      have e : Lib.indexAny (a :: r) cs = if (Lib.indexAny r cs == -1) = true then -1 else Lib.indexAny r cs + 1 := by simp only [Lib.indexAny]; exact if_neg h
      by_cases h0 : Lib.indexAny r cs = -1
      · rw [if_pos (beq_iff_eq.2 h0)] at e
        rw [decide_eq_false (show ¬ 0 ≤ Lib.indexAny (a :: r) cs by omega), decide_eq_false (show ¬ 0 ≤ Lib.indexAny r cs by omega)]
      · rw [if_neg (fun x => h0 (beq_iff_eq.1 x))] at e
        rw [decide_eq_true (show 0 ≤ Lib.indexAny (a :: r) cs by omega), decide_eq_true (show 0 ≤ Lib.indexAny r cs by omega)]

theorem indexAny_any (s cs : ByteArray) (w : World) (h2 : 2 ≤ cs.size) (hcs : cs.size ≤ 100) (hs : s.size ≤ 16777216) (ha : cs.data.toList.all (fun c => decide (c.toNat < 128)) = true) :
    Calls Tryz.prog 174 #[.string s, .string cs] w fun e w' => e = .returned (.int .i64 (Lib.indexAny s.data.toList cs.data.toList)) ∧ Below w.heap.size w w' := by
  by_cases h8 : s.size ≤ 8
  · exact indexAny_short s cs w h2 hcs h8 ha
  · exact (Tryz.strings_IndexAny_long (zero_of_info (n := 256) (by kernel_rfl)).1 s cs w h2 (by omega) (by omega) (by omega) (ascii_of_all ha)).mono fun e w' ⟨he, hw⟩ => ⟨he, by rw [hw]; exact ((Below.refl _ _).alloc (Nat.le_refl _) _).alloc (by simp) _⟩
end Go.Proofs.YtgokefodmjhhiaaGreatDoor

/- WALK of strings.Cut at a text of one byte. No statement is proved here. -/
namespace Go.Proofs.YtgokefodmjhhiaaGreatDoor
open Go.RowKit
set_option linter.unusedVariables false
set_option linter.unusedSimpArgs false

theorem index_cut (c : UInt8) (l : List UInt8) : (Lib.indexByte l c = -1 ∧ c ∉ l ∧ beforeC c l = l ∧ afterC c l = []) ∨ ∃ o : Nat, Lib.indexByte l c = o ∧ o < l.length ∧ c ∈ l ∧ beforeC c l = l.take o ∧ afterC c l = l.drop (o + 1) := by
  induction l with
  | nil => exact .inl ⟨rfl, by simp, rfl, rfl⟩
  | cons a r ih =>
    by_cases h : a = c
    · subst h
      have := cut_at a (a :: r) 0 (by simp) rfl (fun j hj => absurd hj (by omega))
      exact .inr ⟨0, by simp [Lib.indexByte], by simp, this.1, this.2.1, this.2.2⟩
    · have h1 : (a == c) = false := by simp [h]
      have h2 : (a != c) = true := by simp [h]
      have eb : beforeC c (a :: r) = a :: beforeC c r := by simp [beforeC, List.takeWhile_cons, h2]
      have ea : afterC c (a :: r) = afterC c r := by simp [afterC, List.dropWhile_cons, h2]
      rcases ih with ⟨i1, i2, i3, i4⟩ | ⟨o, i1, i2, i3, i4, i5⟩
      · refine .inl ⟨by simp [Lib.indexByte, h1, i1], ?_, by rw [eb, i3], by rw [ea, i4]⟩
        intro hm
        rcases List.mem_cons.1 hm with e | e
        · exact h e.symm
        · exact i2 e
      · have hne : ((o : Int) == -1) = false := by rw [beq_eq_false_iff_ne]; omega
        refine .inr ⟨o + 1, by simp [Lib.indexByte, h1, i1, hne], by simp; omega, List.mem_cons_of_mem _ i3, by rw [eb, i4]; rfl, by rw [ea, i5]; rfl⟩

/-- what Cut answers -/
def cutV (c : UInt8) (l : List UInt8) : Value := .tuple #[.string (str (beforeC c l)), .string (str (afterC c l)), .bool (hasC c l)]
theorem ret_cut {a b x y : ByteArray} {d e : Bool} (h : a = b) (h' : x = y) (h'' : d = e) : Ending.returned (.tuple #[.string a, .string x, .bool d]) = .returned (.tuple #[.string b, .string y, .bool e]) := by rw [h, h', h'']
set_option maxHeartbeats 1000000 in
theorem cut_any (s : ByteArray) (c : UInt8) (w : World) (hs : s.size ≤ 70368744177664) :
    Calls Tryz.prog 130 #[.string s, .string ⟨#[c]⟩] w fun e w' => e = .returned (cutV c s.data.toList) ∧ Below w.heap.size w w' := by
  have hz : (⟨#[c]⟩ : ByteArray).size = 1 := rfl
  rcases index_cut c s.data.toList with ⟨i1, i2, i3, i4⟩ | ⟨o, i1, i2, i3, i4, i5⟩
  · have I1 := hide i1
    have I2 := hide i2
    have I3 := hide i3
    have I4 := hide i4
    clear i1 i2 i3 i4
    go_enter Tryz.func130, Tryz.ntmps130
    go_wp2_with fail
    refine (Tryz.stringslite_Index_one s c _).mono ?_
    rintro e w1 ⟨rfl, hw⟩
    subst hw
    rw [I1.out]
    go_wp2_with fail
    go_ret3
    exact ⟨ret_cut (by rw [I3.out, str_of]) (by rw [I4.out]; rfl) (by rw [hasC_false I2.out]), Below.refl _ _⟩
  · have I1 := hide i1
    have I3 := hide i3
    have I4 := hide i4
    have I5 := hide i5
    rw [toList_length] at i2
    have o1 : (o : Int) + 1 ≤ s.size := by omega
    have o0 : (0 : Int) ≤ o := by omega
    have o2 : (o : Int) ≤ s.size := by omega
    have o3 : (0 : Int) ≤ (o : Int) + 1 := by omega
    have o4 : ((o : Int) + 1).toNat = o + 1 := by omega
    clear i1 i3 i4 i5
    go_enter Tryz.func130, Tryz.ntmps130
    go_wp2_with fail
    refine (Tryz.stringslite_Index_one s c _).mono ?_
    rintro e w1 ⟨rfl, hw⟩
    subst hw
    rw [I1.out]
    go_wp2_with fail
    go_region
    all_goals (try go_wp2)
    all_goals
      go_ret3
      exact ⟨ret_cut (ext_list (by rw [extract_list, List.drop_zero, str_toList, I4.out])) (ext_list (by rw [extract_end, str_toList, I5.out])) (by rw [hasC_true I3.out]), (Below.refl _ _).drew⟩

set_option maxHeartbeats 1000000 in
theorem strCut_any (s : ByteArray) (c : UInt8) (w : World) (hs : s.size ≤ 70368744177664) :
    Calls Tryz.prog 90 #[.string s, .string ⟨#[c]⟩] w fun e w' => e = .returned (cutV c s.data.toList) ∧ Below w.heap.size w w' := by
  go_enter Tryz.func90, Tryz.ntmps90
  go_wp2_with fail
  refine (cut_any s c _ hs).mono ?_
  rintro e w1 ⟨rfl, hb⟩
  unfold cutV
  go_wp2_with fail
  go_ret3
  exact ⟨rfl, hb⟩
end Go.Proofs.YtgokefodmjhhiaaGreatDoor

/- WALK of ascii.Letter, alone (for seats without ascii.Plain). No statement is proved here. Own work of the verifier. -/
namespace Go.Proofs.YtgokefodmjhhiaaGreatDoor
open Go.RowKit
set_option linter.unusedVariables false
set_option linter.unusedSimpArgs false
set_option maxRecDepth 100000
theorem letterW_any (c : UInt8) (w : World) :
    Calls Tryz.prog 93 #[.int .u8 c.toNat] w fun e w' => e = .returned (.bool (letterB c)) ∧ w = w' := by
  have hc := byte_lt c
  rcases letter_case c with ⟨c1, c2, e⟩ | ⟨c1, c2, c3, e⟩ | ⟨c1, c2, e⟩ | ⟨c1, c2, c3, e⟩ | ⟨c1, c2, e⟩
  all_goals
    rw [e]; clear e
    go_enter Tryz.func93, Tryz.ntmps93
    go_wp2
    go_ret
    exact ⟨ret_bool (by first | rfl | (simp; omega)), rfl⟩
end Go.Proofs.YtgokefodmjhhiaaGreatDoor

/- Small facts: empty texts, a byte made small. No statement is proved here. Own work of the verifier. -/
namespace Go.Proofs.YtgokefodmjhhiaaGreatDoor
open Go.RowKit
set_option linter.unusedVariables false
theorem size0 {t : ByteArray} (h : t.size = 0) : t.data.toList = [] ∧ t.toList.isEmpty = true := by
  have e : t.data.toList = [] := List.eq_nil_of_length_eq_zero (by rw [toList_length]; exact h)
  exact ⟨e, by rw [bytes_list, e]; rfl⟩
theorem sizeP {t : ByteArray} (h : ¬ t.size = 0) : t.data.toList ≠ [] ∧ t.toList.isEmpty = false := by
  have hne : t.data.toList ≠ [] := fun e => by have := toList_length t; rw [e] at this; simp at this; omega
  refine ⟨hne, ?_⟩
  rw [bytes_list]
  cases h : t.data.toList with
  | nil => exact absurd h hne
  | cons _ _ => rfl
theorem or32 (c : UInt8) : bits .or .u8 (c.toNat : Int) 32 = ((c ||| 32).toNat : Int) := u8_all (p := fun c => bits .or .u8 (c.toNat : Int) 32 = ((c ||| 32).toNat : Int)) (by decide +kernel) c
end Go.Proofs.YtgokefodmjhhiaaGreatDoor

/- WALKS of htok's reading of texts: upTo, readValue, isMark, firstMark, isRawEnd, rawSize. No statement is proved here. Own work of the verifier. -/
namespace Go.Proofs.YtgokefodmjhhiaaGreatDoor
open Go.RowKit
set_option linter.unusedVariables false
set_option linter.unusedSimpArgs false
set_option maxRecDepth 100000
theorem indexAny_up (cs : List UInt8) : ∀ l : List UInt8, (Lib.indexAny l cs = -1 ∧ l.takeWhile (fun c => !cs.contains c) = l ∧ l.dropWhile (fun c => !cs.contains c) = []) ∨
    ∃ o : Nat, Lib.indexAny l cs = o ∧ o < l.length ∧ l.takeWhile (fun c => !cs.contains c) = l.take o ∧ l.dropWhile (fun c => !cs.contains c) = l.drop o
  | [] => .inl ⟨rfl, rfl, rfl⟩
  | c :: r => by
    cases hc : cs.contains c with
    | true => exact .inr ⟨0, by simp only [Lib.indexAny, hc, if_true]; rfl, Nat.succ_pos _, by simp only [List.takeWhile_cons, hc, Bool.not_true]; rfl, by simp only [List.dropWhile_cons, hc, Bool.not_true]; rfl⟩
    | false =>
      rcases indexAny_up cs r with ⟨h1, h2, h3⟩ | ⟨o, h1, h2, h3, h4⟩
      · exact .inl ⟨by simp only [Lib.indexAny, hc, h1]; rfl, by simp only [List.takeWhile_cons, hc, Bool.not_false, if_true, h2], by simp only [List.dropWhile_cons, hc, Bool.not_false, if_true, h3]⟩
      · have hne : ((o : Int) == -1) = false := by rw [beq_eq_false_iff_ne]; omega
        exact .inr ⟨o + 1, by simp only [Lib.indexAny, hc, h1]; rw [if_neg Bool.false_ne_true, if_neg (by rw [hne]; exact Bool.false_ne_true)]; rfl, Nat.succ_lt_succ h2, by simp only [List.takeWhile_cons, hc, Bool.not_false, if_true, h3, List.take_succ_cons], by simp only [List.dropWhile_cons, hc, Bool.not_false, if_true, h4, List.drop_succ_cons]⟩
def upV (x : List UInt8 × List UInt8) : Value := .tuple #[.string (str x.1), .string (str x.2)]
set_option maxHeartbeats 2000000 in
theorem upTo0_any (s cs : ByteArray) (p : UInt8 → Bool) (w : World) (hp : ∀ c, cs.data.toList.contains c = p c) (hs : s.size ≤ 16777216) (h2 : 2 ≤ cs.size) (hcs : cs.size ≤ 100) (ha : cs.data.toList.all (fun c => decide (c.toNat < 128)) = true) :
    Calls Tryz.prog 152 #[.string s, .int .i64 0, .string cs] w fun e w' => e = .returned (upV (upL p s.data.toList)) ∧ Below w.heap.size w w' := by
  have HI := hide (fun w2 => indexAny_any s cs w2 h2 hcs hs ha)
  have hup : upL p s.data.toList = (s.data.toList.takeWhile (fun c => !cs.data.toList.contains c), s.data.toList.dropWhile (fun c => !cs.data.toList.contains c)) := by
    unfold upL
    rw [show (fun c => !p c) = (fun c => !cs.data.toList.contains c) from funext fun c => by rw [hp]]
  rcases indexAny_up cs.data.toList s.data.toList with ⟨i1, i2, i3⟩ | ⟨o, i1, i2, i3, i4⟩
  · rw [i1] at HI
    have HR : Hid (upV (upL p s.data.toList) = .tuple #[.string s, .string ⟨#[]⟩]) := hide (by rw [hup, i2, i3]; unfold upV; rw [str_of]; rfl)
    clear hup i1 i2 i3 ha hp
    go_enter Tryz.func152, Tryz.ntmps152
    go_wp2_with fail
    refine (HI.out _).mono ?_
    rintro e w1 ⟨rfl, hb1⟩
    have HB := hide hb1
    clear hb1
    go_wp2_with fail
    go_ret2
    exact ⟨by rw [HR.out]; rfl, HB.out⟩
  · rw [i1] at HI
    rw [toList_length] at i2
    have HR : Hid (upV (upL p s.data.toList) = .tuple #[.string (s.extract 0 o), .string (s.extract o s.size)]) := hide (by
      rw [hup, i3, i4]
      unfold upV
      rw [show str (s.data.toList.take o) = s.extract 0 o from ext_list (by rw [str_toList, extract_list, List.drop_zero]), show str (s.data.toList.drop o) = s.extract o s.size from ext_list (by rw [str_toList, extract_end])])
    have q0 : (0 : Int) ≤ o := by omega
    have q1 : (o : Int) ≤ s.size := by omega
    have q2 : IntKind.i64.wrap (o : Int) = (o : Int) := IntWalk.i64_in _ (by omega)
    have q3 : IntKind.i64.wrap (0 + (o : Int)) = (o : Int) := by rw [Int.zero_add]; exact q2
    clear hup i1 i2 i3 i4 ha hp
    go_enter Tryz.func152, Tryz.ntmps152
    go_wp2_with fail
    refine (HI.out _).mono ?_
    rintro e w1 ⟨rfl, hb1⟩
    have HB := hide hb1
    clear hb1
    go_wp2_with fail
    go_quiet (fail)
    try go_wp2_with fail
    go_ret2
    exact ⟨by rw [HR.out]; rfl, HB.out.trans ⟨rfl, rfl, rfl, Nat.le_refl _, fun _ _ => rfl⟩⟩
/-- from the second byte on -/
def up1L (p : UInt8 → Bool) (l : List UInt8) : List UInt8 × List UInt8 := (l.take 1 ++ (upL p (l.drop 1)).1, (upL p (l.drop 1)).2)
set_option maxHeartbeats 2000000 in
theorem upTo1_any (s cs : ByteArray) (p : UInt8 → Bool) (w : World) (hp : ∀ c, cs.data.toList.contains c = p c) (hs : s.size ≤ 16777216) (h1 : 1 ≤ s.size) (h2 : 2 ≤ cs.size) (hcs : cs.size ≤ 100) (ha : cs.data.toList.all (fun c => decide (c.toNat < 128)) = true) :
    Calls Tryz.prog 152 #[.string s, .int .i64 1, .string cs] w fun e w' => e = .returned (upV (up1L p s.data.toList)) ∧ Below w.heap.size w w' := by
  have hez : (s.extract 1 s.size).size ≤ 16777216 := by rw [ByteArray.size_extract]; omega
  have hel : (s.extract 1 s.size).data.toList = s.data.toList.drop 1 := extract_end s 1
  have HI := hide (fun w2 => indexAny_any (s.extract 1 s.size) cs w2 h2 hcs hez ha)
  rw [hel] at HI
  have hup : upL p (s.data.toList.drop 1) = ((s.data.toList.drop 1).takeWhile (fun c => !cs.data.toList.contains c), (s.data.toList.drop 1).dropWhile (fun c => !cs.data.toList.contains c)) := by
    unfold upL
    rw [show (fun c => !p c) = (fun c => !cs.data.toList.contains c) from funext fun c => by rw [hp]]
  have r0 : (1 : Int) ≤ s.size := by omega
  rcases indexAny_up cs.data.toList (s.data.toList.drop 1) with ⟨i1, i2, i3⟩ | ⟨o, i1, i2, i3, i4⟩
  · rw [i1] at HI
    have HR : Hid (upV (up1L p s.data.toList) = .tuple #[.string s, .string ⟨#[]⟩]) := hide (by
      unfold up1L
      rw [hup, i2, i3]; unfold upV; rw [List.take_append_drop, str_of]; rfl)
    clear hup i1 i2 i3 ha hp hel hez
    go_enter Tryz.func152, Tryz.ntmps152
    go_wp2_with fail
    refine (HI.out _).mono ?_
    rintro e w1 ⟨rfl, hb1⟩
    have HB := hide hb1
    clear hb1
    go_wp2_with fail
    go_ret2
    exact ⟨by rw [HR.out]; rfl, HB.out⟩
  · rw [i1] at HI
    rw [List.length_drop, toList_length] at i2
    have HR : Hid (upV (up1L p s.data.toList) = .tuple #[.string (s.extract 0 (1 + o)), .string (s.extract (1 + o) s.size)]) := hide (by
      unfold up1L
      rw [hup, i3, i4]
      unfold upV
      rw [show str (s.data.toList.take 1 ++ (s.data.toList.drop 1).take o) = s.extract 0 (1 + o) from ext_list (by rw [str_toList, extract_list, List.drop_zero, List.take_add]), show str ((s.data.toList.drop 1).drop o) = s.extract (1 + o) s.size from ext_list (by rw [str_toList, extract_end, List.drop_drop])])
    have q0 : (0 : Int) ≤ 1 + (o : Int) := by omega
    have q1 : 1 + (o : Int) ≤ s.size := by omega
    have q2 : IntKind.i64.wrap (1 + (o : Int)) = 1 + (o : Int) := IntWalk.i64_in _ (by omega)
    have q3 : (1 + (o : Int)).toNat = 1 + o := by omega
    have q4 : (0 : Int) ≤ o := by omega
    clear hup i1 i2 i3 i4 ha hp hel hez
    go_enter Tryz.func152, Tryz.ntmps152
    go_wp2_with fail
    refine (HI.out _).mono ?_
    rintro e w1 ⟨rfl, hb1⟩
    have HB := hide hb1
    clear hb1
    go_wp2_with fail
    go_quiet (fail)
    try go_wp2_with fail
    go_ret2
    exact ⟨by rw [HR.out]; rfl, HB.out.trans ⟨rfl, rfl, rfl, Nat.le_refl _, fun _ _ => rfl⟩⟩
end Go.Proofs.YtgokefodmjhhiaaGreatDoor

/- WALKS of htok's isMark and firstMark. No statement is proved here. Own work of the verifier. -/
namespace Go.Proofs.YtgokefodmjhhiaaGreatDoor
open Go.RowKit
set_option linter.unusedVariables false
set_option linter.unusedSimpArgs false
set_option maxRecDepth 100000
theorem isMark_len {l : List UInt8} (h : l.length < 2) : isMarkB l = false := by
  match l, h with
  | [], _ => rfl
  | [a], _ => unfold isMarkB; split <;> first | rfl | (rename_i e; simp at e)
theorem isMark_head {a : UInt8} {r : List UInt8} (h : a ≠ 60) : isMarkB (a :: r) = false := by
  unfold isMarkB
  split
  · rename_i e
    exact absurd (List.cons.inj e).1 h
  · rfl
theorem isMark_mk (c : UInt8) (r : List UInt8) : isMarkB (60 :: c :: r) = if c = 33 ∨ c = 63 then true else if c = 47 then !r.isEmpty else letterB c := by unfold isMarkB; rfl
theorem hasPrefix_60 (a : UInt8) (r : List UInt8) : Lib.hasPrefix (a :: r) [60] = decide (a = 60) := by
  unfold Lib.hasPrefix
  show ((60 == a) && true) = _
  rw [Bool.and_true]
  by_cases h : a = 60
  · subst h; rfl
  · rw [decide_eq_false h]
    exact beq_false_of_ne (fun e => h e.symm)
set_option maxHeartbeats 2000000 in
theorem isMark_any (s : ByteArray) (w : World) (hs : s.size ≤ 16777216) :
    Calls Tryz.prog 86 #[.string s] w fun e w' => e = .returned (.bool (isMarkB s.data.toList)) ∧ w = w' := by
  have hlen := toList_length s
  by_cases h2 : s.size < 2
  · have HR := hide (isMark_len (l := s.data.toList) (by rw [hlen]; exact h2))
    clear hlen
    go_enter Tryz.func86, Tryz.ntmps86
    go_wp2_with fail
    all_goals first | (exact absurd h2 ‹_›) | skip
    go_ret
    exact ⟨ret_bool HR.out.symm, rfl⟩
  · have h0 : 0 < s.size := by omega
    have h1 : 1 < s.size := by omega
    have e0 := drop_cons s 0 h0
    rw [List.drop_zero] at e0
    have e1 := drop_cons s 1 h1
    have hl : s.data.toList = s[0] :: s[1] :: s.data.toList.drop 2 := by rw [← e1]; exact e0
    have n2 : ¬ s.size < 2 := h2
    by_cases ha : s[0] = 60
    · have HP : Hid (Lib.hasPrefix s.data.toList (⟨#[60]⟩ : ByteArray).data.toList = true) := hide (by
        show Lib.hasPrefix s.data.toList [60] = true
        rw [hl, hasPrefix_60]
        exact decide_eq_true ha)
      have hmk : isMarkB s.data.toList = if s[1] = 33 ∨ s[1] = 63 then true else if s[1] = 47 then !(s.data.toList.drop 2).isEmpty else letterB s[1] := by
        conv => lhs; rw [hl, ha]
        exact isMark_mk _ _
      have hc256 := byte_lt s[1]
      by_cases h33 : s[1] = 33
      · have t33 : ((s[1].toNat : Int) == 33) = true := tT 33 h33 (by omega)
        have HR : Hid (isMarkB s.data.toList = true) := hide (by rw [hmk, if_pos (.inl h33)])
        clear hmk hl e0 e1 hlen ha
        go_enter Tryz.func86, Tryz.ntmps86
        go_wp2_with fail
        refine (Tryz.strings_HasPrefix s _ _).mono ?_
        rintro e w1 ⟨rfl, hw⟩
        subst hw
        rw [HP.out]
        go_wp2_with fail
        go_ret
        exact ⟨ret_bool HR.out.symm, rfl⟩
      · have t33 : ((s[1].toNat : Int) == 33) = false := tF 33 h33 (by omega)
        by_cases h63 : s[1] = 63
        · have t63 : ((s[1].toNat : Int) == 63) = true := tT 63 h63 (by omega)
          have HR : Hid (isMarkB s.data.toList = true) := hide (by rw [hmk, if_pos (.inr h63)])
          clear hmk hl e0 e1 hlen ha
          go_enter Tryz.func86, Tryz.ntmps86
          go_wp2_with fail
          refine (Tryz.strings_HasPrefix s _ _).mono ?_
          rintro e w1 ⟨rfl, hw⟩
          subst hw
          rw [HP.out]
          go_wp2_with fail
          go_ret
          exact ⟨ret_bool HR.out.symm, rfl⟩
        · have t63 : ((s[1].toNat : Int) == 63) = false := tF 63 h63 (by omega)
          rw [if_neg (by rintro (h | h); exact h33 h; exact h63 h)] at hmk
          by_cases h47 : s[1] = 47
          · have t47 : ((s[1].toNat : Int) == 47) = true := tT 47 h47 (by omega)
            rw [if_pos h47] at hmk
            have HR : Hid (isMarkB s.data.toList = decide ((2 : Int) < s.size)) := hide (by
              rw [hmk]
              have hd : (s.data.toList.drop 2).length = s.size - 2 := by rw [List.length_drop, hlen]
              cases hdl : s.data.toList.drop 2 with
              | nil => rw [hdl] at hd; exact (decide_eq_false (by simp at hd; omega)).symm
              | cons a r => rw [hdl] at hd; exact (decide_eq_true (by simp at hd; omega)).symm)
            clear hmk hl e0 e1 hlen ha
            go_enter Tryz.func86, Tryz.ntmps86
            go_wp2_with fail
            refine (Tryz.strings_HasPrefix s _ _).mono ?_
            rintro e w1 ⟨rfl, hw⟩
            subst hw
            rw [HP.out]
            go_wp2_with fail
            go_ret
            exact ⟨ret_bool (by rw [HR.out]), rfl⟩
          · have t47 : ((s[1].toNat : Int) == 47) = false := tF 47 h47 (by omega)
            rw [if_neg h47] at hmk
            have HR := hide hmk
            clear hmk hl e0 e1 hlen ha
            go_enter Tryz.func86, Tryz.ntmps86
            go_wp2_with fail
            refine (Tryz.strings_HasPrefix s _ _).mono ?_
            rintro e w1 ⟨rfl, hw⟩
            subst hw
            rw [HP.out]
            go_wp2_with fail
            refine (letterW_any _ _).mono ?_
            rintro e w1 ⟨rfl, rfl⟩
            rw [← HR.out]
            go_wp2_with fail
            go_ret
            exact ⟨rfl, rfl⟩
    · have HP : Hid (Lib.hasPrefix s.data.toList (⟨#[60]⟩ : ByteArray).data.toList = false) := hide (by
        show Lib.hasPrefix s.data.toList [60] = false
        rw [hl, hasPrefix_60]
        exact decide_eq_false ha)
      have HR : Hid (isMarkB s.data.toList = false) := hide (by rw [hl]; exact isMark_head ha)
      clear hl e0 e1 hlen ha
      go_enter Tryz.func86, Tryz.ntmps86
      go_wp2_with fail
      refine (Tryz.strings_HasPrefix s _ _).mono ?_
      rintro e w1 ⟨rfl, hw⟩
      subst hw
      rw [HP.out]
      go_wp2_with fail
      go_ret
      exact ⟨ret_bool HR.out.symm, rfl⟩
set_option maxHeartbeats 2000000 in
theorem firstMark_any (s : ByteArray) (w : World) (hs : s.size ≤ 16777216) :
    Calls Tryz.prog 44 #[.string s] w fun e w' => e = .returned (.int .i64 (markN s.data.toList : Nat)) ∧ w = w' := by
  have hlen := toList_length s
  go_enter Tryz.func44, Tryz.ntmps44
  go_wp2_with fail
  go_loop [6] (fun i => ∃ k : Nat, k ≤ s.size ∧ i = .int .i64 k ∧ Hid (markN s.data.toList = k + markN (s.data.toList.drop k))) (fun i => s.size - (intOf i).toNat)
  case atStart => exact ⟨0, Nat.zero_le _, rfl, hide (by rw [List.drop_zero, Nat.zero_add])⟩
  case round =>
    obtain ⟨k, hk, rfl, HM⟩ := hrel
    by_cases hlt : k < s.size
    · have hd := drop_cons s k hlt
      have hel : (s.extract k s.size).data.toList = s.data.toList.drop k := extract_end s k
      have HI := hide (isMark_any (s.extract k s.size) w (by rw [ByteArray.size_extract]; omega))
      rw [hel] at HI
      cases hm : isMarkB (s.data.toList.drop k) with
      | true =>
        rw [hm] at HI
        have HR : Hid (markN s.data.toList = k) := hide (by
          rw [HM.out, hd]
          rw [hd] at hm
          unfold markN
          rw [if_pos hm, Nat.add_zero])
        clear hd hel hm hlen
        go_wp2_with fail
        refine HI.out.mono ?_
        rintro e w1 ⟨rfl, rfl⟩
        go_wp2_with fail
        go_ret
        exact ⟨ret_int (by rw [HR.out]), rfl⟩
      | false =>
        rw [hm] at HI
        have HM2 : Hid (markN s.data.toList = (k + 1) + markN (s.data.toList.drop (k + 1))) := hide (by
          rw [HM.out, hd]
          rw [hd] at hm
          conv => lhs; unfold markN
          rw [if_neg (by rw [hm]; exact Bool.false_ne_true)]
          omega)
        clear hd hel hm hlen
        go_wp2_with fail
        refine HI.out.mono ?_
        rintro e w1 ⟨rfl, rfl⟩
        go_wp2_with fail
        go_round
        case rel => exact ⟨k + 1, by omega, by go_num, HM2⟩
        case measure => simp [intOf]; omega
    · obtain rfl : k = s.size := by omega
      have HR : Hid (markN s.data.toList = s.size) := hide (by
        rw [HM.out, List.drop_eq_nil_of_le (by rw [hlen]; exact Nat.le_refl _)]
        rfl)
      clear hlen
      go_wp2_with fail
      go_ret
      exact ⟨ret_int (by rw [HR.out]), rfl⟩
end Go.Proofs.YtgokefodmjhhiaaGreatDoor

/- WALKS of htok's isRawEnd and rawSize. No statement is proved here. Own work of the verifier. -/
namespace Go.Proofs.YtgokefodmjhhiaaGreatDoor
open Go.RowKit
set_option linter.unusedVariables false
set_option linter.unusedSimpArgs false
set_option maxRecDepth 100000
theorem baList (b : ByteArray) : b.toList = b.data.toList := by
  conv => lhs; rw [← str_of b]
  exact str_list _
theorem ba_ne {a b : ByteArray} (h : a ≠ b) : (a.toList == b.toList) = false := by
  refine beq_false_of_ne (fun e => h ?_)
  rw [baList, baList] at e
  rw [← str_of a, e, str_of]
theorem rawEnd_not {n l : List UInt8} (h : Lib.hasPrefix l [60, 47] = false) : rawEndB n l = false := by
  unfold rawEndB
  split
  · simp [Lib.hasPrefix] at h
  · rfl
theorem rawEnd_yes {l : List UInt8} (h : Lib.hasPrefix l [60, 47] = true) : ∃ r, l = 60 :: 47 :: r := by
  unfold Lib.hasPrefix at h
  obtain ⟨r, hr⟩ := List.isPrefixOf_iff_prefix.1 h
  exact ⟨r, hr.symm⟩
theorem rawEnd_mk (n r : List UInt8) : rawEndB n (60 :: 47 :: r) = (decide (n.length < r.length) && (lowL (r.take n.length) == n && nameEndB (r.getD n.length 0))) := by unfold rawEndB; rfl
theorem idxHas (c : UInt8) : ∀ l : List UInt8, decide (0 ≤ Lib.indexByte l c) = l.contains c
  | [] => rfl
  | b :: l => by
    have ih := idxHas c l
    unfold Lib.indexByte
    by_cases h : b = c
    · subst h
      simp
    · simp only [List.contains_cons]
      rw [beq_false_of_ne (fun e : c = b => h e.symm), Bool.false_or, ← ih]
      have hb : (b == c) = false := beq_false_of_ne h
      simp only [hb]
      by_cases h2 : Lib.indexByte l c = -1
      · simp [h2]
      · have : (Lib.indexByte l c == -1) = false := beq_false_of_ne h2
        simp only [this]
        apply Bool.eq_iff_iff.2
        simp only [decide_eq_true_eq, Bool.false_eq_true, if_false]
        omega
theorem nameEnd_index (c : UInt8) : decide (0 ≤ Lib.indexByte (⟨#[32, 9, 10, 12, 13, 47, 62]⟩ : ByteArray).data.toList c) = nameEndB c := by
  show decide (0 ≤ Lib.indexByte [32, 9, 10, 12, 13, 47, 62] c) = nameEndB c
  rw [idxHas]
  unfold nameEndB whB
  simp only [List.contains_cons, List.contains_nil, Bool.or_false, Bool.or_assoc]
set_option maxHeartbeats 4000000 in
theorem isRawEnd_any (s n : ByteArray) (w : World) (hs : s.size ≤ 16777216) (hn : n.size ≤ 16777216) :
    Calls Tryz.prog 157 #[.string s, .string n] w fun e w' => e = .returned (.bool (rawEndB n.data.toList s.data.toList)) ∧ Below w.heap.size w w' := by
  cases hp : Lib.hasPrefix s.data.toList [60, 47] with
  | false =>
    have HR : Hid (rawEndB n.data.toList s.data.toList = false) := hide (rawEnd_not hp)
    have HP : Hid (Lib.hasPrefix s.data.toList (⟨#[60, 47]⟩ : ByteArray).data.toList = false) := hide hp
    clear hp
    go_enter Tryz.func157, Tryz.ntmps157
    go_wp2_with fail
    refine (Tryz.strings_CutPrefix s _ _).mono ?_
    rintro e w1 ⟨rfl, hw⟩
    subst hw
    rw [HP.out]
    go_wp2_with fail
    go_ret
    exact ⟨ret_bool HR.out.symm, Below.refl _ _⟩
  | true =>
    obtain ⟨r, hr⟩ := rawEnd_yes hp
    obtain ⟨T, hT⟩ : ∃ T : ByteArray, T = str r := ⟨_, rfl⟩
    have HP : Hid (Lib.hasPrefix s.data.toList (⟨#[60, 47]⟩ : ByteArray).data.toList = true) := hide hp
    have HT : Hid ((⟨(Lib.trimPrefix s.data.toList (⟨#[60, 47]⟩ : ByteArray).data.toList).toArray⟩ : ByteArray) = T) := hide (by
      rw [hT]
      unfold Lib.trimPrefix
      rw [show (⟨#[60, 47]⟩ : ByteArray).data.toList = [60, 47] from rfl, hp, hr]
      rfl)
    have hTl : T.data.toList = r := by rw [hT, str_toList]
    have hTs : T.size = r.length := by rw [hT, str_size]
    have hrl : r.length ≤ 16777216 := by
      have := congrArg List.length hr
      rw [toList_length] at this
      simp at this
      omega
    have hmk := (congrArg (rawEndB n.data.toList) hr).trans (rawEnd_mk _ _)
    rw [toList_length] at hmk
    by_cases hle : r.length ≤ n.size
    · have g1 : T.size ≤ n.size := by rw [hTs]; exact hle
      have HR : Hid (rawEndB n.data.toList s.data.toList = false) := hide (by rw [hmk, decide_eq_false (by omega)]; rfl)
      clear hp hr hT hTl hTs hmk hrl
      go_enter Tryz.func157, Tryz.ntmps157
      go_wp2_with fail
      refine (Tryz.strings_CutPrefix s _ _).mono ?_
      rintro e w1 ⟨rfl, hw⟩
      subst hw
      rw [HP.out, HT.out]
      go_wp2_with fail
      all_goals first | (exact absurd g1 ‹_›) | skip
      go_ret
      exact ⟨ret_bool HR.out.symm, Below.refl _ _⟩
    · have g1 : ¬ T.size ≤ n.size := by rw [hTs]; exact hle
      rw [decide_eq_true (show n.size < r.length by omega), Bool.true_and] at hmk
      have hlt : n.size < T.size := by omega
      have hg : r.getD n.size 0 = T[n.size] := by
        have e := drop_cons T n.size hlt
        rw [hTl] at e
        rw [List.getD_eq_getElem?_getD, ← List.head?_drop, e]
        rfl
      rw [hg] at hmk
      have hel : (T.extract 0 n.size).data.toList = r.take n.size := by rw [extract_list, List.drop_zero, hTl]
      have HLOW := hide (fun w2 => lower_any (T.extract 0 n.size) w2 (by rw [ByteArray.size_extract]; omega))
      rw [hel] at HLOW
      have hu : (T[n.size].toNat : Int).toNat.toUInt8 = T[n.size] := by rw [Int.toNat_natCast]; exact UInt8.ofNat_toNat
      have HU := hide hu
      have q1 : (n.size : Int) ≤ T.size := by omega
      have hc256 := byte_lt T[n.size]
      obtain ⟨L, hL⟩ : ∃ L, str (lowL (r.take n.size)) = L := ⟨_, rfl⟩
      have hLn : (lowL (r.take n.size) == n.data.toList) = decide (L = n) := by
        by_cases e : L = n
        · rw [decide_eq_true e, beq_iff_eq]
          have h2 : (str (lowL (r.take n.size))).data.toList = n.data.toList := by rw [hL, e]
          rw [str_toList] at h2
          exact h2
        · rw [decide_eq_false e]
          exact beq_false_of_ne (fun h => e (by rw [← hL, h, str_of]))
      rw [hLn] at hmk
      rw [hL] at HLOW
      have HIX := hide (nameEnd_index T[n.size])
      clear hp hr hT hTl hTs hrl hg hel hu hL hLn
      by_cases hq : L = n
      · subst hq
        rw [decide_eq_true rfl, Bool.true_and] at hmk
        have HMK := hide hmk
        clear hmk
        go_enter Tryz.func157, Tryz.ntmps157
        go_wp2_with fail
        refine (Tryz.strings_CutPrefix s _ _).mono ?_
        rintro e w1 ⟨rfl, hw⟩
        subst hw
        rw [HP.out, HT.out]
        go_wp2_with fail
        refine (HLOW.out _).mono ?_
        rintro e w2 ⟨rfl, hb⟩
        have HB := hide hb
        clear hb
        go_wp2_with fail
        refine (Tryz.strings_IndexByte _ _ _).mono ?_
        rintro e w3 ⟨rfl, rfl⟩
        rw [HU.out]
        go_wp2_with fail
        go_ret
        exact ⟨ret_bool (by rw [HMK.out]; exact HIX.out), HB.out⟩
      · rw [decide_eq_false hq, Bool.false_and] at hmk
        have tq := ba_ne hq
        have HMK := hide hmk
        clear hmk
        go_enter Tryz.func157, Tryz.ntmps157
        go_wp2_with fail
        refine (Tryz.strings_CutPrefix s _ _).mono ?_
        rintro e w1 ⟨rfl, hw⟩
        subst hw
        rw [HP.out, HT.out]
        go_wp2_with fail
        refine (HLOW.out _).mono ?_
        rintro e w2 ⟨rfl, hb⟩
        have HB := hide hb
        clear hb
        go_wp2_with fail
        go_ret
        exact ⟨ret_bool HMK.out.symm, HB.out⟩
set_option maxHeartbeats 2000000 in
theorem rawSize_any (s n : ByteArray) (w : World) (hs : s.size ≤ 16777216) (hn : n.size ≤ 16777216) :
    Calls Tryz.prog 136 #[.string s, .string n] w fun e w' => e = .returned (.int .i64 (rawSizeL n.data.toList s.data.toList : Nat)) ∧ Below w.heap.size w w' := by
  have hlen := toList_length s
  by_cases hpl : n = ⟨#[112, 108, 97, 105, 110, 116, 101, 120, 116]⟩
  · have HR : Hid (rawSizeL n.data.toList s.data.toList = s.size) := hide (by
      unfold rawSizeL
      rw [if_pos (by rw [hpl]; rfl), hlen])
    clear hlen
    go_enter Tryz.func136, Tryz.ntmps136
    go_wp2_with fail
    go_ret
    exact ⟨ret_int (by rw [HR.out]), Below.refl _ _⟩
  · have tq : (n.toList == [112, 108, 97, 105, 110, 116, 101, 120, 116]) = false := by
      have := ba_ne hpl
      rwa [show (⟨#[112, 108, 97, 105, 110, 116, 101, 120, 116]⟩ : ByteArray).toList = [112, 108, 97, 105, 110, 116, 101, 120, 116] from by rw [baList]] at this
    have hrs : rawSizeL n.data.toList s.data.toList = rawN n.data.toList s.data.toList := by
      unfold rawSizeL
      rw [if_neg (fun h => hpl (by
        have := congrArg str h
        rw [str_of] at this
        exact this))]
    have HRS := hide hrs
    clear hrs
    go_enter Tryz.func136, Tryz.ntmps136
    go_wp2_with fail
    go_loopw [12] (fun i wr => ∃ k : Nat, k ≤ s.size ∧ i = .int .i64 k ∧ Hid (rawN n.data.toList s.data.toList = k + rawN n.data.toList (s.data.toList.drop k)) ∧ Hid (Below w.heap.size w wr)) (fun i _ => s.size - (intOf i).toNat)
    case atStart => exact ⟨0, Nat.zero_le _, rfl, hide (by rw [List.drop_zero, Nat.zero_add]), hide (Below.refl _ _)⟩
    case round =>
      obtain ⟨k, hk, rfl, HM, HB⟩ := hrel
      by_cases hlt : k < s.size
      · have hd := drop_cons s k hlt
        have hel : (s.extract k s.size).data.toList = s.data.toList.drop k := extract_end s k
        have HI := hide (fun w2 => isRawEnd_any (s.extract k s.size) n w2 (by rw [ByteArray.size_extract]; omega) hn)
        rw [hel] at HI
        cases hm : rawEndB n.data.toList (s.data.toList.drop k) with
        | true =>
          rw [hm] at HI
          have HR : Hid (rawN n.data.toList s.data.toList = k) := hide (by
            rw [HM.out, hd]
            rw [hd] at hm
            unfold rawN
            rw [if_pos hm, Nat.add_zero])
          clear hd hel hm hlen
          go_wp2_with fail
          refine (HI.out _).mono ?_
          rintro e w1 ⟨rfl, hb⟩
          have HB2 := hide (HB.out.trans (hb.mono HB.out.size))
          clear hb
          go_wp2_with fail
          go_ret
          exact ⟨ret_int (by rw [HRS.out, HR.out]), HB2.out⟩
        | false =>
          rw [hm] at HI
          have HM2 : Hid (rawN n.data.toList s.data.toList = (k + 1) + rawN n.data.toList (s.data.toList.drop (k + 1))) := hide (by
            rw [HM.out, hd]
            rw [hd] at hm
            conv => lhs; unfold rawN
            rw [if_neg (by rw [hm]; exact Bool.false_ne_true)]
            omega)
          clear hd hel hm hlen
          go_wp2_with fail
          refine (HI.out _).mono ?_
          rintro e w1 ⟨rfl, hb⟩
          have HB2 := hide (HB.out.trans (hb.mono HB.out.size))
          clear hb
          go_wp2_with fail
          go_roundw
          case rel => exact ⟨k + 1, by omega, by go_num, HM2, HB2⟩
          case measure => simp [intOf]; omega
      · obtain rfl : k = s.size := by omega
        have HR : Hid (rawN n.data.toList s.data.toList = s.size) := hide (by
          rw [HM.out, List.drop_eq_nil_of_le (by rw [hlen]; exact Nat.le_refl _)]
          rfl)
        clear hlen
        go_wp2_with fail
        go_ret
        exact ⟨ret_int (by rw [HRS.out, HR.out]), HB.out⟩
end Go.Proofs.YtgokefodmjhhiaaGreatDoor

/- WALK of htok's readValue. No statement is proved here. Own work of the verifier. -/
namespace Go.Proofs.YtgokefodmjhhiaaGreatDoor
open Go.RowKit
set_option linter.unusedVariables false
set_option linter.unusedSimpArgs false
set_option maxRecDepth 100000
theorem hasPrefix_q (q a : UInt8) (r : List UInt8) : Lib.hasPrefix (a :: r) [q] = decide (a = q) := by
  unfold Lib.hasPrefix
  show ((q == a) && true) = _
  rw [Bool.and_true]
  by_cases h : a = q
  · subst h; simp
  · rw [decide_eq_false h]
    exact beq_false_of_ne (fun e => h e.symm)
/-- a text begins with q, and r stands behind it; or it does not -/
theorem quote_cut (q : UInt8) (l : List UInt8) : (Lib.hasPrefix l [q] = true ∧ ∃ r, l = q :: r ∧ Lib.trimPrefix l [q] = r) ∨ (Lib.hasPrefix l [q] = false ∧ l.head? ≠ some q) := by
  cases l with
  | nil => exact .inr ⟨rfl, by simp⟩
  | cons a r =>
    by_cases h : a = q
    · subst h
      have hp : Lib.hasPrefix (a :: r) [a] = true := by rw [hasPrefix_q]; exact decide_eq_true rfl
      refine .inl ⟨hp, r, rfl, ?_⟩
      unfold Lib.trimPrefix
      rw [hp]
      rfl
    · exact .inr ⟨by rw [hasPrefix_q]; exact decide_eq_false h, by simpa using h⟩
theorem value_q1 (r : List UInt8) : valueL (34 :: r) = (beforeC 34 r, afterC 34 r) := by unfold valueL; simp
theorem value_q2 (r : List UInt8) : valueL (39 :: r) = (beforeC 39 r, afterC 39 r) := by unfold valueL; simp
theorem value_no {l : List UInt8} (h1 : l.head? ≠ some 34) (h2 : l.head? ≠ some 39) : valueL l = upL valueEndB l := by
  cases l with
  | nil => rfl
  | cons c r =>
    unfold valueL
    simp only
    rw [if_neg (by simpa using h1), if_neg (by simpa using h2)]
theorem valueEnd_has (c : UInt8) : (⟨#[32, 9, 10, 12, 13, 62]⟩ : ByteArray).data.toList.contains c = valueEndB c := by
  show ([32, 9, 10, 12, 13, 62] : List UInt8).contains c = valueEndB c
  unfold valueEndB whB
  simp only [List.contains_cons, List.contains_nil, Bool.or_false, Bool.or_assoc]
theorem idxQ (k : Nat) (h : k < 2) (w : World) : (Instr.index 138 (Value.agg #[.string ⟨#[34]⟩, .string ⟨#[39]⟩]) (.int .i64 k)).run Tryz.prog w = .ok (.string (if k = 0 then ⟨#[34]⟩ else ⟨#[39]⟩)) w := by
  match k, h with
  | 0, _ => rfl
  | 1, _ => rfl
set_option maxHeartbeats 4000000 in
theorem readValue_any (s : ByteArray) (w : World) (hs : s.size ≤ 16777216) :
    Calls Tryz.prog 179 #[.string s] w fun e w' => e = .returned (upV (valueL s.data.toList)) ∧ Below w.heap.size w w' := by
  have hlen := toList_length s
  have i0 : ∀ w : World, (Instr.index 138 (Value.agg #[.string ⟨#[34]⟩, .string ⟨#[39]⟩]) (.int .i64 0)).run Tryz.prog w = .ok (.string ⟨#[34]⟩) w := fun w => idxQ 0 (by omega) w
  have i1 : ∀ w : World, (Instr.index 138 (Value.agg #[.string ⟨#[34]⟩, .string ⟨#[39]⟩]) (.int .i64 1)).run Tryz.prog w = .ok (.string ⟨#[39]⟩) w := fun w => idxQ 1 (by omega) w
  have HU0 := hide (fun w2 => upTo0_any s ⟨#[32, 9, 10, 12, 13, 62]⟩ valueEndB w2 valueEnd_has hs (by decide) (by decide) (by decide))
  go_enter Tryz.func179, Tryz.ntmps179
  go_wp2_with fail
  go_loopw [12] (fun i wr => ∃ k : Nat, k ≤ 2 ∧ i = .int .i64 k ∧ Hid (1 ≤ k → s.data.toList.head? ≠ some 34) ∧ Hid (2 ≤ k → s.data.toList.head? ≠ some 39) ∧ Hid (wr = w)) (fun i _ => 2 - (intOf i).toNat)
  case atStart => exact ⟨0, Nat.zero_le _, rfl, hide (fun h => absurd h (by omega)), hide (fun h => absurd h (by omega)), hide rfl⟩
  case round =>
    obtain ⟨k, hk, rfl, H1, H2, HW⟩ := hrel
    obtain rfl := HW.out
    match k, hk with
    | 0, _ =>
      rcases quote_cut 34 s.data.toList with ⟨hp, r, hr, htr⟩ | ⟨hp, hno⟩
      · obtain ⟨T, hT⟩ : ∃ T : ByteArray, T = str r := ⟨_, rfl⟩
        have HP : Hid (Lib.hasPrefix s.data.toList (⟨#[34]⟩ : ByteArray).data.toList = true) := hide hp
        have HT : Hid ((⟨(Lib.trimPrefix s.data.toList (⟨#[34]⟩ : ByteArray).data.toList).toArray⟩ : ByteArray) = T) := hide (by
          rw [hT]
          exact congrArg str htr)
        have hTl : T.data.toList = r := by rw [hT, str_toList]
        have hTs : T.size ≤ 70368744177664 := by
          have := congrArg List.length hr
          rw [hlen, List.length_cons] at this
          rw [hT, str_size]
          omega
        have HC := hide (fun w2 => strCut_any T 34 w2 hTs)
        rw [hTl] at HC
        have HR : Hid (valueL s.data.toList = (beforeC 34 r, afterC 34 r)) := hide (by rw [hr]; exact value_q1 r)
        clear hp hr htr hT hTl hTs
        go_wp2_with fail
        refine (Tryz.strings_CutPrefix s _ _).mono ?_
        rintro e w1 ⟨rfl, hw⟩
        subst hw
        rw [HP.out, HT.out]
        go_wp2_with fail
        refine (HC.out _).mono ?_
        rintro e w2 ⟨rfl, hb⟩
        have HB := hide hb
        clear hb
        unfold cutV
        go_wp2_with fail
        go_ret2
        exact ⟨by rw [HR.out]; rfl, HB.out⟩
      · have HP : Hid (Lib.hasPrefix s.data.toList (⟨#[34]⟩ : ByteArray).data.toList = false) := hide hp
        have HN := hide hno
        clear hp hno
        go_wp2_with fail
        refine (Tryz.strings_CutPrefix s _ _).mono ?_
        rintro e w1 ⟨rfl, hw⟩
        subst hw
        rw [HP.out]
        go_wp2_with fail
        go_roundw
        case rel => exact ⟨0 + 1, by omega, by go_num, hide (fun _ => HN.out), hide (fun h => absurd h (by omega)), by first | exact hide trivial | exact hide rfl | exact trivial⟩
        case measure => simp [intOf]
    | 1, _ =>
      rcases quote_cut 39 s.data.toList with ⟨hp, r, hr, htr⟩ | ⟨hp, hno⟩
      · obtain ⟨T, hT⟩ : ∃ T : ByteArray, T = str r := ⟨_, rfl⟩
        have HP : Hid (Lib.hasPrefix s.data.toList (⟨#[39]⟩ : ByteArray).data.toList = true) := hide hp
        have HT : Hid ((⟨(Lib.trimPrefix s.data.toList (⟨#[39]⟩ : ByteArray).data.toList).toArray⟩ : ByteArray) = T) := hide (by
          rw [hT]
          exact congrArg str htr)
        have hTl : T.data.toList = r := by rw [hT, str_toList]
        have hTs : T.size ≤ 70368744177664 := by
          have := congrArg List.length hr
          rw [hlen, List.length_cons] at this
          rw [hT, str_size]
          omega
        have HC := hide (fun w2 => strCut_any T 39 w2 hTs)
        rw [hTl] at HC
        have HR : Hid (valueL s.data.toList = (beforeC 39 r, afterC 39 r)) := hide (by rw [hr]; exact value_q2 r)
        clear hp hr htr hT hTl hTs
        go_wp2_with fail
        refine (Tryz.strings_CutPrefix s _ _).mono ?_
        rintro e w1 ⟨rfl, hw⟩
        subst hw
        rw [HP.out, HT.out]
        go_wp2_with fail
        refine (HC.out _).mono ?_
        rintro e w2 ⟨rfl, hb⟩
        have HB := hide hb
        clear hb
        unfold cutV
        go_wp2_with fail
        go_ret2
        exact ⟨by rw [HR.out]; rfl, HB.out⟩
      · have HP : Hid (Lib.hasPrefix s.data.toList (⟨#[39]⟩ : ByteArray).data.toList = false) := hide hp
        have HN := hide hno
        clear hp hno
        go_wp2_with fail
        refine (Tryz.strings_CutPrefix s _ _).mono ?_
        rintro e w1 ⟨rfl, hw⟩
        subst hw
        rw [HP.out]
        go_wp2_with fail
        go_roundw
        case rel => exact ⟨1 + 1, by omega, by go_num, hide (fun _ => H1.out (by omega)), hide (fun _ => HN.out), by first | exact hide trivial | exact hide rfl | exact trivial⟩
        case measure => simp [intOf]
    | 2, _ =>
      have HR := hide (value_no (H1.out (by omega)) (H2.out (by omega)))
      go_wp2_with fail
      refine (HU0.out _).mono ?_
      rintro e w1 ⟨rfl, hb⟩
      have HB := hide hb
      clear hb
      unfold upV
      go_wp2_with fail
      go_ret2
      exact ⟨by rw [HR.out]; rfl, HB.out⟩
end Go.Proofs.YtgokefodmjhhiaaGreatDoor

/- Rows of api.Attr that the call owns: append of one, its cells, kept by calls. No statement is proved here. -/
namespace Go.Proofs.YtgokefodmjhhiaaGreatDoor
open Go.RowKit
set_option linter.unusedVariables false
set_option linter.unusedSimpArgs false
def atVals (l : List AtL) : List Value := l.flatMap fun f => [Value.string (str f.1), Value.string (str f.2)]
theorem atVals_length (l : List AtL) : (atVals l).length = l.length * 2 := by
  induction l with
  | nil => rfl
  | cons f r ih => unfold atVals at *; rw [List.flatMap_cons, List.length_append, ih]; simp; omega
theorem atVals_at {l : List AtL} {j : Nat} {f : AtL} (h : l[j]? = some f) : (atVals l)[j * 2]? = some (.string (str f.1)) ∧ (atVals l)[j * 2 + 1]? = some (.string (str f.2)) := by
  induction l generalizing j with
  | nil => simp at h
  | cons g r ih =>
    cases j with
    | zero => simp at h; subst h; exact ⟨rfl, rfl⟩
    | succ j =>
      have := ih (j := j) (by simpa using h)
      have e : atVals (g :: r) = Value.string (str g.1) :: Value.string (str g.2) :: atVals r := rfl
      rw [e, show (j + 1) * 2 = j * 2 + 1 + 1 by omega]
      simpa using this
theorem atVals_append (a b : List AtL) : atVals (a ++ b) = atVals a ++ atVals b := by unfold atVals; rw [List.flatMap_append]
/-- in w the []api.Attr value v owns the fields l, in a block from B on; below B all is as in W0 -/
def ABuf (B : Nat) (v : Value) (l : List AtL) (W0 w : World) : Prop :=
  w.ownsRow B 32 2 v l.length (atVals l) ∧ Below B W0 w ∧ B ≤ w.heap.size
theorem info_at : (Tryz.prog.info? 32).map (fun i => (i.zero, i.size, i.bytes)) = some (some (.agg #[.string ByteArray.empty, .string ByteArray.empty]), 2, 32) := by kernel_rfl
theorem ABuf.nil {B : Nat} {W0 w : World} (hb : Below B W0 w) (hB : B ≤ w.heap.size) : ABuf B (.slice none 0 0) [] W0 w := ⟨World.ownsRow_nil w B _ 2, hb, hB⟩
theorem ABuf.below {B : Nat} {v : Value} {l : List AtL} {W0 w : World} (h : ABuf B v l W0 w) : Below B W0 w := h.2.1
theorem ABuf.grown {B : Nat} {v v' : Value} {l l' : List AtL} {W0 w w' : World} (h : ABuf B v l W0 w) (ho : w'.ownsRow B 32 2 v' l'.length (atVals l')) (hg : w.grownBy w' v.ownBlock) : ABuf B v' l' W0 w' :=
  ⟨ho, h.2.1.grown hg h.2.2 (fun k hk => (h.1.lt k hk).1), Nat.le_trans h.2.2 hg.size⟩
theorem ABuf.alloc {B : Nat} {v : Value} {l : List AtL} {W0 w : World} (h : ABuf B v l W0 w) (o : Obj) : ABuf B v l W0 (w.alloc o) :=
  ⟨h.1.alloc o, h.2.1.alloc h.2.2 o, Nat.le_trans h.2.2 ((Below.refl 0 w).alloc (Nat.zero_le _) o).size⟩
theorem ABuf.drew {B : Nat} {v : Value} {l : List AtL} {W0 w : World} (h : ABuf B v l W0 w) : ABuf B v l W0 w.drew := ⟨h.1, h.2.1.drew, h.2.2⟩
theorem ABuf.kept {B : Nat} {v : Value} {l : List AtL} {W0 w w' : World} (h : ABuf B v l W0 w) (hb : Below w.heap.size w w') : ABuf B v l W0 w' :=
  ⟨h.1.kept (row := none) ⟨hb.os, hb.tape, hb.output, hb.size, fun k hk _ => hb.block k hk⟩ (by cases hv : v.ownBlock <;> simp), h.2.1.trans (hb.mono h.2.2), Nat.le_trans h.2.2 hb.size⟩
theorem ABuf.slice_len {B : Nat} {v : Value} {l : List AtL} {W0 w : World} (h : ABuf B v l W0 w) : ∃ A c, v = .slice A l.length c := by
  rcases h.1.2 with ⟨rfl, h0⟩ | ⟨g, cap, cur, rfl, _⟩
  · rw [h0]; exact ⟨_, _, rfl⟩
  · exact ⟨_, _, rfl⟩
theorem ABuf.form {B : Nat} {v : Value} {l : List AtL} {W0 w : World} (h : ABuf B v l W0 w) (hl : l ≠ []) : ∃ g cap, v = .slice (some ⟨g, 0, none⟩) l.length cap ∧ B ≤ g := by
  rcases h.1.2 with ⟨rfl, h0⟩ | ⟨g, cap, cur, rfl, hg, _⟩
  · exact absurd (List.eq_nil_of_length_eq_zero h0) hl
  · exact ⟨g, cap, rfl, hg⟩
/-- append(l, f): the one field lies at ad -/
theorem wpList_ats {ops : Array Oper} {rest : List Oper} {o : Oper} {a : Act} {Q : Exit → Act → World → Prop} {w : World} (hgd : o.guard = none) (s x : Operand)
    (ho : o.op = .call { callee := .builtin .append, args := #[s, x], argTypes := #[27, 27] })
    (B : Nat) (v : Value) (l : List AtL) (hs : a.eval s = v) (W0 : World) (f : AtL) (hb : ABuf B v l W0 w) (ad : Addr)
    (hx : a.eval x = .slice (some ad) 1 1) (h0 : w.cell? (ad.add 0) = some (.string (str f.1))) (h1 : w.cell? (ad.add 1) = some (.string (str f.2))) (hlen : l.length + 1 ≤ 4398046511104)
    (h : ∀ v' w', ABuf B v' (l ++ [f]) W0 w' → wpList Tryz.prog ops Q rest (a.put o.dst v') w') : wpList Tryz.prog ops Q (o :: rest) a w := by
  obtain ⟨i0, hi, hz0, hz1, hz2⟩ := info_parts info_at
  refine wpList_append_own _ hgd s x 27 ho B 32 i0 (.agg #[.string ByteArray.empty, .string ByteArray.empty]) 2 32 Tryz.underlying27 hi hz0 hz1 hz2 rfl (by decide) v l.length (atVals l) hs hb.1 ad 1 1 [.string (str f.1), .string (str f.2)] hx rfl ?_ ?_ (by unfold maxLen; omega) (by omega) hb.2.2 ?_
  · intro j u hj
    match j, hj with
    | 0, hj => simp at hj; subst hj; exact h0
    | 1, hj => simp at hj; subst hj; exact h1
    | (j + 2), hj => simp at hj
  · intro u hu
    simp at hu
    rcases hu with rfl | rfl
    · rfl
    · rfl
  · intro v' w' ho' hg _
    exact h v' w' (hb.grown (l' := l ++ [f]) (by rw [atVals_append, List.length_append]; exact ho') hg)
end Go.Proofs.YtgokefodmjhhiaaGreatDoor

/- WALKS of htok's counts, with slices.ContainsFunc and slices.IndexFunc at its function. No statement is proved here. Own work of the verifier. -/
namespace Go.Proofs.YtgokefodmjhhiaaGreatDoor
open Go.RowKit
set_option linter.unusedVariables false
set_option linter.unusedSimpArgs false
set_option maxRecDepth 100000
theorem at_form {w : World} {B : Nat} {v : Value} {l : List AtL} (h : w.ownsRow B 32 2 v l.length (atVals l)) : ∃ A c, v = .slice A l.length c := by
  rcases h.2 with ⟨rfl, h0⟩ | ⟨g, cap, cur, rfl, _⟩
  · rw [h0]; exact ⟨_, _, rfl⟩
  · exact ⟨_, _, rfl⟩
theorem at_cells {w : World} {B : Nat} {A : Option Addr} {n cap : Nat} {l : List AtL} (h : w.ownsRow B 32 2 (.slice A n cap) l.length (atVals l)) (k : Nat) (f : AtL) (hk : l[k]? = some f) :
    ∃ a, A = some a ∧ w.cell? (a.add (k * 2)) = some (.string (str f.1)) ∧ w.cell? { block := (a.add (k * 2)).block, off := (a.add (k * 2)).off + 1 } = some (.string (str f.2)) := by
  rcases h.2 with ⟨_, h0⟩ | ⟨g, cap', cur, hv, hr⟩
  · rw [List.eq_nil_of_length_eq_zero h0] at hk; simp at hk
  · obtain ⟨a1, a2⟩ := atVals_at hk
    rw [hv] at h
    have hA : A = some ⟨g, 0, none⟩ := by injection hv
    refine ⟨⟨g, 0, none⟩, hA, h.cells (g := g) rfl _ _ a1, ?_⟩
    have e3 : ({ block := ((⟨g, 0, none⟩ : Addr).add (k * 2)).block, off := ((⟨g, 0, none⟩ : Addr).add (k * 2)).off + 1 } : Addr) = (⟨g, 0, none⟩ : Addr).add (k * 2 + 1) := by rw [← Addr.add_add]; rfl
    rw [e3]
    exact h.cells (g := g) rfl _ _ a2
theorem row_kept {w w' : World} {B : Nat} {e : TypeId} {sz n : Nat} {v : Value} {xs : List Value} (h : w.ownsRow B e sz v n xs) (hb : Below w.heap.size w w') : w'.ownsRow B e sz v n xs :=
  h.kept (row := none) ⟨hb.os, hb.tape, hb.output, hb.size, fun k hk _ => hb.block k hk⟩ (by cases hv : v.ownBlock <;> simp)
theorem box_kept {w w' : World} {b : Nat} {t : TypeId} {v : Value} (h : Box w b t v) (hb : Below w.heap.size w w') : Box w' b t v := (hb.block b (lt_of_block h)).trans h
set_option maxHeartbeats 1000000 in
theorem countsF_any (P1 P2 n : ByteArray) (b : Nat) (w : World) (hb : Box w b 9 (.string n)) :
    Calls Tryz.prog 181 #[.agg #[.string P1, .string P2], .pointer (some ⟨b, 0, none⟩)] w fun e w' => e = .returned (.bool (P1.toList == n.toList)) ∧ Below w.heap.size w w' := by
  have hc : ∀ o, (w.alloc o).cell? ⟨b, 0, none⟩ = some (.string n) := fun o => (box_kept hb ((Below.refl _ _).alloc (Nat.le_refl _) o)).cell
  have HB := hide (fun o => (Below.refl w.heap.size w).alloc (Nat.le_refl _) o)
  clear hb
  go_enter Tryz.func181, Tryz.ntmps181
  go_wp2_with fail
  go_ret
  exact ⟨rfl, HB.out _⟩
set_option maxHeartbeats 4000000 in
theorem indexAt_any (B : Nat) (v : Value) (l : List AtL) (n : ByteArray) (b : Nat) (w : World) (h : w.ownsRow B 32 2 v l.length (atVals l)) (hl : l.length ≤ 1000000) (hb : Box w b 9 (.string n)) :
    Calls Tryz.prog 210 #[v, .func (.func 181) #[] #[.pointer (some ⟨b, 0, none⟩)]] w fun e w' => ∃ i : Int, e = .returned (.int .i64 i) ∧ decide (0 ≤ i) = (l.any fun a => a.1 == n.data.toList) ∧ Below w.heap.size w w' := by
  obtain ⟨A, cap, rfl⟩ := at_form h
  have H := hide h
  have HBX := hide hb
  clear h hb
  go_enter Tryz.func210, Tryz.ntmps210
  go_wp2_with fail
  go_loopw [8] (fun iv wr => ∃ k : Nat, k ≤ l.length ∧ iv = .int .i64 k ∧ Hid (Below w.heap.size w wr) ∧ Hid (((l.drop k).any fun a => a.1 == n.data.toList) = (l.any fun a => a.1 == n.data.toList))) (fun iv _ => l.length - (intOf iv).toNat)
  case atStart => exact ⟨0, Nat.zero_le _, rfl, hide (Below.refl _ _), hide rfl⟩
  case round =>
    obtain ⟨k, hk, rfl, HB, HG⟩ := hrel
    have hk6 : k ≤ 1000000 := by omega
    by_cases hlt : k < l.length
    · obtain ⟨a, rfl, c0, c1⟩ := at_cells (row_kept H.out HB.out) k _ (List.getElem?_eq_getElem hlt)
      have hdr : l.drop k = l[k] :: l.drop (k + 1) := List.drop_eq_getElem_cons hlt
      have HG2 := HG.out
      rw [hdr] at HG2
      obtain ⟨p, hp⟩ : ∃ p, p = l[k]'hlt := ⟨_, rfl⟩
      rw [← hp] at c0 c1 HG2
      obtain ⟨P1, hP1⟩ : ∃ P1, P1 = str p.1 := ⟨_, rfl⟩
      obtain ⟨P2, hP2⟩ : ∃ P2, P2 = str p.2 := ⟨_, rfl⟩
      rw [← hP1] at c0
      rw [← hP2] at c1
      have HLT := hide hlt
      have HF := hide (countsF_any P1 P2 n b wr (box_kept HBX.out HB.out))
      have t1 : (P1.toList == n.toList) = (p.1 == n.data.toList) := by rw [hP1, str_list, bytes_list]
      rw [t1] at HF
      cases he : (p.1 == n.data.toList) with
      | true =>
        rw [he] at HF
        have HV : Hid ((l.any fun a => a.1 == n.data.toList) = true) := hide (by
          rw [← HG2, List.any_cons, he, Bool.true_or])
        clear he hdr HG2 hp hP1 hP2 t1
        go_wp2_with fail
        refine HF.out.mono ?_
        rintro e w1 ⟨rfl, hb⟩
        have HB2 := hide (HB.out.trans (hb.mono HB.out.size))
        clear hb
        go_wp2_with fail
        go_ret
        exact ⟨k, rfl, by rw [HV.out]; exact decide_eq_true (by omega), HB2.out⟩
      | false =>
        rw [he] at HF
        have HGN : Hid (((l.drop (k + 1)).any fun a => a.1 == n.data.toList) = (l.any fun a => a.1 == n.data.toList)) := hide (by
          rw [← HG2, List.any_cons, he, Bool.false_or])
        clear he hdr HG2 hp hP1 hP2 t1
        go_wp2_with fail
        refine HF.out.mono ?_
        rintro e w1 ⟨rfl, hb⟩
        have HB2 := hide (HB.out.trans (hb.mono HB.out.size))
        clear hb
        go_wp2_with fail
        go_roundw
        case rel => exact ⟨k + 1, HLT.out, by go_num, HB2, HGN⟩
        case measure => simp [intOf]; have := HLT.out; omega
    · have HV : Hid ((l.any fun a => a.1 == n.data.toList) = false) := hide (by
        rw [← HG.out, List.drop_eq_nil_of_le (by omega)]; rfl)
      go_wp2_with fail
      go_ret
      exact ⟨-1, rfl, by rw [HV.out]; rfl, HB.out⟩
set_option maxHeartbeats 1000000 in
theorem containsAt_any (B : Nat) (v : Value) (l : List AtL) (n : ByteArray) (b : Nat) (w : World) (h : w.ownsRow B 32 2 v l.length (atVals l)) (hl : l.length ≤ 1000000) (hb : Box w b 9 (.string n)) :
    Calls Tryz.prog 180 #[v, .func (.func 181) #[] #[.pointer (some ⟨b, 0, none⟩)]] w fun e w' => e = .returned (.bool (l.any fun a => a.1 == n.data.toList)) ∧ Below w.heap.size w w' := by
  have HI := hide (indexAt_any B v l n b w h hl hb)
  clear h hb
  go_enter Tryz.func180, Tryz.ntmps180
  go_wp2_with fail
  refine HI.out.mono ?_
  rintro e w1 ⟨i, rfl, hi, hb⟩
  have HV := hide hi
  have HB := hide hb
  clear hi hb
  go_wp2_with fail
  go_ret
  exact ⟨ret_bool HV.out, HB.out⟩
set_option maxHeartbeats 1000000 in
theorem counts_any (B : Nat) (v : Value) (l : List AtL) (n : ByteArray) (w : World) (h : w.ownsRow B 32 2 v l.length (atVals l)) (hl : l.length ≤ 1000000) :
    Calls Tryz.prog 156 #[v, .string n] w fun e w' => e = .returned (.bool (countsB l n.data.toList)) ∧ Below w.heap.size w w' := by
  have hk := (Below.refl w.heap.size w).alloc (Nat.le_refl _) (.cells #[.string n] 9)
  have hbx : Box (w.alloc (.cells #[.string n] 9)) w.heap.size 9 (.string n) := by
    show (w.heap.push _)[w.heap.size]? = _
    exact Array.getElem?_push_size
  have HC := hide (containsAt_any B v l n w.heap.size _ (row_kept h hk) hl hbx)
  obtain ⟨A, cap, rfl⟩ := at_form h
  have HK := hide hk
  clear h hk hbx
  by_cases h30 : l.length < 30
  · have HR : Hid (countsB l n.data.toList = !(l.any fun a => a.1 == n.data.toList)) := hide (by unfold countsB; rw [decide_eq_true h30, Bool.true_and])
    go_enter Tryz.func156, Tryz.ntmps156
    go_wp2_with fail
    all_goals first | (exact absurd h30 ‹_›) | skip
    refine HC.out.mono ?_
    rintro e w1 ⟨rfl, hb⟩
    have HB := hide (HK.out.trans (hb.mono HK.out.size))
    clear hb
    go_wp2_with fail
    go_ret
    exact ⟨ret_bool (by rw [HR.out]), HB.out⟩
  · have HR : Hid (countsB l n.data.toList = false) := hide (by unfold countsB; rw [decide_eq_false h30, Bool.false_and])
    go_enter Tryz.func156, Tryz.ntmps156
    go_wp2_with fail
    all_goals first | (exact absurd ‹_› h30) | skip
    go_ret
    exact ⟨ret_bool (by rw [HR.out]), HK.out⟩
end Go.Proofs.YtgokefodmjhhiaaGreatDoor

/- Rows of api.Token that the call owns, each with a row of its attributes. No statement is proved here. Own work of the verifier. -/
namespace Go.Proofs.YtgokefodmjhhiaaGreatDoor
open Go.RowKit
set_option linter.unusedVariables false
set_option linter.unusedSimpArgs false
set_option maxRecDepth 100000
theorem ownsRow_other {w : World} {B : Nat} {e : TypeId} {sz n : Nat} {v : Value} {xs : List Value} (h : w.ownsRow B e sz v n xs) {r : Nat} (hr : ∀ cur, w.heap[r]? ≠ some (.cells cur e (0, 0))) : v.ownBlock ≠ some r := by
  rcases h.2 with ⟨rfl, _⟩ | ⟨g, cap, cur, rfl, hg, hh, _⟩
  · simp [Value.ownBlock]
  · intro e2
    simp [Value.ownBlock] at e2
    subst e2
    exact hr cur hh
theorem ownsRow_diff {w : World} {B B' : Nat} {e e' : TypeId} (he : e ≠ e') {sz sz' n n' : Nat} {v v' : Value} {xs xs' : List Value} (h : w.ownsRow B e sz v n xs) (h' : w.ownsRow B' e' sz' v' n' xs') : v.ownBlock = none ∨ v.ownBlock ≠ v'.ownBlock := by
  rcases h'.2 with ⟨rfl, _⟩ | ⟨g, cap, cur, rfl, hg, hh, _⟩
  · cases hv : v.ownBlock
    · exact .inl rfl
    · exact .inr (by simp [Value.ownBlock])
  · refine .inr ?_
    have := ownsRow_other h (r := g) (fun cur' e2 => by
      rw [hh] at e2
      injection e2 with e2
      injection e2 with _ e2
      exact he e2.symm)
    simpa [Value.ownBlock] using this
theorem ownsRow_down {w : World} {B B' : Nat} {e : TypeId} {sz n : Nat} {v : Value} {xs : List Value} (h : w.ownsRow B e sz v n xs) (hB : B' ≤ B) : w.ownsRow B' e sz v n xs := by
  refine ⟨h.1, ?_⟩
  rcases h.2 with h2 | ⟨g, cap, cur, h1, hg, h3⟩
  · exact .inl h2
  · exact .inr ⟨g, cap, cur, h1, Nat.le_trans hB hg, h3⟩
abbrev TokV := TokL × Value
def tokVals (ls : List TokV) : List Value := ls.flatMap fun p => [.int .i64 (p.1.kind : Int), .string (str p.1.name), p.2, .string (str p.1.text)]
theorem tokVals_length (ls : List TokV) : (tokVals ls).length = ls.length * 4 := by
  induction ls with
  | nil => rfl
  | cons f r ih => unfold tokVals at *; rw [List.flatMap_cons, List.length_append, ih]; simp; omega
theorem tokVals_append (a b : List TokV) : tokVals (a ++ b) = tokVals a ++ tokVals b := by unfold tokVals; rw [List.flatMap_append]
theorem tokVals_at {l : List TokV} {j : Nat} {p : TokV} (h : l[j]? = some p) : (tokVals l)[j * 4]? = some (.int .i64 (p.1.kind : Int)) ∧ (tokVals l)[j * 4 + 1]? = some (.string (str p.1.name)) ∧ (tokVals l)[j * 4 + 2]? = some p.2 ∧ (tokVals l)[j * 4 + 3]? = some (.string (str p.1.text)) := by
  induction l generalizing j with
  | nil => simp at h
  | cons g r ih =>
    cases j with
    | zero => simp at h; subst h; exact ⟨rfl, rfl, rfl, rfl⟩
    | succ j =>
      have := ih (j := j) (by simpa using h)
      have e : tokVals (g :: r) = .int .i64 (g.1.kind : Int) :: .string (str g.1.name) :: g.2 :: .string (str g.1.text) :: tokVals r := rfl
      rw [e, show (j + 1) * 4 = j * 4 + 1 + 1 + 1 + 1 by omega]
      simpa using this
/-- in w the []api.Token v owns the tokens ls; each one's attributes lie in a row of their own -/
structure TRow (B : Nat) (v : Value) (ls : List TokV) (w : World) : Prop where
  row : w.ownsRow B 29 4 v ls.length (tokVals ls)
  each : ∀ p ∈ ls, w.ownsRow B 32 2 p.2 p.1.attrs.length (atVals p.1.attrs)
theorem TRow.nil (B : Nat) (w : World) : TRow B (.slice none 0 0) [] w := ⟨World.ownsRow_nil w B _ 4, fun p h => by cases h⟩
theorem TRow.turned {B : Nat} {v : Value} {ls : List TokV} {w w' : World} {row : Option Nat} (h : TRow B v ls w) (hg : w.grownBy w' row)
    (hr : ∀ r, row = some r → ∀ cur, w.heap[r]? ≠ some (.cells cur 29 (0, 0)) ∧ w.heap[r]? ≠ some (.cells cur 32 (0, 0))) : TRow B v ls w' := by
  refine ⟨h.row.kept hg ?_, fun p hp => (h.each p hp).kept hg ?_⟩
  · cases row with
    | none => cases hv : v.ownBlock <;> simp
    | some r => exact .inr (ownsRow_other h.row fun cur => (hr r rfl cur).1)
  · cases row with
    | none => cases hv : p.2.ownBlock <;> simp
    | some r => exact .inr (ownsRow_other (h.each p hp) fun cur => (hr r rfl cur).2)
theorem TRow.kept {B : Nat} {v : Value} {ls : List TokV} {w w' : World} (h : TRow B v ls w) (hb : Below w.heap.size w w') : TRow B v ls w' :=
  h.turned (row := none) ⟨hb.os, hb.tape, hb.output, hb.size, fun k hk _ => hb.block k hk⟩ (fun r e => by cases e)
theorem TRow.alloc {B : Nat} {v : Value} {ls : List TokV} {w : World} (h : TRow B v ls w) (o : Obj) : TRow B v ls (w.alloc o) := h.turned (World.grownBy_alloc w o none) (fun r e => by cases e)
/-- one more token -/
theorem TRow.push {B : Nat} {v v' u : Value} {ls : List TokV} {w w' : World} {t : TokL} (h : TRow B v ls w) (hu : w.ownsRow B 32 2 u t.attrs.length (atVals t.attrs))
    (ho : w'.ownsRow B 29 4 v' (ls.length + 1) (tokVals ls ++ tokVals [(t, u)])) (hg : w.grownBy w' v.ownBlock) : TRow B v' (ls ++ [(t, u)]) w' := by
  refine ⟨by rw [tokVals_append, List.length_append]; exact ho, fun p hp => ?_⟩
  have hne : ∀ {y : Value} {k : Nat} {xs : List Value}, w.ownsRow B 32 2 y k xs → w'.ownsRow B 32 2 y k xs := fun hy => hy.kept hg (ownsRow_diff (by decide) hy h.row)
  rcases List.mem_append.1 hp with hp | hp
  · exact hne (h.each p hp)
  · obtain rfl := List.mem_singleton.1 hp
    exact hne hu
theorem TRow.slice_len {B : Nat} {v : Value} {ls : List TokV} {w : World} (h : TRow B v ls w) : ∃ A c, v = .slice A ls.length c := by
  rcases h.row.2 with ⟨rfl, h0⟩ | ⟨g, cap, cur, rfl, _⟩
  · rw [h0]; exact ⟨_, _, rfl⟩
  · exact ⟨_, _, rfl⟩
theorem info_tok : (Tryz.prog.info? 29).map (fun i => (i.zero, i.size, i.bytes)) = some (some (.agg #[.int .i64 0, .string ByteArray.empty, .slice none 0 0, .string ByteArray.empty]), 4, 64) := by kernel_rfl
/-- append(l, t): the one token's cells lie at ad -/
theorem wpList_toks {ops : Array Oper} {rest : List Oper} {o : Oper} {a : Act} {Q : Exit → Act → World → Prop} {w : World} (hgd : o.guard = none) (s x : Operand)
    (ho : o.op = .call { callee := .builtin .append, args := #[s, x], argTypes := #[24, 24] })
    (B : Nat) (v : Value) (ls : List TokV) (hs : a.eval s = v) (t : TokL) (u : Value) (hb : TRow B v ls w) (hu : w.ownsRow B 32 2 u t.attrs.length (atVals t.attrs)) (hB : B ≤ w.heap.size) (ad : Addr)
    (hx : a.eval x = .slice (some ad) 1 1) (h0 : w.cell? (ad.add 0) = some (.int .i64 (t.kind : Int))) (h1 : w.cell? (ad.add 1) = some (.string (str t.name))) (h2 : w.cell? (ad.add 2) = some u) (h3 : w.cell? (ad.add 3) = some (.string (str t.text)))
    (hlen : ls.length + 1 ≤ 2199023255552)
    (h : ∀ v' w', TRow B v' (ls ++ [(t, u)]) w' → w.grownBy w' v.ownBlock → wpList Tryz.prog ops Q rest (a.put o.dst v') w') : wpList Tryz.prog ops Q (o :: rest) a w := by
  obtain ⟨i0, hi, hz0, hz1, hz2⟩ := info_parts info_tok
  obtain ⟨A, c, rfl⟩ : ∃ A c, u = .slice A t.attrs.length c := by
    rcases hu.2 with ⟨rfl, h0⟩ | ⟨g, cap, cur, rfl, _⟩
    · rw [h0]; exact ⟨_, _, rfl⟩
    · exact ⟨_, _, rfl⟩
  refine wpList_append_own _ hgd s x 24 ho B 29 i0 (.agg #[.int .i64 0, .string ByteArray.empty, .slice none 0 0, .string ByteArray.empty]) 4 64 Tryz.underlying24 hi hz0 hz1 hz2 rfl (by decide) v ls.length (tokVals ls) hs hb.row ad 1 1 (tokVals [(t, .slice A t.attrs.length c)]) hx rfl ?_ ?_ (by unfold maxLen; omega) (by omega) hB ?_
  · intro j u hj
    match j, hj with
    | 0, hj => simp [tokVals] at hj; subst hj; exact h0
    | 1, hj => simp [tokVals] at hj; subst hj; exact h1
    | 2, hj => simp [tokVals] at hj; subst hj; exact h2
    | 3, hj => simp [tokVals] at hj; subst hj; exact h3
    | (j + 4), hj => simp [tokVals] at hj
  · intro u hu
    simp [tokVals] at hu
    rcases hu with rfl | rfl | rfl | rfl <;> rfl
  · intro v' w' ho' hg _
    exact h v' w' (hb.push hu ho' hg) hg
end Go.Proofs.YtgokefodmjhhiaaGreatDoor

/- WALKS of strings.Builder as the second field of htok's reader: copyCheck, WriteString, Len, Reset. No statement is proved here. Own work of the verifier. -/
namespace Go.Proofs.YtgokefodmjhhiaaGreatDoor
open Go.RowKit
set_option linter.unusedVariables false
set_option linter.unusedSimpArgs false
set_option maxRecDepth 100000
theorem rdSize : (Tryz.prog.info? 50).map (·.size) = some 2 := by kernel_rfl
theorem rdLies : liesAt Tryz.prog Tryz.prog.depth 52 (3 / Tryz.prog.cellsOf 52) 1 50 1 = true := by kernel_rfl
/-- block b is a reader -/
def RdC (w : World) (b : Nat) (o a v : Value) : Prop := w.heap[b]? = some (.cells #[o, a, v] 52 (0, 0))
theorem RdC.cell0 {w : World} {b : Nat} {o a v : Value} (h : RdC w b o a v) : w.cell? ⟨b, 0, none⟩ = some o := by rw [Lib.cell_of_heap h]; rfl
theorem RdC.cell1 {w : World} {b : Nat} {o a v : Value} (h : RdC w b o a v) : w.cell? ⟨b, 1, none⟩ = some a := by rw [Lib.cell_of_heap h]; rfl
theorem RdC.cell2 {w : World} {b : Nat} {o a v : Value} (h : RdC w b o a v) : w.cell? ⟨b, 2, none⟩ = some v := by rw [Lib.cell_of_heap h]; rfl
theorem RdC.free {w : World} {b : Nat} {o a v : Value} (h : RdC w b o a v) (i : Nat) : w.frozen? ⟨b, i, none⟩ = false := Lib.frozen_of_heap h i
theorem RdC.lt {w : World} {b : Nat} {o a v : Value} (h : RdC w b o a v) : b < w.heap.size := lt_of_block h
theorem RdC.shape {w : World} {b : Nat} {o a v : Value} (h : RdC w b o a v) : w.shape? b = some (52, 3) := by
  have h' : w.heap[b]? = some (.cells #[o, a, v] 52 (0, 0)) := h
  simp [World.shape?, h']
theorem heap_put {w : World} {g j : Nat} {cur : Array Value} {e : TypeId} {fr : Nat × Nat} (u : Value) (h : w.heap[g]? = some (.cells cur e fr)) : (w.setCell ⟨g, j, none⟩ u).heap[g]? = some (.cells (cur.setIfInBounds j u) e fr) := by
  have hlt := (Array.getElem?_eq_some_iff.1 h).1
  have he := (Array.getElem?_eq_some_iff.1 h).2
  simp only [World.setCell, Array.getElem?_modify, if_true, h, Option.map_some]
  rfl
theorem RdC.put0 {w : World} {b : Nat} {o a v : Value} (h : RdC w b o a v) (u : Value) : RdC (w.setCell ⟨b, 0, none⟩ u) b u a v := heap_put (j := 0) u h
theorem RdC.put1 {w : World} {b : Nat} {o a v : Value} (h : RdC w b o a v) (u : Value) : RdC (w.setCell ⟨b, 1, none⟩ u) b o u v := heap_put (j := 1) u h
theorem RdC.put2 {w : World} {b : Nat} {o a v : Value} (h : RdC w b o a v) (u : Value) : RdC (w.setCell ⟨b, 2, none⟩ u) b o a u := heap_put (j := 2) u h
/-- rows of other elements than bytes, and that are no readers, are as they were -/
def RowsK (w w' : World) : Prop := ∀ (B : Nat) (e : TypeId) (sz n : Nat) (u : Value) (xs : List Value), e ≠ 5 → e ≠ 52 → w.ownsRow B e sz u n xs → w'.ownsRow B e sz u n xs
theorem RowsK.refl (w : World) : RowsK w w := fun _ _ _ _ _ _ _ _ h => h
theorem RowsK.trans {a b c : World} (h : RowsK a b) (k : RowsK b c) : RowsK a c := fun B e sz n u xs h1 h2 hx => k B e sz n u xs h1 h2 (h B e sz n u xs h1 h2 hx)
theorem RowsK.below {w w' : World} (hb : Below w.heap.size w w') : RowsK w w' := fun B e sz n u xs _ _ hx => hx.kept (row := none) ⟨hb.os, hb.tape, hb.output, hb.size, fun k hk _ => hb.block k hk⟩ (by cases hv : u.ownBlock <;> simp)
theorem RowsK.grown {w w' : World} {B n : Nat} {v : Value} {xs : List Value} (h : w.ownsRow B 5 1 v n xs) (hg : w.grownBy w' v.ownBlock) : RowsK w w' := fun B' e sz m u ys h1 _ hx => hx.kept hg (ownsRow_diff h1 hx h)
theorem RowsK.put {w : World} {b : Nat} {o a v : Value} (h : RdC w b o a v) (i : Nat) (u : Value) : RowsK w (w.setCell ⟨b, i, none⟩ u) := fun B e sz n x xs _ h2 hx =>
  hx.kept (row := some b) ⟨rfl, rfl, rfl, by simp [World.setCell], fun k _ hk => Below.heap_setCell _ _ _ k (fun e => hk (by rw [e]))⟩ (.inr (ownsRow_other hx (fun cur hc => by
    have h' : w.heap[b]? = some (.cells #[o, a, v] 52 (0, 0)) := h
    rw [h'] at hc
    injection hc with hc
    injection hc with _ hc
    exact h2 hc.symm)))
theorem TRow.rows {B : Nat} {v : Value} {ls : List TokV} {w w' : World} (h : TRow B v ls w) (hk : RowsK w w') : TRow B v ls w' :=
  ⟨hk _ _ _ _ _ _ (by decide) (by decide) h.row, fun p hp => hk _ _ _ _ _ _ (by decide) (by decide) (h.each p hp)⟩
set_option maxHeartbeats 1000000 in
theorem copyCheckR_used (b : Nat) (w : World) (h0 : w.cell? ⟨b, 1, none⟩ = some (.pointer (some ⟨b, 1, none⟩))) :
    Calls Tryz.prog 87 #[.pointer (some ⟨b, 1, none⟩)] w fun e w' => e = .returned (.tuple #[]) ∧ w = w' := by
  obtain ⟨j, hj, _⟩ := Option.map_eq_some_iff.1 rdSize
  have hne := fun w : World => Lib.run_neq_ptr_same (P := Tryz.prog) w ⟨b, 1, none⟩ Tryz.underlying47 hj
  go_enter Tryz.func87, Tryz.ntmps87
  go_wp2
  go_end0
  exact ⟨rfl, rfl⟩
set_option maxHeartbeats 1000000 in
theorem copyCheckR_fresh (b : Nat) (w : World) (h0 : w.cell? ⟨b, 1, none⟩ = some (.pointer none)) (hsh : w.shape? b = some (52, 3)) (hfz : w.frozen? ⟨b, 1, none⟩ = false) :
    Calls Tryz.prog 87 #[.pointer (some ⟨b, 1, none⟩)] w fun e w' => e = .returned (.tuple #[]) ∧ w.setCell ⟨b, 1, none⟩ (.pointer (some ⟨b, 1, none⟩)) = w' := by
  obtain ⟨j, hj, hjs⟩ := Option.map_eq_some_iff.1 rdSize
  have c1 := Lib.run_to_unsafe (P := Tryz.prog) w ⟨b, 1, none⟩ Tryz.underlying47 Tryz.underlying130 hj (by rw [hjs]; decide) hsh (show 1 < 3 by decide)
  have c2 := Lib.run_from_unsafe (P := Tryz.prog) w ⟨b, 1, none⟩ Tryz.underlying130 Tryz.underlying47 hj hsh rdLies
  have ce := fun w : World => run_callFunc_extern (P := Tryz.prog) (w := w) (args := #[Value.pointer (some ⟨b, 1, none⟩)]) Tryz.func128 (by kernel_rfl) (by kernel_rfl) (by kernel_rfl) (e := Extern.AbiNoEscape.same) (by kernel_rfl)
  have cn := fun w : World => Lib.run_noEscape (P := Tryz.prog) (w := w) (Value.pointer (some ⟨b, 1, none⟩))
  go_enter Tryz.func87, Tryz.ntmps87
  go_wp2
  go_end0
  exact ⟨rfl, rfl⟩
/-- what the builder's address holds: nothing, or its own -/
def AdrOK (b : Nat) (a : Value) : Prop := a = .pointer none ∨ a = .pointer (some ⟨b, 1, none⟩)
theorem copyCheckR_any (B b : Nat) (o a v : Value) (w : World) (h : RdC w b o a v) (ha : AdrOK b a) (hB : B ≤ b) :
    Calls Tryz.prog 87 #[.pointer (some ⟨b, 1, none⟩)] w fun e w' => e = .returned (.tuple #[]) ∧ RdC w' b o (.pointer (some ⟨b, 1, none⟩)) v ∧ Below B w w' ∧ RowsK w w' ∧ (∀ k, k ≠ b → w'.heap[k]? = w.heap[k]?) ∧ w.heap.size = w'.heap.size := by
  rcases ha with rfl | rfl
  · refine (copyCheckR_fresh b w h.cell1 h.shape (h.free 1)).mono ?_
    rintro e w' ⟨rfl, rfl⟩
    exact ⟨rfl, h.put1 _, (Below.refl B w).setCell (p := ⟨b, 1, none⟩) hB _, RowsK.put h 1 _, fun k hk => Below.heap_setCell _ _ _ k (fun e => hk (by rw [e])), by simp [World.setCell]⟩
  · refine (copyCheckR_used b w h.cell1).mono ?_
    rintro e w' ⟨rfl, rfl⟩
    exact ⟨rfl, h, Below.refl _ _, RowsK.refl _, fun k _ => rfl, rfl⟩
/-- block b is a reader with the tokens vs in o, and the characters x -/
structure Rdr (B b : Nat) (o : Value) (vs : List TokV) (x : List UInt8) (W0 w : World) : Prop where
  at' : ∃ a v, RdC w b o a v ∧ AdrOK b a ∧ w.ownsRow B 5 1 v x.length (cellsOf x) ∧ v.ownBlock ≠ some b
  toks : TRow B o vs w
  base : B ≤ b
  below : Below B W0 w
  size : B ≤ w.heap.size
theorem Rdr.kept {B b : Nat} {o : Value} {vs : List TokV} {x : List UInt8} {W0 w w' : World} (h : Rdr B b o vs x W0 w) (hb : Below w.heap.size w w') : Rdr B b o vs x W0 w' := by
  obtain ⟨⟨a, v, h1, h2, h3, h4⟩, ht, hB, hW, hz⟩ := h
  exact ⟨⟨a, v, (hb.block b h1.lt).trans h1, h2, h3.kept (row := none) ⟨hb.os, hb.tape, hb.output, hb.size, fun k hk _ => hb.block k hk⟩ (by cases hv : v.ownBlock <;> simp), h4⟩, ht.kept hb, hB, hW.trans (hb.mono hz), Nat.le_trans hz hb.size⟩
set_option maxHeartbeats 1000000 in
theorem writeR_any (B b : Nat) (o : Value) (vs : List TokV) (x : List UInt8) (s : ByteArray) (W0 w : World) (h : Rdr B b o vs x W0 w) (hlen : x.length + s.size ≤ 140737488355328) :
    Calls Tryz.prog 45 #[.pointer (some ⟨b, 1, none⟩), .string s] w fun e w' => e = .returned (.tuple #[.int .i64 s.size, .nilIface]) ∧ Rdr B b o vs (x ++ s.data.toList) W0 w' := by
  obtain ⟨⟨a, v, h1, h2, h3, h4⟩, ht, hB, hW, hz⟩ := h
  obtain ⟨i0, hi, hz0, hz1, hz2⟩ := info_parts info_u8
  have HC := hide (copyCheckR_any B b o a v w h1 h2 hB)
  have H3 := hide h3
  have H4 := hide h4
  have HT := hide ht
  have HW := hide hW
  have hl1 : (cellsOf x).length = x.length := cellsOf_length x
  have HI := hide hi
  have HZ0 := hide hz0
  have HZ1 := hide hz1
  have HZ2 := hide hz2
  have HL1 := hide hl1
  clear h1 h2 h3 h4 ht hW hi hz0 hz1 hz2 hl1
  go_enter Tryz.func45, Tryz.ntmps45
  go_wp2_with fail
  refine HC.out.mono ?_
  rintro e w1 ⟨rfl, k1, k2, k3, k4, k5⟩
  have c2 := k1.cell2
  have hlt := k1.lt
  have hsz1 := k2.size
  have HOWN : Hid (w1.ownsRow B 5 1 v x.length (cellsOf x)) := hide (by
    have hx := H3.out
    exact hx.kept (row := some b) ⟨k2.os, k2.tape, k2.output, Nat.le_of_eq k5, fun k _ hk => k4 k (fun e => hk (by rw [e]))⟩ (.inr H4.out))
  have HK1 := hide k1
  have HK2 := hide k2
  have HK3 := hide k3
  have HSZ := hide (show B ≤ w1.heap.size by omega)
  clear k1 k2 k3 k4 k5
  go_wp2_with (refine Lib.wpList_append_own_string _ rfl _ _ 48 9 rfl B 5 i0 Tryz.underlying48 Tryz.underlying9 HI.out HZ0.out HZ1.out HZ2.out v x.length (cellsOf x) rfl HOWN.out s rfl (by unfold maxLen; omega) (by omega) HSZ.out ?_
               intro v' w2 hown' hgrow _
               obtain ⟨ao, n', cap, rfl⟩ : ∃ ao n' cap, v' = .slice ao n' cap := by
                 rcases hown'.2 with ⟨hv, _⟩ | ⟨g, cap, cur, hv, _⟩
                 · exact ⟨_, _, _, hv⟩
                 · exact ⟨_, _, _, hv⟩
               have hb2 : RdC w2 b o (.pointer (some ⟨b, 1, none⟩)) v := (hgrow.block b hlt (fun e => H4.out e.symm)).trans HK1.out
               have d2 := hb2.cell2
               have f2 := hb2.free 2
               have HO2 := hide hown'
               have HG2 := hide hgrow
               have HB2 := hide hb2
               clear hown' hgrow hb2)
  go_ret2
  have hb3 : Below B w w2 := HK2.out.grown HG2.out HSZ.out (fun k hk => (HOWN.out.lt k hk).1)
  have hk2 : RowsK w1 w2 := RowsK.grown HOWN.out HG2.out
  have hkp := RowsK.put HB2.out 2 (.slice ao n' cap)
  refine ⟨rfl, ⟨⟨_, _, HB2.out.put2 _, .inr rfl, ?_, ?_⟩, HT.out.rows (HK3.out.trans (hk2.trans hkp)), hB, (HW.out.trans hb3).setCell (p := ⟨b, 2, none⟩) hB _, ?_⟩⟩
  · have e1 : cellsOf (x ++ s.data.toList) = cellsOf x ++ Lib.strCells s := by rw [cellsOf_str, cellsOf, List.map_append]; rfl
    rw [e1, List.length_append, toList_length]
    have ho := HO2.out
    refine ho.kept (row := some b) ⟨rfl, rfl, rfl, by simp [World.setCell], fun k _ hk => Below.heap_setCell _ _ _ k (fun e => hk (by rw [e]))⟩ (.inr ?_)
    exact ownsRow_other ho (fun cur hc => by
      have h' : w2.heap[b]? = some (.cells #[o, .pointer (some ⟨b, 1, none⟩), v] 52 (0, 0)) := HB2.out
      rw [h'] at hc
      injection hc with hc
      injection hc with _ hc
      exact absurd hc (by decide))
  · exact ownsRow_other HO2.out (fun cur hc => by
      have h' : w2.heap[b]? = some (.cells #[o, .pointer (some ⟨b, 1, none⟩), v] 52 (0, 0)) := HB2.out
      rw [h'] at hc
      injection hc with hc
      injection hc with _ hc
      exact absurd hc (by decide))
  · have := hb3.size
    simp [World.setCell]
    omega
theorem lenR_any (B b : Nat) (o : Value) (vs : List TokV) (x : List UInt8) (W0 w : World) (h : Rdr B b o vs x W0 w) :
    Calls Tryz.prog 99 #[.pointer (some ⟨b, 1, none⟩)] w fun e w' => e = .returned (.int .i64 x.length) ∧ w = w' := by
  obtain ⟨⟨a, v, h1, h2, h3, h4⟩, _⟩ := h
  obtain ⟨A, c, rfl⟩ : ∃ A c, v = .slice A x.length c := by
    rcases h3.2 with ⟨rfl, h0⟩ | ⟨g, cap, cur, rfl, _⟩
    · rw [h0]; exact ⟨_, _, rfl⟩
    · exact ⟨_, _, rfl⟩
  have c2 := h1.cell2
  clear h1 h2 h3 h4
  go_enter Tryz.func99, Tryz.ntmps99
  go_wp2_with fail
  go_ret
  exact ⟨rfl, rfl⟩
end Go.Proofs.YtgokefodmjhhiaaGreatDoor

/- WALKS of ParseUint at bases 10 and 16. No statement is proved here. -/
namespace Go.Proofs.YtgokefodmjhhiaaGreatDoor
open Go.RowKit
set_option linter.unusedVariables false
set_option linter.unusedSimpArgs false
set_option maxRecDepth 100000
/-- a letter's or a digit's number -/
def dgV (c : UInt8) : Nat := if 48 ≤ c.toNat ∧ c.toNat ≤ 57 then c.toNat - 48 else if 97 ≤ (c ||| 32).toNat ∧ (c ||| 32).toNat ≤ 122 then (c ||| 32).toNat - 87 else 255
def digB (b : Nat) (c : UInt8) : Option Nat := if dgV c < b then some (dgV c) else none
/-- the number that digits tell, n behind -/
def parseB (b : Nat) : Nat → List UInt8 → Option Nat
  | n, [] => some n
  | n, c :: r => match digB b c with
    | none => none
    | some d => parseB b (n * b + d) r
def uTup : Option Nat → Value
  | some n => .tuple #[.int .u64 n, .nilIface]
  | none => .tuple #[.int .u64 0, .iface 205 (.int .i64 2)]
theorem par_step {b n d k : Nat} (h : n + 1 ≤ b ^ k) (hd : d < b) : n * b + d + 1 ≤ b ^ (k + 1) := by
  have h1 : (n + 1) * b ≤ b ^ k * b := Nat.mul_le_mul_right b h
  rw [Nat.pow_succ]
  rw [Nat.succ_mul] at h1
  omega

set_option maxHeartbeats 4000000 in
theorem iparse10_any (s : ByteArray) (w : World) (hs : s.size ≤ 8) (h0 : s.size ≠ 0) :
    Calls Tryz.prog 170 #[.string s, .int .i64 10, .int .i64 32] w fun e w' => e = .returned (uTup (parseB 10 0 s.data.toList)) ∧ Below w.heap.size w w' := by
  have hemp : s.toList.isEmpty = false := (sizeP h0).2
  go_enter Tryz.func170, Tryz.ntmps170
  go_wp2_with (refine wpList_bytes rfl _ rfl s rfl ?_; intro cap w0 ha0; have HA0 := hide ha0; clear ha0)
  go_loopw [12, 13, 101] (fun un nv i wr => ∃ k n : Nat, un = .bool false ∧ k ≤ s.size ∧ i = .int .i64 k ∧ nv = .int .u64 n ∧ Hid (n + 1 ≤ 10 ^ k) ∧ Hid (parseB 10 n (s.data.toList.drop k) = parseB 10 0 s.data.toList) ∧ Hid (wr = w0)) (fun _ _ i _ => s.size - (intOf i).toNat)
  case atStart => exact ⟨0, 0, rfl, Nat.zero_le _, rfl, rfl, hide (Nat.le_refl _), hide rfl, hide rfl⟩
  case round =>
    obtain ⟨k, n, rfl, hk, rfl, rfl, HP, HG, HW⟩ := hrel
    obtain rfl := HW.out
    by_cases hlt : k < s.size
    · have hst := HG.out
      rw [drop_cons s k hlt, parseB] at hst
      have c1 : wr.cell? ⟨w.heap.size, k, none⟩ = some (.int .u8 s[k].toNat) := HA0.out.cell k (by rw [toList_length]; exact hlt)
      by_cases g1 : 48 ≤ s[k].toNat ∧ s[k].toNat ≤ 57
      · obtain ⟨d, hd⟩ : ∃ d, s[k].toNat = 48 + d := ⟨s[k].toNat - 48, by omega⟩
        have t1 : decide ((48 : Int) ≤ s[k].toNat) = true := decide_eq_true (by omega)
        have t2 : decide ((s[k].toNat : Int) ≤ 57) = true := decide_eq_true (by omega)
        have t3 : ((s[k].toNat : Int) == 95) = false := beq_eq_false_iff_ne.2 (by omega)
        have wd : IntKind.u8.wrap ((s[k].toNat : Int) - 48) = (d : Int) := by rw [hd]; rw [show ((48 + d : Nat) : Int) - 48 = d by omega]; exact IntWalk.u8_in _ (by omega)
        have hdl : d < 10 := by omega
        have hdb : digB 10 s[k] = some d := by unfold digB dgV; rw [if_pos g1]; rw [if_pos (by omega)]; exact congrArg some (by omega)
        rw [hdb] at hst
        have HN : Hid (parseB 10 (n * 10 + d) (s.data.toList.drop (k + 1)) = parseB 10 0 s.data.toList) := hide hst
        have HB1 : Hid (n * 10 + d + 1 ≤ 10 ^ (k + 1)) := hide (par_step HP.out hdl)
        have hb2 : n * 10 + d + 1 ≤ 4294967296 := Nat.le_trans HB1.out (Nat.le_trans (Nat.pow_le_pow_right (by decide) (by omega : k + 1 ≤ 8)) (by decide))
        have x0 : IntKind.u64.wrap (d : Int) = (d : Int) := IntWalk.u64_in _ (by omega)
        have x1 : IntKind.u64.wrap ((n : Int) * 10) = (n : Int) * 10 := IntWalk.u64_in _ (by omega)
        have x2 : IntKind.u64.wrap ((n : Int) * 10 + (d : Int)) = (n : Int) * 10 + d := IntWalk.u64_in _ (by omega)
        have x3 : decide ((n : Int) * 10 + (d : Int) < (n : Int) * 10) = false := decide_eq_false (by omega)
        have x4 : decide ((4294967295 : Int) < (n : Int) * 10 + (d : Int)) = false := decide_eq_false (by omega)
        have x5 : decide ((10 : Int) ≤ (d : Int)) = false := decide_eq_false (by omega)
        have x6 : decide ((1844674407370955162 : Int) ≤ (n : Int)) = false := decide_eq_false (by omega)
        clear hst hdb hdl hb2
        clear hd g1
        go_wp2_with fail
        go_roundw
        case rel => exact ⟨k + 1, n * 10 + d, rfl, by omega, by go_num, by first | rfl | simp, HB1, HN, by first | exact trivial | exact hide rfl⟩
        case measure => simp [intOf]; omega
      · have t1 : (decide ((48 : Int) ≤ s[k].toNat) && decide ((s[k].toNat : Int) ≤ 57)) = false := by
          cases q1 : decide ((48 : Int) ≤ s[k].toNat) with
          | false => rfl
          | true =>
            have := of_decide_eq_true q1
            rw [Bool.true_and]; exact decide_eq_false (by omega)
        obtain ⟨L, hL⟩ : ∃ L, (s[k] ||| 32).toNat = L := ⟨_, rfl⟩
        have ho : bits .or .u8 (s[k].toNat : Int) 32 = (L : Int) := by rw [or32, hL]
        have HC := hide (fun w1 => Tryz.internal_strconv_lower (s[k].toNat : Int) w1)
        rw [ho] at HC
        have t3 : (decide ((s[k].toNat : Int) = 95)) = decide (s[k].toNat = 95) := by congr 1; exact propext (by omega)
        have hdv : dgV s[k] = if 97 ≤ L ∧ L ≤ 122 then L - 87 else 255 := by unfold dgV; rw [if_neg g1, hL]
        have hLl : L < 256 := by rw [← hL]; exact byte_lt _
        by_cases q1 : (48 : Int) ≤ s[k].toNat
        · have q1' : decide ((48 : Int) ≤ s[k].toNat) = true := decide_eq_true q1
          have q2' : decide ((s[k].toNat : Int) ≤ 57) = false := decide_eq_false (by omega)
          clear t1 t3
          by_cases u : s[k].toNat = 95
          · have u' : ((s[k].toNat : Int) == 95) = true := by rw [beq_iff_eq]; omega
            have hL95 : L = 127 := by rw [← hL, show s[k] = 95 from UInt8.toNat_inj.1 u]; rfl
            have hv : dgV s[k] = 255 := by rw [hdv, if_neg (by omega)]
            have hbad : digB 10 s[k] = none := by unfold digB; rw [hv]; rfl
            rw [hbad] at hst
            have HR : Hid (parseB 10 0 s.data.toList = none) := hide hst.symm
            have l1 : decide ((97 : Int) ≤ L) = true := decide_eq_true (by omega)
            have l2 : decide ((L : Int) ≤ 122) = false := decide_eq_false (by omega)
            clear hst hbad hv hdv hL ho u g1 q1
            go_wp2_with (go_at_call 195; refine (HC.out _).mono ?_; rintro e w1 ⟨rfl, hw1⟩; obtain rfl := hw1.symm)
            go_ret2
            exact ⟨by rw [HR.out]; rfl, HA0.out.below⟩
          have u' : ((s[k].toNat : Int) == 95) = false := beq_eq_false_iff_ne.2 (by omega)
          by_cases l1 : 97 ≤ L
          · have l1' : decide ((97 : Int) ≤ L) = true := decide_eq_true (by omega)
            by_cases l2 : L ≤ 122
            · have l2' : decide ((L : Int) ≤ 122) = true := decide_eq_true (by omega)
              rw [if_pos ⟨l1, l2⟩] at hdv
              obtain ⟨d, hd⟩ : ∃ d, L = 87 + d := ⟨L - 87, by omega⟩
              have y1 : IntKind.u8.wrap ((L : Int) - 97) = ((d - 10 : Nat) : Int) := by rw [show (L : Int) - 97 = ((d - 10 : Nat) : Int) by omega]; exact IntWalk.u8_in _ (by omega)
              have y2 : IntKind.u8.wrap (((d - 10 : Nat) : Int) + 10) = (d : Int) := by rw [show ((d - 10 : Nat) : Int) + 10 = (d : Int) by omega]; exact IntWalk.u8_in _ (by omega)
              by_cases hdl : d < 10
              · clear q1
                have hdb : digB 10 s[k] = some d := by unfold digB; rw [hdv, if_pos (by omega)]; exact congrArg some (by omega)
                rw [hdb] at hst
                have HN : Hid (parseB 10 (n * 10 + d) (s.data.toList.drop (k + 1)) = parseB 10 0 s.data.toList) := hide hst
                have HB1 : Hid (n * 10 + d + 1 ≤ 10 ^ (k + 1)) := hide (par_step HP.out hdl)
                have hb2 : n * 10 + d + 1 ≤ 4294967296 := Nat.le_trans HB1.out (Nat.le_trans (Nat.pow_le_pow_right (by decide) (by omega : k + 1 ≤ 8)) (by decide))
                have x0 : IntKind.u64.wrap (d : Int) = (d : Int) := IntWalk.u64_in _ (by omega)
                have x1 : IntKind.u64.wrap ((n : Int) * 10) = (n : Int) * 10 := IntWalk.u64_in _ (by omega)
                have x2 : IntKind.u64.wrap ((n : Int) * 10 + (d : Int)) = (n : Int) * 10 + d := IntWalk.u64_in _ (by omega)
                have x3 : decide ((n : Int) * 10 + (d : Int) < (n : Int) * 10) = false := decide_eq_false (by omega)
                have x4 : decide ((4294967295 : Int) < (n : Int) * 10 + (d : Int)) = false := decide_eq_false (by omega)
                have x5 : decide ((10 : Int) ≤ (d : Int)) = false := decide_eq_false (by omega)
                have x6 : decide ((1844674407370955162 : Int) ≤ (n : Int)) = false := decide_eq_false (by omega)
                clear hst hdb hdl hb2
                clear hdv hL ho u g1 hd
                go_wp2_with (go_at_call 195; refine (HC.out _).mono ?_; rintro e w1 ⟨rfl, hw1⟩; obtain rfl := hw1.symm)
                go_roundw
                case rel => exact ⟨k + 1, n * 10 + d, rfl, by omega, by go_num, by first | rfl | simp, HB1, HN, by first | exact trivial | exact hide rfl⟩
                case measure => simp [intOf]; omega
              · have hbad : digB 10 s[k] = none := by unfold digB; rw [hdv, if_neg (by omega)]
                rw [hbad] at hst
                have HR : Hid (parseB 10 0 s.data.toList = none) := hide hst.symm
                have x5 : decide ((10 : Int) ≤ (d : Int)) = true := decide_eq_true (by omega)
                clear hst hbad hdv hL ho u g1 q1 hdl hd
                go_wp2_with (go_at_call 195; refine (HC.out _).mono ?_; rintro e w1 ⟨rfl, hw1⟩; obtain rfl := hw1.symm)
                go_ret2
                exact ⟨by rw [HR.out]; rfl, HA0.out.below⟩
            · have l2' : decide ((L : Int) ≤ 122) = false := decide_eq_false (by omega)
              have hv : dgV s[k] = 255 := by rw [hdv, if_neg (by omega)]
              have hbad : digB 10 s[k] = none := by unfold digB; rw [hv]; rfl
              rw [hbad] at hst
              have HR : Hid (parseB 10 0 s.data.toList = none) := hide hst.symm
              clear hst hbad hv hdv hL ho u g1 q1
              go_wp2_with (go_at_call 195; refine (HC.out _).mono ?_; rintro e w1 ⟨rfl, hw1⟩; obtain rfl := hw1.symm)
              go_ret2
              exact ⟨by rw [HR.out]; rfl, HA0.out.below⟩
          · have l1' : decide ((97 : Int) ≤ L) = false := decide_eq_false (by omega)
            have hv : dgV s[k] = 255 := by rw [hdv, if_neg (by omega)]
            have hbad : digB 10 s[k] = none := by unfold digB; rw [hv]; rfl
            rw [hbad] at hst
            have HR : Hid (parseB 10 0 s.data.toList = none) := hide hst.symm
            clear hst hbad hv hdv hL ho u g1 q1
            go_wp2_with (go_at_call 195; refine (HC.out _).mono ?_; rintro e w1 ⟨rfl, hw1⟩; obtain rfl := hw1.symm)
            go_ret2
            exact ⟨by rw [HR.out]; rfl, HA0.out.below⟩
        · have q1' : decide ((48 : Int) ≤ s[k].toNat) = false := decide_eq_false q1
          clear t1 t3
          by_cases u : s[k].toNat = 95
          · have u' : ((s[k].toNat : Int) == 95) = true := by rw [beq_iff_eq]; omega
            have hL95 : L = 127 := by rw [← hL, show s[k] = 95 from UInt8.toNat_inj.1 u]; rfl
            have hv : dgV s[k] = 255 := by rw [hdv, if_neg (by omega)]
            have hbad : digB 10 s[k] = none := by unfold digB; rw [hv]; rfl
            rw [hbad] at hst
            have HR : Hid (parseB 10 0 s.data.toList = none) := hide hst.symm
            have l1 : decide ((97 : Int) ≤ L) = true := decide_eq_true (by omega)
            have l2 : decide ((L : Int) ≤ 122) = false := decide_eq_false (by omega)
            clear hst hbad hv hdv hL ho u g1 q1
            go_wp2_with (go_at_call 195; refine (HC.out _).mono ?_; rintro e w1 ⟨rfl, hw1⟩; obtain rfl := hw1.symm)
            go_ret2
            exact ⟨by rw [HR.out]; rfl, HA0.out.below⟩
          have u' : ((s[k].toNat : Int) == 95) = false := beq_eq_false_iff_ne.2 (by omega)
          by_cases l1 : 97 ≤ L
          · have l1' : decide ((97 : Int) ≤ L) = true := decide_eq_true (by omega)
            by_cases l2 : L ≤ 122
            · have l2' : decide ((L : Int) ≤ 122) = true := decide_eq_true (by omega)
              rw [if_pos ⟨l1, l2⟩] at hdv
              obtain ⟨d, hd⟩ : ∃ d, L = 87 + d := ⟨L - 87, by omega⟩
              have y1 : IntKind.u8.wrap ((L : Int) - 97) = ((d - 10 : Nat) : Int) := by rw [show (L : Int) - 97 = ((d - 10 : Nat) : Int) by omega]; exact IntWalk.u8_in _ (by omega)
              have y2 : IntKind.u8.wrap (((d - 10 : Nat) : Int) + 10) = (d : Int) := by rw [show ((d - 10 : Nat) : Int) + 10 = (d : Int) by omega]; exact IntWalk.u8_in _ (by omega)
              by_cases hdl : d < 10
              · clear q1
                have hdb : digB 10 s[k] = some d := by unfold digB; rw [hdv, if_pos (by omega)]; exact congrArg some (by omega)
                rw [hdb] at hst
                have HN : Hid (parseB 10 (n * 10 + d) (s.data.toList.drop (k + 1)) = parseB 10 0 s.data.toList) := hide hst
                have HB1 : Hid (n * 10 + d + 1 ≤ 10 ^ (k + 1)) := hide (par_step HP.out hdl)
                have hb2 : n * 10 + d + 1 ≤ 4294967296 := Nat.le_trans HB1.out (Nat.le_trans (Nat.pow_le_pow_right (by decide) (by omega : k + 1 ≤ 8)) (by decide))
                have x0 : IntKind.u64.wrap (d : Int) = (d : Int) := IntWalk.u64_in _ (by omega)
                have x1 : IntKind.u64.wrap ((n : Int) * 10) = (n : Int) * 10 := IntWalk.u64_in _ (by omega)
                have x2 : IntKind.u64.wrap ((n : Int) * 10 + (d : Int)) = (n : Int) * 10 + d := IntWalk.u64_in _ (by omega)
                have x3 : decide ((n : Int) * 10 + (d : Int) < (n : Int) * 10) = false := decide_eq_false (by omega)
                have x4 : decide ((4294967295 : Int) < (n : Int) * 10 + (d : Int)) = false := decide_eq_false (by omega)
                have x5 : decide ((10 : Int) ≤ (d : Int)) = false := decide_eq_false (by omega)
                have x6 : decide ((1844674407370955162 : Int) ≤ (n : Int)) = false := decide_eq_false (by omega)
                clear hst hdb hdl hb2
                clear hdv hL ho u g1 hd
                go_wp2_with (go_at_call 195; refine (HC.out _).mono ?_; rintro e w1 ⟨rfl, hw1⟩; obtain rfl := hw1.symm)
                go_roundw
                case rel => exact ⟨k + 1, n * 10 + d, rfl, by omega, by go_num, by first | rfl | simp, HB1, HN, by first | exact trivial | exact hide rfl⟩
                case measure => simp [intOf]; omega
              · have hbad : digB 10 s[k] = none := by unfold digB; rw [hdv, if_neg (by omega)]
                rw [hbad] at hst
                have HR : Hid (parseB 10 0 s.data.toList = none) := hide hst.symm
                have x5 : decide ((10 : Int) ≤ (d : Int)) = true := decide_eq_true (by omega)
                clear hst hbad hdv hL ho u g1 q1 hdl hd
                go_wp2_with (go_at_call 195; refine (HC.out _).mono ?_; rintro e w1 ⟨rfl, hw1⟩; obtain rfl := hw1.symm)
                go_ret2
                exact ⟨by rw [HR.out]; rfl, HA0.out.below⟩
            · have l2' : decide ((L : Int) ≤ 122) = false := decide_eq_false (by omega)
              have hv : dgV s[k] = 255 := by rw [hdv, if_neg (by omega)]
              have hbad : digB 10 s[k] = none := by unfold digB; rw [hv]; rfl
              rw [hbad] at hst
              have HR : Hid (parseB 10 0 s.data.toList = none) := hide hst.symm
              clear hst hbad hv hdv hL ho u g1 q1
              go_wp2_with (go_at_call 195; refine (HC.out _).mono ?_; rintro e w1 ⟨rfl, hw1⟩; obtain rfl := hw1.symm)
              go_ret2
              exact ⟨by rw [HR.out]; rfl, HA0.out.below⟩
          · have l1' : decide ((97 : Int) ≤ L) = false := decide_eq_false (by omega)
            have hv : dgV s[k] = 255 := by rw [hdv, if_neg (by omega)]
            have hbad : digB 10 s[k] = none := by unfold digB; rw [hv]; rfl
            rw [hbad] at hst
            have HR : Hid (parseB 10 0 s.data.toList = none) := hide hst.symm
            clear hst hbad hv hdv hL ho u g1 q1
            go_wp2_with (go_at_call 195; refine (HC.out _).mono ?_; rintro e w1 ⟨rfl, hw1⟩; obtain rfl := hw1.symm)
            go_ret2
            exact ⟨by rw [HR.out]; rfl, HA0.out.below⟩
    · have hk2 : k = s.size := by omega
      have HR : Hid (parseB 10 0 s.data.toList = some n) := hide (by rw [← HG.out, drop_nil s k (by omega)]; rfl)
      clear hk2
      go_wp2_with fail
      go_ret2
      exact ⟨by rw [HR.out]; rfl, HA0.out.below⟩

set_option maxHeartbeats 4000000 in
theorem iparse16_any (s : ByteArray) (w : World) (hs : s.size ≤ 8) (h0 : s.size ≠ 0) :
    Calls Tryz.prog 170 #[.string s, .int .i64 16, .int .i64 32] w fun e w' => e = .returned (uTup (parseB 16 0 s.data.toList)) ∧ Below w.heap.size w w' := by
  have hemp : s.toList.isEmpty = false := (sizeP h0).2
  go_enter Tryz.func170, Tryz.ntmps170
  go_wp2_with (refine wpList_bytes rfl _ rfl s rfl ?_; intro cap w0 ha0; have HA0 := hide ha0; clear ha0)
  go_loopw [12, 13, 101] (fun un nv i wr => ∃ k n : Nat, un = .bool false ∧ k ≤ s.size ∧ i = .int .i64 k ∧ nv = .int .u64 n ∧ Hid (n + 1 ≤ 16 ^ k) ∧ Hid (parseB 16 n (s.data.toList.drop k) = parseB 16 0 s.data.toList) ∧ Hid (wr = w0)) (fun _ _ i _ => s.size - (intOf i).toNat)
  case atStart => exact ⟨0, 0, rfl, Nat.zero_le _, rfl, rfl, hide (Nat.le_refl _), hide rfl, hide rfl⟩
  case round =>
    obtain ⟨k, n, rfl, hk, rfl, rfl, HP, HG, HW⟩ := hrel
    obtain rfl := HW.out
    by_cases hlt : k < s.size
    · have hst := HG.out
      rw [drop_cons s k hlt, parseB] at hst
      have c1 : wr.cell? ⟨w.heap.size, k, none⟩ = some (.int .u8 s[k].toNat) := HA0.out.cell k (by rw [toList_length]; exact hlt)
      by_cases g1 : 48 ≤ s[k].toNat ∧ s[k].toNat ≤ 57
      · obtain ⟨d, hd⟩ : ∃ d, s[k].toNat = 48 + d := ⟨s[k].toNat - 48, by omega⟩
        have t1 : decide ((48 : Int) ≤ s[k].toNat) = true := decide_eq_true (by omega)
        have t2 : decide ((s[k].toNat : Int) ≤ 57) = true := decide_eq_true (by omega)
        have t3 : ((s[k].toNat : Int) == 95) = false := beq_eq_false_iff_ne.2 (by omega)
        have wd : IntKind.u8.wrap ((s[k].toNat : Int) - 48) = (d : Int) := by rw [hd]; rw [show ((48 + d : Nat) : Int) - 48 = d by omega]; exact IntWalk.u8_in _ (by omega)
        have hdl : d < 16 := by omega
        have hdb : digB 16 s[k] = some d := by unfold digB dgV; rw [if_pos g1]; rw [if_pos (by omega)]; exact congrArg some (by omega)
        rw [hdb] at hst
        have HN : Hid (parseB 16 (n * 16 + d) (s.data.toList.drop (k + 1)) = parseB 16 0 s.data.toList) := hide hst
        have HB1 : Hid (n * 16 + d + 1 ≤ 16 ^ (k + 1)) := hide (par_step HP.out hdl)
        have hb2 : n * 16 + d + 1 ≤ 4294967296 := Nat.le_trans HB1.out (Nat.le_trans (Nat.pow_le_pow_right (by decide) (by omega : k + 1 ≤ 8)) (by decide))
        have x0 : IntKind.u64.wrap (d : Int) = (d : Int) := IntWalk.u64_in _ (by omega)
        have x1 : IntKind.u64.wrap ((n : Int) * 16) = (n : Int) * 16 := IntWalk.u64_in _ (by omega)
        have x2 : IntKind.u64.wrap ((n : Int) * 16 + (d : Int)) = (n : Int) * 16 + d := IntWalk.u64_in _ (by omega)
        have x3 : decide ((n : Int) * 16 + (d : Int) < (n : Int) * 16) = false := decide_eq_false (by omega)
        have x4 : decide ((4294967295 : Int) < (n : Int) * 16 + (d : Int)) = false := decide_eq_false (by omega)
        have x5 : decide ((16 : Int) ≤ (d : Int)) = false := decide_eq_false (by omega)
        have x6 : decide ((1152921504606846976 : Int) ≤ (n : Int)) = false := decide_eq_false (by omega)
        clear hst hdb hdl hb2
        clear hd g1
        go_wp2_with fail
        go_roundw
        case rel => exact ⟨k + 1, n * 16 + d, rfl, by omega, by go_num, by first | rfl | simp, HB1, HN, by first | exact trivial | exact hide rfl⟩
        case measure => simp [intOf]; omega
      · have t1 : (decide ((48 : Int) ≤ s[k].toNat) && decide ((s[k].toNat : Int) ≤ 57)) = false := by
          cases q1 : decide ((48 : Int) ≤ s[k].toNat) with
          | false => rfl
          | true =>
            have := of_decide_eq_true q1
            rw [Bool.true_and]; exact decide_eq_false (by omega)
        obtain ⟨L, hL⟩ : ∃ L, (s[k] ||| 32).toNat = L := ⟨_, rfl⟩
        have ho : bits .or .u8 (s[k].toNat : Int) 32 = (L : Int) := by rw [or32, hL]
        have HC := hide (fun w1 => Tryz.internal_strconv_lower (s[k].toNat : Int) w1)
        rw [ho] at HC
        have t3 : (decide ((s[k].toNat : Int) = 95)) = decide (s[k].toNat = 95) := by congr 1; exact propext (by omega)
        have hdv : dgV s[k] = if 97 ≤ L ∧ L ≤ 122 then L - 87 else 255 := by unfold dgV; rw [if_neg g1, hL]
        have hLl : L < 256 := by rw [← hL]; exact byte_lt _
        by_cases q1 : (48 : Int) ≤ s[k].toNat
        · have q1' : decide ((48 : Int) ≤ s[k].toNat) = true := decide_eq_true q1
          have q2' : decide ((s[k].toNat : Int) ≤ 57) = false := decide_eq_false (by omega)
          clear t1 t3
          by_cases u : s[k].toNat = 95
          · have u' : ((s[k].toNat : Int) == 95) = true := by rw [beq_iff_eq]; omega
            have hL95 : L = 127 := by rw [← hL, show s[k] = 95 from UInt8.toNat_inj.1 u]; rfl
            have hv : dgV s[k] = 255 := by rw [hdv, if_neg (by omega)]
            have hbad : digB 16 s[k] = none := by unfold digB; rw [hv]; rfl
            rw [hbad] at hst
            have HR : Hid (parseB 16 0 s.data.toList = none) := hide hst.symm
            have l1 : decide ((97 : Int) ≤ L) = true := decide_eq_true (by omega)
            have l2 : decide ((L : Int) ≤ 122) = false := decide_eq_false (by omega)
            clear hst hbad hv hdv hL ho u g1 q1
            go_wp2_with (go_at_call 195; refine (HC.out _).mono ?_; rintro e w1 ⟨rfl, hw1⟩; obtain rfl := hw1.symm)
            go_ret2
            exact ⟨by rw [HR.out]; rfl, HA0.out.below⟩
          have u' : ((s[k].toNat : Int) == 95) = false := beq_eq_false_iff_ne.2 (by omega)
          by_cases l1 : 97 ≤ L
          · have l1' : decide ((97 : Int) ≤ L) = true := decide_eq_true (by omega)
            by_cases l2 : L ≤ 122
            · have l2' : decide ((L : Int) ≤ 122) = true := decide_eq_true (by omega)
              rw [if_pos ⟨l1, l2⟩] at hdv
              obtain ⟨d, hd⟩ : ∃ d, L = 87 + d := ⟨L - 87, by omega⟩
              have y1 : IntKind.u8.wrap ((L : Int) - 97) = ((d - 10 : Nat) : Int) := by rw [show (L : Int) - 97 = ((d - 10 : Nat) : Int) by omega]; exact IntWalk.u8_in _ (by omega)
              have y2 : IntKind.u8.wrap (((d - 10 : Nat) : Int) + 10) = (d : Int) := by rw [show ((d - 10 : Nat) : Int) + 10 = (d : Int) by omega]; exact IntWalk.u8_in _ (by omega)
              by_cases hdl : d < 16
              · clear q1
                have hdb : digB 16 s[k] = some d := by unfold digB; rw [hdv, if_pos (by omega)]; exact congrArg some (by omega)
                rw [hdb] at hst
                have HN : Hid (parseB 16 (n * 16 + d) (s.data.toList.drop (k + 1)) = parseB 16 0 s.data.toList) := hide hst
                have HB1 : Hid (n * 16 + d + 1 ≤ 16 ^ (k + 1)) := hide (par_step HP.out hdl)
                have hb2 : n * 16 + d + 1 ≤ 4294967296 := Nat.le_trans HB1.out (Nat.le_trans (Nat.pow_le_pow_right (by decide) (by omega : k + 1 ≤ 8)) (by decide))
                have x0 : IntKind.u64.wrap (d : Int) = (d : Int) := IntWalk.u64_in _ (by omega)
                have x1 : IntKind.u64.wrap ((n : Int) * 16) = (n : Int) * 16 := IntWalk.u64_in _ (by omega)
                have x2 : IntKind.u64.wrap ((n : Int) * 16 + (d : Int)) = (n : Int) * 16 + d := IntWalk.u64_in _ (by omega)
                have x3 : decide ((n : Int) * 16 + (d : Int) < (n : Int) * 16) = false := decide_eq_false (by omega)
                have x4 : decide ((4294967295 : Int) < (n : Int) * 16 + (d : Int)) = false := decide_eq_false (by omega)
                have x5 : decide ((16 : Int) ≤ (d : Int)) = false := decide_eq_false (by omega)
                have x6 : decide ((1152921504606846976 : Int) ≤ (n : Int)) = false := decide_eq_false (by omega)
                clear hst hdb hdl hb2
                clear hdv hL ho u g1 hd
                go_wp2_with (go_at_call 195; refine (HC.out _).mono ?_; rintro e w1 ⟨rfl, hw1⟩; obtain rfl := hw1.symm)
                go_roundw
                case rel => exact ⟨k + 1, n * 16 + d, rfl, by omega, by go_num, by first | rfl | simp, HB1, HN, by first | exact trivial | exact hide rfl⟩
                case measure => simp [intOf]; omega
              · have hbad : digB 16 s[k] = none := by unfold digB; rw [hdv, if_neg (by omega)]
                rw [hbad] at hst
                have HR : Hid (parseB 16 0 s.data.toList = none) := hide hst.symm
                have x5 : decide ((16 : Int) ≤ (d : Int)) = true := decide_eq_true (by omega)
                clear hst hbad hdv hL ho u g1 q1 hdl hd
                go_wp2_with (go_at_call 195; refine (HC.out _).mono ?_; rintro e w1 ⟨rfl, hw1⟩; obtain rfl := hw1.symm)
                go_ret2
                exact ⟨by rw [HR.out]; rfl, HA0.out.below⟩
            · have l2' : decide ((L : Int) ≤ 122) = false := decide_eq_false (by omega)
              have hv : dgV s[k] = 255 := by rw [hdv, if_neg (by omega)]
              have hbad : digB 16 s[k] = none := by unfold digB; rw [hv]; rfl
              rw [hbad] at hst
              have HR : Hid (parseB 16 0 s.data.toList = none) := hide hst.symm
              clear hst hbad hv hdv hL ho u g1 q1
              go_wp2_with (go_at_call 195; refine (HC.out _).mono ?_; rintro e w1 ⟨rfl, hw1⟩; obtain rfl := hw1.symm)
              go_ret2
              exact ⟨by rw [HR.out]; rfl, HA0.out.below⟩
          · have l1' : decide ((97 : Int) ≤ L) = false := decide_eq_false (by omega)
            have hv : dgV s[k] = 255 := by rw [hdv, if_neg (by omega)]
            have hbad : digB 16 s[k] = none := by unfold digB; rw [hv]; rfl
            rw [hbad] at hst
            have HR : Hid (parseB 16 0 s.data.toList = none) := hide hst.symm
            clear hst hbad hv hdv hL ho u g1 q1
            go_wp2_with (go_at_call 195; refine (HC.out _).mono ?_; rintro e w1 ⟨rfl, hw1⟩; obtain rfl := hw1.symm)
            go_ret2
            exact ⟨by rw [HR.out]; rfl, HA0.out.below⟩
        · have q1' : decide ((48 : Int) ≤ s[k].toNat) = false := decide_eq_false q1
          clear t1 t3
          by_cases u : s[k].toNat = 95
          · have u' : ((s[k].toNat : Int) == 95) = true := by rw [beq_iff_eq]; omega
            have hL95 : L = 127 := by rw [← hL, show s[k] = 95 from UInt8.toNat_inj.1 u]; rfl
            have hv : dgV s[k] = 255 := by rw [hdv, if_neg (by omega)]
            have hbad : digB 16 s[k] = none := by unfold digB; rw [hv]; rfl
            rw [hbad] at hst
            have HR : Hid (parseB 16 0 s.data.toList = none) := hide hst.symm
            have l1 : decide ((97 : Int) ≤ L) = true := decide_eq_true (by omega)
            have l2 : decide ((L : Int) ≤ 122) = false := decide_eq_false (by omega)
            clear hst hbad hv hdv hL ho u g1 q1
            go_wp2_with (go_at_call 195; refine (HC.out _).mono ?_; rintro e w1 ⟨rfl, hw1⟩; obtain rfl := hw1.symm)
            go_ret2
            exact ⟨by rw [HR.out]; rfl, HA0.out.below⟩
          have u' : ((s[k].toNat : Int) == 95) = false := beq_eq_false_iff_ne.2 (by omega)
          by_cases l1 : 97 ≤ L
          · have l1' : decide ((97 : Int) ≤ L) = true := decide_eq_true (by omega)
            by_cases l2 : L ≤ 122
            · have l2' : decide ((L : Int) ≤ 122) = true := decide_eq_true (by omega)
              rw [if_pos ⟨l1, l2⟩] at hdv
              obtain ⟨d, hd⟩ : ∃ d, L = 87 + d := ⟨L - 87, by omega⟩
              have y1 : IntKind.u8.wrap ((L : Int) - 97) = ((d - 10 : Nat) : Int) := by rw [show (L : Int) - 97 = ((d - 10 : Nat) : Int) by omega]; exact IntWalk.u8_in _ (by omega)
              have y2 : IntKind.u8.wrap (((d - 10 : Nat) : Int) + 10) = (d : Int) := by rw [show ((d - 10 : Nat) : Int) + 10 = (d : Int) by omega]; exact IntWalk.u8_in _ (by omega)
              by_cases hdl : d < 16
              · clear q1
                have hdb : digB 16 s[k] = some d := by unfold digB; rw [hdv, if_pos (by omega)]; exact congrArg some (by omega)
                rw [hdb] at hst
                have HN : Hid (parseB 16 (n * 16 + d) (s.data.toList.drop (k + 1)) = parseB 16 0 s.data.toList) := hide hst
                have HB1 : Hid (n * 16 + d + 1 ≤ 16 ^ (k + 1)) := hide (par_step HP.out hdl)
                have hb2 : n * 16 + d + 1 ≤ 4294967296 := Nat.le_trans HB1.out (Nat.le_trans (Nat.pow_le_pow_right (by decide) (by omega : k + 1 ≤ 8)) (by decide))
                have x0 : IntKind.u64.wrap (d : Int) = (d : Int) := IntWalk.u64_in _ (by omega)
                have x1 : IntKind.u64.wrap ((n : Int) * 16) = (n : Int) * 16 := IntWalk.u64_in _ (by omega)
                have x2 : IntKind.u64.wrap ((n : Int) * 16 + (d : Int)) = (n : Int) * 16 + d := IntWalk.u64_in _ (by omega)
                have x3 : decide ((n : Int) * 16 + (d : Int) < (n : Int) * 16) = false := decide_eq_false (by omega)
                have x4 : decide ((4294967295 : Int) < (n : Int) * 16 + (d : Int)) = false := decide_eq_false (by omega)
                have x5 : decide ((16 : Int) ≤ (d : Int)) = false := decide_eq_false (by omega)
                have x6 : decide ((1152921504606846976 : Int) ≤ (n : Int)) = false := decide_eq_false (by omega)
                clear hst hdb hdl hb2
                clear hdv hL ho u g1 hd
                go_wp2_with (go_at_call 195; refine (HC.out _).mono ?_; rintro e w1 ⟨rfl, hw1⟩; obtain rfl := hw1.symm)
                go_roundw
                case rel => exact ⟨k + 1, n * 16 + d, rfl, by omega, by go_num, by first | rfl | simp, HB1, HN, by first | exact trivial | exact hide rfl⟩
                case measure => simp [intOf]; omega
              · have hbad : digB 16 s[k] = none := by unfold digB; rw [hdv, if_neg (by omega)]
                rw [hbad] at hst
                have HR : Hid (parseB 16 0 s.data.toList = none) := hide hst.symm
                have x5 : decide ((16 : Int) ≤ (d : Int)) = true := decide_eq_true (by omega)
                clear hst hbad hdv hL ho u g1 q1 hdl hd
                go_wp2_with (go_at_call 195; refine (HC.out _).mono ?_; rintro e w1 ⟨rfl, hw1⟩; obtain rfl := hw1.symm)
                go_ret2
                exact ⟨by rw [HR.out]; rfl, HA0.out.below⟩
            · have l2' : decide ((L : Int) ≤ 122) = false := decide_eq_false (by omega)
              have hv : dgV s[k] = 255 := by rw [hdv, if_neg (by omega)]
              have hbad : digB 16 s[k] = none := by unfold digB; rw [hv]; rfl
              rw [hbad] at hst
              have HR : Hid (parseB 16 0 s.data.toList = none) := hide hst.symm
              clear hst hbad hv hdv hL ho u g1 q1
              go_wp2_with (go_at_call 195; refine (HC.out _).mono ?_; rintro e w1 ⟨rfl, hw1⟩; obtain rfl := hw1.symm)
              go_ret2
              exact ⟨by rw [HR.out]; rfl, HA0.out.below⟩
          · have l1' : decide ((97 : Int) ≤ L) = false := decide_eq_false (by omega)
            have hv : dgV s[k] = 255 := by rw [hdv, if_neg (by omega)]
            have hbad : digB 16 s[k] = none := by unfold digB; rw [hv]; rfl
            rw [hbad] at hst
            have HR : Hid (parseB 16 0 s.data.toList = none) := hide hst.symm
            clear hst hbad hv hdv hL ho u g1 q1
            go_wp2_with (go_at_call 195; refine (HC.out _).mono ?_; rintro e w1 ⟨rfl, hw1⟩; obtain rfl := hw1.symm)
            go_ret2
            exact ⟨by rw [HR.out]; rfl, HA0.out.below⟩
    · have hk2 : k = s.size := by omega
      have HR : Hid (parseB 16 0 s.data.toList = some n) := hide (by rw [← HG.out, drop_nil s k (by omega)]; rfl)
      clear hk2
      go_wp2_with fail
      go_ret2
      exact ⟨by rw [HR.out]; rfl, HA0.out.below⟩

/-- the number of a text, if it is one -/
def parseU (b : Nat) (l : List UInt8) : Option Nat := if l = [] then none else parseB b 0 l
/-- what ParseUint answers -/
def UOut (o : Option Nat) (e : Ending) : Prop :=
  match o with
  | some n => e = .returned (.tuple #[.int .u64 n, .nilIface])
  | none => ∃ N : Nat, e = .returned (.tuple #[.int .u64 0, .iface 207 (.pointer (some ⟨N, 0, none⟩))])

theorem iempty10_any (w : World) : Calls Tryz.prog 170 #[.string ⟨#[]⟩, .int .i64 10, .int .i64 32] w (fun e w' => e = .returned (uTup none) ∧ Below w.heap.size w w') := by
  go_enter Tryz.func170, Tryz.ntmps170
  go_wp2_with fail
  go_ret2
  exact ⟨rfl, Below.refl _ _⟩
set_option maxHeartbeats 2000000 in
theorem parse10_any (s : ByteArray) (ev : Value) (w : World) (hs : s.size ≤ 8) (hv : w.cell? ⟨1, 0, none⟩ = some ev) (hev : ev = .nilIface ∨ ∃ te pe, ev = .iface te pe) :
    Calls Tryz.prog 149 #[.string s, .int .i64 10, .int .i64 32] w fun e w' => UOut (parseU 10 s.data.toList) e ∧ Below w.heap.size w w' := by
  have HV := hide hv
  have HEV := hide hev
  have HS := hide hs
  have hlt : 1 < w.heap.size := by
    rcases Nat.lt_or_ge 1 w.heap.size with h1 | h1
    · exact h1
    · simp [World.cell?, Array.getElem?_eq_none h1] at hv
  have HLT := hide hlt
  clear hv hev hlt
  have bad : parseU 10 s.data.toList = none → Calls Tryz.prog 170 #[.string s, .int .i64 10, .int .i64 32] w (fun e w' => e = .returned (uTup none) ∧ Below w.heap.size w w') → Calls Tryz.prog 149 #[.string s, .int .i64 10, .int .i64 32] w fun e w' => UOut (parseU 10 s.data.toList) e ∧ Below w.heap.size w w' := by
    intro hn hc
    have HN := hide hn
    have HC := hide hc
    clear hn hc
    go_enter Tryz.func149, Tryz.ntmps149
    go_wp2_with (first
      | (go_at_call 170; refine HC.out.mono ?_; rintro e w1 ⟨rfl, hb1⟩; rw [show uTup none = .tuple #[.int .u64 0, .iface 205 (.int .i64 2)] from rfl]; have HB1 := hide hb1; clear hb1)
      | (go_at_call 171; refine (Tryz.strconv_toError_syntax _ s 10 32 ev _ (Nat.le_trans HS.out (by decide)) ((HB1.out.cell (p := ⟨1, 0, none⟩) HLT.out).trans HV.out) HEV.out).mono ?_; rintro e w2 ⟨N, rfl, _, _, hb2⟩; have HB2 := hide (HB1.out.trans (hb2.mono HB1.out.size)); clear hb2))
    go_ret2
    rw [HN.out]
    exact ⟨⟨N, rfl⟩, HB2.out⟩
  by_cases h0 : s.size = 0
  · have he : s = ⟨#[]⟩ := ext_list (size0 h0).1
    have hp : parseU 10 s.data.toList = none := by unfold parseU; rw [if_pos (size0 h0).1]
    refine bad hp ?_
    rw [he]
    exact iempty10_any w
  · have hp : parseU 10 s.data.toList = parseB 10 0 s.data.toList := by unfold parseU; rw [if_neg (sizeP h0).1]
    have hc := iparse10_any s w hs h0
    cases hr : parseB 10 0 s.data.toList with
    | none => rw [hr] at hp hc; exact bad hp hc
    | some n =>
      rw [hr] at hp hc
      have HP := hide hp
      have HC := hide hc
      clear hp hc bad hr
      go_enter Tryz.func149, Tryz.ntmps149
      go_wp2_with (go_at_call 170; refine HC.out.mono ?_; rintro e w1 ⟨rfl, hb1⟩; rw [show uTup (some n) = .tuple #[.int .u64 n, .nilIface] from rfl]; have HB1 := hide hb1; clear hb1)
      go_ret2
      rw [HP.out]
      exact ⟨rfl, HB1.out⟩

theorem iempty16_any (w : World) : Calls Tryz.prog 170 #[.string ⟨#[]⟩, .int .i64 16, .int .i64 32] w (fun e w' => e = .returned (uTup none) ∧ Below w.heap.size w w') := by
  go_enter Tryz.func170, Tryz.ntmps170
  go_wp2_with fail
  go_ret2
  exact ⟨rfl, Below.refl _ _⟩
set_option maxHeartbeats 2000000 in
theorem parse16_any (s : ByteArray) (ev : Value) (w : World) (hs : s.size ≤ 8) (hv : w.cell? ⟨1, 0, none⟩ = some ev) (hev : ev = .nilIface ∨ ∃ te pe, ev = .iface te pe) :
    Calls Tryz.prog 149 #[.string s, .int .i64 16, .int .i64 32] w fun e w' => UOut (parseU 16 s.data.toList) e ∧ Below w.heap.size w w' := by
  have HV := hide hv
  have HEV := hide hev
  have HS := hide hs
  have hlt : 1 < w.heap.size := by
    rcases Nat.lt_or_ge 1 w.heap.size with h1 | h1
    · exact h1
    · simp [World.cell?, Array.getElem?_eq_none h1] at hv
  have HLT := hide hlt
  clear hv hev hlt
  have bad : parseU 16 s.data.toList = none → Calls Tryz.prog 170 #[.string s, .int .i64 16, .int .i64 32] w (fun e w' => e = .returned (uTup none) ∧ Below w.heap.size w w') → Calls Tryz.prog 149 #[.string s, .int .i64 16, .int .i64 32] w fun e w' => UOut (parseU 16 s.data.toList) e ∧ Below w.heap.size w w' := by
    intro hn hc
    have HN := hide hn
    have HC := hide hc
    clear hn hc
    go_enter Tryz.func149, Tryz.ntmps149
    go_wp2_with (first
      | (go_at_call 170; refine HC.out.mono ?_; rintro e w1 ⟨rfl, hb1⟩; rw [show uTup none = .tuple #[.int .u64 0, .iface 205 (.int .i64 2)] from rfl]; have HB1 := hide hb1; clear hb1)
      | (go_at_call 171; refine (Tryz.strconv_toError_syntax _ s 16 32 ev _ (Nat.le_trans HS.out (by decide)) ((HB1.out.cell (p := ⟨1, 0, none⟩) HLT.out).trans HV.out) HEV.out).mono ?_; rintro e w2 ⟨N, rfl, _, _, hb2⟩; have HB2 := hide (HB1.out.trans (hb2.mono HB1.out.size)); clear hb2))
    go_ret2
    rw [HN.out]
    exact ⟨⟨N, rfl⟩, HB2.out⟩
  by_cases h0 : s.size = 0
  · have he : s = ⟨#[]⟩ := ext_list (size0 h0).1
    have hp : parseU 16 s.data.toList = none := by unfold parseU; rw [if_pos (size0 h0).1]
    refine bad hp ?_
    rw [he]
    exact iempty16_any w
  · have hp : parseU 16 s.data.toList = parseB 16 0 s.data.toList := by unfold parseU; rw [if_neg (sizeP h0).1]
    have hc := iparse16_any s w hs h0
    cases hr : parseB 16 0 s.data.toList with
    | none => rw [hr] at hp hc; exact bad hp hc
    | some n =>
      rw [hr] at hp hc
      have HP := hide hp
      have HC := hide hc
      clear hp hc bad hr
      go_enter Tryz.func149, Tryz.ntmps149
      go_wp2_with (go_at_call 170; refine HC.out.mono ?_; rintro e w1 ⟨rfl, hb1⟩; rw [show uTup (some n) = .tuple #[.int .u64 n, .nilIface] from rfl]; have HB1 := hide hb1; clear hb1)
      go_ret2
      rw [HP.out]
      exact ⟨rfl, HB1.out⟩

end Go.Proofs.YtgokefodmjhhiaaGreatDoor

/- A map with texts as keys and runes as elements that the call makes: said by what it holds at each text. No statement is proved here. -/
namespace Go.Proofs.YtgokefodmjhhiaaGreatDoor
open Go.RowKit Go.Maps Go.WideShapes Go.WideMaps
set_option linter.unusedVariables false
set_option linter.unusedSimpArgs false
set_option maxRecDepth 100000
theorem keyedS : Keyed Tryz.prog 9 := string_keyed Tryz.underlying9
theorem zeroR (w : World) : (zeroValue 21).run Tryz.prog w = .ok (.int .i32 0) w := by kernel_rfl
/-- block b is a map of at most n entries, that holds f -/
def SMapN (w : World) (b n : Nat) (f : List UInt8 → Option Int) : Prop :=
  ∃ D : DataW Unit, w.ownsMap Tryz.prog 9 (plainElem Tryz.prog 21) b n D ∧ IsMap D ∧
    ∀ s : List UInt8, Maps.has D (.string s) = (f s).isSome ∧ D.atKey (.string s) (.lit (.int .i32 0)) = .lit (.int .i32 ((f s).getD 0))
theorem SMapN.made (w : World) : SMapN (w.alloc (.map #[] 0)) w.heap.size 0 (fun _ => none) :=
  ⟨_, World.ownsMap_made w Tryz.prog _ _, isMap_empty, fun s => ⟨rfl, rfl⟩⟩
theorem SMapN.kept {w w' : World} {b n : Nat} {f : List UInt8 → Option Int} (h : SMapN w b n f) (hb : Below w.heap.size w w') : SMapN w' b n f := by
  obtain ⟨D, h1, h2, h3⟩ := h
  exact ⟨D, h1.kept (row := none) ⟨hb.os, hb.tape, hb.output, hb.size, fun k hk _ => hb.block k hk⟩ (by simp), h2, h3⟩
theorem SMapN.drew {w : World} {b n : Nat} {f : List UInt8 → Option Int} (h : SMapN w b n f) : SMapN w.drew b n f := h
theorem SMapN.lt {w : World} {b n : Nat} {f : List UInt8 → Option Int} (h : SMapN w b n f) : b < w.heap.size := by
  obtain ⟨D, h1, _⟩ := h; exact h1.lt
/-- m[s] = c, of a literal -/
theorem wpList_sm_insert {ops : Array Oper} {rest : List Oper} {o : Oper} {a : Act} {Q : Exit → Act → World → Prop} {w : World} (hg : o.guard = none) (m x v : Operand) (hop : o.op = Op.insert 96 m x v)
    (w0 : World) (n : Nat) (f : List UInt8 → Option Int) (hm : a.eval m = .map (some w0.heap.size)) (h : SMapN w w0.heap.size n f ∧ Below w0.heap.size w0 w) (hn : n < maxLen) (s : ByteArray) (hs : s.size ≤ maxLen) (c : Int) (hc : (Lit.int .i32 c).wf = true)
    (hx : a.eval x = .string s) (hv : a.eval v = .int .i32 c)
    (hK : ∀ w', (SMapN w' w0.heap.size (n + 1) (fun y => if y = s.data.toList then some c else f y) ∧ Below w0.heap.size w0 w') → wpList Tryz.prog ops Q rest (a.put o.dst undef) w') : wpList Tryz.prog ops Q (o :: rest) a w := by
  obtain ⟨⟨D, h1, h2, h3⟩, hB⟩ := h
  obtain ⟨w', hrun, r1, r2⟩ := h1.update keyedS Tryz.underlying96 hn (keyOf_string_mk Tryz.underlying9 hs) (plainElem_int Tryz.underlying21 hc)
  refine wpList_plain hg fun K' hK' => ?_
  unfold Oper.wp
  simp [execOp, hop, hm, hx, hv, hrun, Result.andThen]
  refine hK' _ _ (hK w' ⟨⟨_, r1, h2.put _ _, fun y => ?_⟩, hB.grown r2 (Nat.le_of_lt h1.lt) (fun k hk => by cases hk; exact Nat.le_refl _)⟩)
  by_cases e : y = s.data.toList
  · subst e
    exact ⟨(has_put_same h2 (show WideAt.IsKeyLit (.string s.data.toList) from trivial) _).trans (by simp), (atKey_put_same h2 (show WideAt.IsKeyLit (.string s.data.toList) from trivial) _ _).trans (by simp)⟩
  · have hne : (Lit.string y) ≠ (Lit.string s.data.toList) := fun h => e (by injection h)
    obtain ⟨g1, g2⟩ := h3 y
    exact ⟨(has_put_other hne _).trans (by simp [g1, e]), (atKey_put_other hne _ _).trans (by simp [g2, e])⟩
/-- v, ok := m[s] -/
theorem wpList_sm_look {ops : Array Oper} {rest : List Oper} {o : Oper} {a : Act} {Q : Exit → Act → World → Prop} {w : World} (hg : o.guard = none) (m x : Operand) (hop : o.op = Op.lookup 96 m x true)
    (b n : Nat) (f : List UInt8 → Option Int) (hm : a.eval m = .map (some b)) (h : SMapN w b n f) (s : ByteArray) (hs : s.size ≤ maxLen) (hx : a.eval x = .string s)
    (hK : wpList Tryz.prog ops Q rest (a.put o.dst (.tuple #[.int .i32 ((f s.data.toList).getD 0), .bool (f s.data.toList).isSome])) w) : wpList Tryz.prog ops Q (o :: rest) a w := by
  obtain ⟨D, h1, h2, h3⟩ := h
  refine wpList_lookup_own_ok_int w hg m x 96 hop 9 21 .i32 keyedS Tryz.underlying96 Tryz.underlying21 (zeroR w) b n D hm h1 _ (.string s.data.toList) hx (keyOf_string_mk Tryz.underlying9 hs) (fun c hc _ => ?_)
  obtain ⟨g1, g2⟩ := h3 s.data.toList
  rw [g2] at hc
  injection hc with hc
  injection hc with _ hc
  rw [g1, ← hc]
  exact hK
end Go.Proofs.YtgokefodmjhhiaaGreatDoor

/- WALK of ent.signs: the map of names. No statement is proved here. -/
namespace Go.Proofs.YtgokefodmjhhiaaGreatDoor
open Go.RowKit
set_option linter.unusedVariables false
set_option linter.unusedSimpArgs false
set_option maxRecDepth 100000
def putN (f : List UInt8 → Option Int) (k : List UInt8) (c : Int) : List UInt8 → Option Int := fun y => if y = k then some c else f y
/-- the sign of a name -/
def nameN : List UInt8 → Option Int :=
  putN (putN (putN (putN (putN (putN (putN (putN (putN (putN (putN (putN (putN (putN (putN (putN (fun _ => none) [97, 109, 112] 38) [108, 116] 60) [103, 116] 62) [113, 117, 111, 116] 34) [97, 112, 111, 115] 39) [110, 98, 115, 112] 160) [99, 111, 112, 121] 169) [114, 101, 103] 174) [101, 117, 114, 111] 8364) [104, 101, 108, 108, 105, 112] 8230) [110, 100, 97, 115, 104] 8211) [109, 100, 97, 115, 104] 8212) [108, 115, 113, 117, 111] 8216) [114, 115, 113, 117, 111] 8217) [108, 100, 113, 117, 111] 8220) [114, 100, 113, 117, 111] 8221
set_option maxHeartbeats 2000000 in
theorem signs_any (w : World) : Calls Tryz.prog 89 #[] w fun e w' => e = .returned (.map (some w.heap.size)) ∧ SMapN w' w.heap.size 16 nameN ∧ Below w.heap.size w w' := by
  have hst : SMapN (w.alloc (.map #[] 0)) w.heap.size 0 (fun _ => none) ∧ Below w.heap.size w (w.alloc (.map #[] 0)) := ⟨SMapN.made w, (Below.refl _ w).alloc (Nat.le_refl _) _⟩
  have hmm := @run_makeMap Tryz.prog
  go_enter Tryz.func89, Tryz.ntmps89
  go_wp2_with (refine wpList_sm_insert rfl _ _ _ rfl w _ _ rfl hst (by decide) _ (by decide) _ (by decide) rfl rfl ?_; clear hst; intro w1 hst)
  go_ret
  exact ⟨rfl, hst.1, hst.2⟩
end Go.Proofs.YtgokefodmjhhiaaGreatDoor

/- strings.Trim of white. No statement is proved here. -/
namespace Go.Proofs.YtgokefodmjhhiaaGreatDoor
open Go.RowKit
set_option linter.unusedVariables false
set_option linter.unusedSimpArgs false

theorem trim_any (s : ByteArray) (w : World) (hs : s.size ≤ maxLen) :
    Calls Tryz.prog 223 #[.string s, .string ⟨#[32, 9, 10, 12, 13]⟩] w fun e w' => e = .returned (.string (str (Lib.trimS s.data.toList whiteSet))) ∧ Below w.heap.size w w' :=
  Any.strings_Trim_laid Tryz.lays160 (by kernel_rfl) s ⟨#[32, 9, 10, 12, 13]⟩ w (by unfold maxLen at hs; omega) (by decide) (ascii_of_all (by decide))
end Go.Proofs.YtgokefodmjhhiaaGreatDoor

/- utf8.AppendRune onto a row that the call owns, beside a text's iterator; strings.Trim of white. No statement is proved here. -/
namespace Go.Proofs.YtgokefodmjhhiaaGreatDoor
open Go.RowKit
set_option linter.unusedVariables false
set_option linter.unusedSimpArgs false

/-- what is no row of cells stays as it was -/
def IterKept (w w' : World) : Prop := ∀ (b : Nat) (s : ByteArray) (p : Nat), w.heap[b]? = some (Obj.stringIter s p) → w'.heap[b]? = some (Obj.stringIter s p)
theorem buf_not_iter {B : Nat} {v : Value} {l : List UInt8} {W0 w : World} (h : Buf B v l W0 w) {b : Nat} {s : ByteArray} {p : Nat} (hb : w.heap[b]? = some (Obj.stringIter s p)) : v.ownBlock ≠ some b := by
  rcases h.1.2 with ⟨rfl, _⟩ | ⟨g, cap, cur, rfl, _, hh, _⟩
  · simp [Value.ownBlock]
  · intro he
    have e : g = b := by simpa [Value.ownBlock] using he
    subst e
    rw [hh] at hb; cases hb
theorem iter_own {B : Nat} {v : Value} {l : List UInt8} {W0 w w' : World} (h : Buf B v l W0 w) (hg : w.grownBy w' v.ownBlock) : IterKept w w' := fun b s p hb =>
  (hg.block b (Array.getElem?_eq_some_iff.1 hb).1 (fun e => buf_not_iter h hb e.symm)).trans hb

theorem appendRune_any (B : Nat) (v : Value) (l : List UInt8) (W0 w : World) (hb : Buf B v l W0 w) (r : Int) (h0 : 0 ≤ r) (h1 : r ≤ 1114111) (hl : l.length ≤ 70368744177664) :
    Calls Tryz.prog 132 #[v, .int .i32 r] w fun e w' => ∃ v', e = .returned v' ∧ Buf B v' (l ++ runeL r) W0 w' ∧ IterKept w w' := by
  refine (Tryz.utf8_AppendRune_plain B v l.length (cellsOf l) r (by omega) (by omega) w hb.1 (by omega) hb.2.2).mono ?_
  rintro e w' ⟨v', rfl, ho, o, hg⟩
  have hb' := hb.alloc o
  refine ⟨v', rfl, hb'.grown (l' := l ++ runeL r) ?_ hg, fun b s p hx => iter_own hb' hg b s p ?_⟩
  · have e : Lib.runeCells r = cellsOf (runeL r) := (Lib.byteCells_encodeRune r).symm
    have e2 : (Lib.runeCells r).length = (runeL r).length := by rw [e, cellsOf_length]
    rw [e2, e] at ho
    rw [List.length_append, cellsOf, List.map_append]
    exact ho
  · exact (Below.heap_alloc w o b (Array.getElem?_eq_some_iff.1 hx).1).trans hx

theorem Buf.iterAt {B : Nat} {v : Value} {l : List UInt8} {W0 w : World} (h : Buf B v l W0 w) {k : Nat} {s : ByteArray} {p : Nat} (hk : w.heap[k]? = some (Obj.stringIter s p)) (hB : B ≤ k) (p' : Nat) : Buf B v l W0 (w.iterAt k s p') := by
  have hne := buf_not_iter h hk
  refine ⟨⟨h.1.1, ?_⟩, Lib.below_iterAt h.2.1 hB s p', by rw [Lib.iterAt_size]; exact h.2.2⟩
  rcases h.1.2 with ⟨rfl, h0⟩ | ⟨g, cap, cur, rfl, h1, h2, h3⟩
  · exact .inl ⟨rfl, h0⟩
  · refine .inr ⟨g, cap, cur, rfl, h1, ?_, h3⟩
    rw [Lib.iterAt_other _ _ _ _ _ (fun e => hne (by simp [Value.ownBlock, e]))]
    exact h2

end Go.Proofs.YtgokefodmjhhiaaGreatDoor

