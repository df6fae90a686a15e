/- What package lines computes, as functions on lists of bytes, and facts on them. No statement is proved here. -/
import Derived.Test.YtcndklegoadjcaaDoorWordP
import Derived.Test.YtcndklegoadjcaaDoorWithin
import Derived.Lib.SlTrimSet
namespace Go.Proofs.YtcndklegoadjcaaDoor
set_option linter.unusedVariables false
set_option linter.unusedSimpArgs false

/-! ### lines -/
def trimCR (l : List UInt8) : List UInt8 := if l.getLast? = some 13 then l.dropLast else l
/-- the first line, without its end -/
def lineL (l : List UInt8) : List UInt8 := if hasC 10 l then trimCR (beforeC 10 l) else l
theorem afterC_lt (c : UInt8) {l : List UInt8} (h : l ≠ []) : (afterC c l).length < l.length := by
  unfold afterC
  have := (List.dropWhile_sublist (l := l) fun x => x != c).length_le
  have h2 := List.length_pos_iff.2 h
  rw [List.length_drop]; omega
def cutL (l : List UInt8) : List (List UInt8) := if h : l = [] then [] else lineL l :: cutL (afterC 10 l)
termination_by l.length
decreasing_by exact afterC_lt 10 h
theorem cutL_nil : cutL [] = [] := by rw [cutL]; simp
theorem cutL_cons {l : List UInt8} (h : l ≠ []) : cutL l = lineL l :: cutL (afterC 10 l) := by rw [cutL, dif_neg h]
theorem trimCR_sub (l : List UInt8) : ∀ c ∈ trimCR l, c ∈ l := by
  intro c hc
  unfold trimCR at hc
  split at hc
  · exact (List.dropLast_sublist l).subset hc
  · exact hc
theorem trimCR_end (l : List UInt8) : trimCR (l ++ [13]) = l := by
  unfold trimCR; rw [List.getLast?_concat, if_pos rfl, List.dropLast_concat]
theorem beforeC_not (c : UInt8) (l : List UInt8) : c ∉ beforeC c l := by
  rcases cut_case c l with ⟨h, e, _⟩ | ⟨a, r, _, h, e, _⟩
  · rw [e]; exact h
  · rw [e]; exact h
/-- lines have no line feed in them -/
theorem lineL_lf (l : List UInt8) : (10 : UInt8) ∉ lineL l := by
  unfold lineL
  by_cases h : (10 : UInt8) ∈ l
  · rw [hasC_true h, if_pos rfl]
    exact fun hm => beforeC_not 10 l (trimCR_sub _ _ hm)
  · rw [hasC_false h, if_neg (by decide)]; exact h
theorem cutL_lf (l : List UInt8) : ∀ x ∈ cutL l, (10 : UInt8) ∉ x := by
  refine list_ind (p := fun l => ∀ x ∈ cutL l, (10 : UInt8) ∉ x) ?_ l
  intro l ih x hx
  by_cases h : l = []
  · subst h; rw [cutL_nil] at hx; cases hx
  · rw [cutL_cons h] at hx
    rcases List.mem_cons.1 hx with rfl | hx
    · exact lineL_lf l
    · exact ih _ (afterC_lt 10 h) x hx
/-- a line with its end is that line -/
theorem line_of (x r : List UInt8) (h : (10 : UInt8) ∉ x) : lineL (x ++ 13 :: 10 :: r) = x ∧ afterC 10 (x ++ 13 :: 10 :: r) = r := by
  have h2 : (10 : UInt8) ∉ x ++ [13] := by simp [h]
  have e : x ++ 13 :: 10 :: r = (x ++ [13]) ++ 10 :: r := by simp
  obtain ⟨c1, c2⟩ := cut_here 10 (x ++ [13]) r h2
  rw [e]
  refine ⟨?_, c2⟩
  unfold lineL
  rw [hasC_true (by simp), if_pos rfl, c1, trimCR_end]
/-- lines, each with its end -/
def endsL (L : List (List UInt8)) : List UInt8 := L.flatMap fun x => x ++ [13, 10]
theorem cut_ends (L : List (List UInt8)) (h : ∀ x ∈ L, (10 : UInt8) ∉ x) : cutL (endsL L) = L := by
  induction L with
  | nil => exact cutL_nil
  | cons x r ih =>
    have e : endsL (x :: r) = x ++ 13 :: 10 :: endsL r := by simp [endsL]
    obtain ⟨h1, h2⟩ := line_of x (endsL r) (h x (List.mem_cons_self ..))
    rw [e, cutL_cons (by simp), h1, h2, ih (fun y hy => h y (List.mem_cons_of_mem _ hy))]

/-! ### fields -/
def wsT (c : UInt8) : Bool := c == 32 || c == 9
def nameB (l : List UInt8) : Bool := !l.isEmpty && (withinB 33 126 l && !hasC 58 l)
def trimT (l : List UInt8) : List UInt8 := Lib.trimS l [32, 9]
def crlfB (l : List UInt8) : Bool := l.any fun c => [13, 10].contains c
def valueB (l : List UInt8) : Bool := !crlfB l && trimT l == l
def fieldL (l : List UInt8) : Option (List UInt8 × List UInt8) :=
  if hasC 58 l && nameB (Lib.trimRightS (beforeC 58 l) [32, 9]) then some (Lib.trimRightS (beforeC 58 l) [32, 9], afterC 58 l) else none
def putLast (acc : List (List UInt8 × List UInt8)) (x : List UInt8) : List (List UInt8 × List UInt8) :=
  match acc.getLast? with
  | some f => acc.dropLast ++ [(f.1, f.2 ++ x)]
  | none => acc
/-- the fields, their values as they stand in their lines; what is behind the header -/
def headR (acc : List (List UInt8 × List UInt8)) (op : Bool) (l : List UInt8) : List (List UInt8 × List UInt8) × List UInt8 :=
  if h : l = [] then (acc, [])
  else if lineL l = [] then (acc, afterC 10 l)
  else if wsT ((lineL l).getD 0 0) then headR (if op then putLast acc (lineL l) else acc) op (afterC 10 l)
  else if (fieldL (lineL l)).isSome && decide (acc.length < 500) then headR (acc ++ [(fieldL (lineL l)).getD ([], [])]) true (afterC 10 l)
  else headR acc false (afterC 10 l)
termination_by l.length
decreasing_by all_goals exact afterC_lt 10 h
def headL (l : List UInt8) : List (List UInt8 × List UInt8) × List UInt8 := ((headR [] false l).1.map fun f => (f.1, trimT f.2), (headR [] false l).2)
def getL (l : List (List UInt8 × List UInt8)) (n : List UInt8) : Option (List UInt8) := (l.find? fun f => lowL f.1 == lowL n).map (·.2)
def writeL (l : List (List UInt8 × List UInt8)) (body : List UInt8) : List UInt8 := (l.flatMap fun f => f.1 ++ [58, 32] ++ f.2 ++ [13, 10]) ++ [13, 10] ++ body
/-- what Write answers: a text and an error's number -/
def writeO (l : List (List UInt8 × List UInt8)) (body : List UInt8) : List UInt8 × Int :=
  if l.all (fun f => nameB f.1 && valueB f.2) then (if 500 < l.length then ([], 3) else (writeL l body, 0)) else ([], 1)
end Go.Proofs.YtcndklegoadjcaaDoor
