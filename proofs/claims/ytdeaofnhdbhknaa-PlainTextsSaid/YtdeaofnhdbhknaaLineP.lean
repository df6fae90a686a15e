/- A text in its lines: split off XLinesP and XLinesE, so that a seat without word fills. No statement is proved here. Own work of the verifier. -/
import Derived.Test.YtdeaofnhdbhknaaCutP
namespace Go.Proofs.Ytdeaofnhdbhknaa
set_option linter.unusedVariables false
set_option linter.unusedSimpArgs false

def trimCR (l : List UInt8) : List UInt8 := if l.getLast? = some 13 then l.dropLast else l
/-- the first line, without its end -/
def lineL (l : List UInt8) : List UInt8 := if hasC 10 l then trimCR (beforeC 10 l) else l
theorem afterC_lt (c : UInt8) {l : List UInt8} (h : l ≠ []) : (afterC c l).length < l.length := by
  unfold afterC
  have := (List.dropWhile_sublist (l := l) fun x => x != c).length_le
  have h2 := List.length_pos_iff.2 h
  rw [List.length_drop]; omega
def cutL (l : List UInt8) : List (List UInt8) := if h : l = [] then [] else lineL l :: cutL (afterC 10 l)
termination_by l.length
decreasing_by exact afterC_lt 10 h
theorem cutL_nil : cutL [] = [] := by rw [cutL]; simp
theorem cutL_cons {l : List UInt8} (h : l ≠ []) : cutL l = lineL l :: cutL (afterC 10 l) := by rw [cutL, dif_neg h]
theorem trimCR_sub (l : List UInt8) : ∀ c ∈ trimCR l, c ∈ l := by
  intro c hc
  unfold trimCR at hc
  split at hc
  · exact (List.dropLast_sublist l).subset hc
  · exact hc
theorem trimCR_end (l : List UInt8) : trimCR (l ++ [13]) = l := by
  unfold trimCR; rw [List.getLast?_concat, if_pos rfl, List.dropLast_concat]
theorem beforeC_not (c : UInt8) (l : List UInt8) : c ∉ beforeC c l := by
  rcases cut_case c l with ⟨h, e, _⟩ | ⟨a, r, _, h, e, _⟩
  · rw [e]; exact h
  · rw [e]; exact h
/-- lines have no line feed in them -/
theorem lineL_lf (l : List UInt8) : (10 : UInt8) ∉ lineL l := by
  unfold lineL
  by_cases h : (10 : UInt8) ∈ l
  · rw [hasC_true h, if_pos rfl]
    exact fun hm => beforeC_not 10 l (trimCR_sub _ _ hm)
  · rw [hasC_false h, if_neg (by decide)]; exact h
theorem cutL_lf (l : List UInt8) : ∀ x ∈ cutL l, (10 : UInt8) ∉ x := by
  refine list_ind (p := fun l => ∀ x ∈ cutL l, (10 : UInt8) ∉ x) ?_ l
  intro l ih x hx
  by_cases h : l = []
  · subst h; rw [cutL_nil] at hx; cases hx
  · rw [cutL_cons h] at hx
    rcases List.mem_cons.1 hx with rfl | hx
    · exact lineL_lf l
    · exact ih _ (afterC_lt 10 h) x hx
/-- a line with its end is that line -/
theorem line_of (x r : List UInt8) (h : (10 : UInt8) ∉ x) : lineL (x ++ 13 :: 10 :: r) = x ∧ afterC 10 (x ++ 13 :: 10 :: r) = r := by
  have h2 : (10 : UInt8) ∉ x ++ [13] := by simp [h]
  have e : x ++ 13 :: 10 :: r = (x ++ [13]) ++ 10 :: r := by simp
  obtain ⟨c1, c2⟩ := cut_here 10 (x ++ [13]) r h2
  rw [e]
  refine ⟨?_, c2⟩
  unfold lineL
  rw [hasC_true (by simp), if_pos rfl, c1, trimCR_end]
/-- lines, each with its end -/
def endsL (L : List (List UInt8)) : List UInt8 := L.flatMap fun x => x ++ [13, 10]
theorem cut_ends (L : List (List UInt8)) (h : ∀ x ∈ L, (10 : UInt8) ∉ x) : cutL (endsL L) = L := by
  induction L with
  | nil => exact cutL_nil
  | cons x r ih =>
    have e : endsL (x :: r) = x ++ 13 :: 10 :: endsL r := by simp [endsL]
    obtain ⟨h1, h2⟩ := line_of x (endsL r) (h x (List.mem_cons_self ..))
    rw [e, cutL_cons (by simp), h1, h2, ih (fun y hy => h y (List.mem_cons_of_mem _ hy))]

abbrev FieldL := List UInt8 × List UInt8
/-- the lines, each with what is behind its end -/
def eachL (l : List UInt8) : List FieldL := if h : l = [] then [] else (lineL l, afterC 10 l) :: eachL (afterC 10 l)
termination_by l.length
decreasing_by exact afterC_lt 10 h
theorem eachL_nil : eachL [] = [] := by rw [eachL]; simp
theorem eachL_cons {l : List UInt8} (h : l ≠ []) : eachL l = (lineL l, afterC 10 l) :: eachL (afterC 10 l) := by rw [eachL, dif_neg h]
theorem each_cut (l : List UInt8) : (eachL l).map (·.1) = cutL l := by
  refine list_ind (p := fun l => (eachL l).map (·.1) = cutL l) ?_ l
  intro l ih
  by_cases h : l = []
  · subst h; rw [eachL_nil, cutL_nil]; rfl
  · rw [eachL_cons h, cutL_cons h, List.map_cons, ih _ (afterC_lt 10 h)]
theorem trimCR_length (l : List UInt8) : (trimCR l).length ≤ l.length := by
  unfold trimCR; split
  · rw [List.length_dropLast]; omega
  · exact Nat.le_refl _
theorem line_after {l : List UInt8} (h : l ≠ []) : (lineL l).length + (afterC 10 l).length ≤ l.length := by
  unfold lineL
  rcases cut_case 10 l with ⟨h1, e1, e2⟩ | ⟨a, r, e0, h1, e1, e2⟩
  · rw [hasC_false h1, if_neg (by decide), e2]; simp
  · rw [hasC_true (by rw [e0]; simp), if_pos rfl, e1, e2]
    have := trimCR_length a
    rw [e0]; simp; omega
def lsum (L : List FieldL) : Nat := (L.map fun p => p.1.length).sum
theorem each_sum (l : List UInt8) : lsum (eachL l) ≤ l.length ∧ (eachL l).length ≤ l.length ∧ ∀ p ∈ eachL l, p.1.length ≤ l.length ∧ p.2.length ≤ l.length := by
  refine list_ind (p := fun l => lsum (eachL l) ≤ l.length ∧ (eachL l).length ≤ l.length ∧ ∀ p ∈ eachL l, p.1.length ≤ l.length ∧ p.2.length ≤ l.length) ?_ l
  intro l ih
  by_cases h : l = []
  · subst h; rw [eachL_nil]; exact ⟨Nat.le_refl _, Nat.le_refl _, fun p hp => by cases hp⟩
  · obtain ⟨i1, i2, i3⟩ := ih _ (afterC_lt 10 h)
    have h1 := line_after h
    have h2 := afterC_lt 10 h
    rw [eachL_cons h]
    refine ⟨by unfold lsum at *; rw [List.map_cons, List.sum_cons]; show (lineL l).length + _ ≤ _; omega, by rw [List.length_cons]; omega, fun p hp => ?_⟩
    rcases List.mem_cons.1 hp with rfl | hp
    · exact ⟨by show (lineL l).length ≤ _; omega, by show (afterC 10 l).length ≤ _; omega⟩
    · have := i3 p hp; exact ⟨by omega, by omega⟩
end Go.Proofs.Ytdeaofnhdbhknaa
