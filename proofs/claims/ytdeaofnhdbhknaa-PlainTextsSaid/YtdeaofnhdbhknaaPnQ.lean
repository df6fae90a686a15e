/- The writer of plain texts, pure: its pages. No statement is proved here. Own work of the verifier. -/
import Derived.Test.YtdeaofnhdbhknaaPnP
namespace Go.Proofs.Ytdeaofnhdbhknaa
set_option linter.unusedVariables false
set_option linter.unusedSimpArgs false
set_option maxRecDepth 100000
/-! ### pages -/
/-- what is written: the lines that are ended, each with its level, and the line that is not -/
abbrev PgL := List LnL × List UInt8
def putC (p : PgL) (c : UInt8) : PgL := if c = 10 then (p.1 ++ [(0, p.2)], []) else (p.1, p.2 ++ [c])
def putS (p : PgL) (s : List UInt8) : PgL := s.foldl putC p
def signs (n : Nat) : List UInt8 := (List.replicate n [(62 : UInt8), 32]).flatten
def lineS (x : LnL) : List UInt8 := signs x.1 ++ x.2
def render (p : PgL) : List UInt8 := (p.1.flatMap fun x => lineS x ++ [10]) ++ p.2
def place (p : PgL) : Nat × Nat := (p.1.length, p.2.length)
/-- no line has a line feed in it -/
def PgOK (p : PgL) : Prop := (∀ x ∈ p.1, (10 : UInt8) ∉ x.2) ∧ (10 : UInt8) ∉ p.2
theorem PgOK.nil : PgOK ([], []) := ⟨fun x hx => (by cases hx), fun e => (by cases e)⟩
theorem signs_zero : signs 0 = [] := rfl
theorem signs_succ (n : Nat) : signs (n + 1) = 62 :: 32 :: signs n := by unfold signs; rw [List.replicate_succ]; rfl
theorem signs_len (n : Nat) : (signs n).length = 2 * n := by induction n with
  | zero => rfl
  | succ n ih => rw [signs_succ, List.length_cons, List.length_cons, ih]; omega
theorem signs_lf (n : Nat) : (10 : UInt8) ∉ signs n := by induction n with
  | zero => exact fun h => by cases h
  | succ n ih => rw [signs_succ]; intro h; rcases List.mem_cons.1 h with h | h
                 · cases h
                 · rcases List.mem_cons.1 h with h | h
                   · cases h
                   · exact ih h
theorem lineS_lf {x : LnL} (h : (10 : UInt8) ∉ x.2) : (10 : UInt8) ∉ lineS x := by
  unfold lineS; rw [List.mem_append]; exact fun e => e.elim (signs_lf _) h
theorem render_putC (p : PgL) (c : UInt8) : render (putC p c) = render p ++ [c] := by
  unfold putC render
  split
  · rename_i h; subst h
    simp [lineS, signs_zero, List.flatMap_append]
  · simp
theorem putS_cons (p : PgL) (c : UInt8) (s : List UInt8) : putS p (c :: s) = putS (putC p c) s := rfl
theorem putS_nil (p : PgL) : putS p [] = p := rfl
theorem putS_append (p : PgL) (a b : List UInt8) : putS p (a ++ b) = putS (putS p a) b := by unfold putS; rw [List.foldl_append]
theorem render_putS (p : PgL) (s : List UInt8) : render (putS p s) = render p ++ s := by
  induction s generalizing p with
  | nil => rw [putS_nil, List.append_nil]
  | cons c r ih => rw [putS_cons, ih, render_putC, List.append_assoc]; rfl
theorem putC_ok {p : PgL} (h : PgOK p) (c : UInt8) : PgOK (putC p c) := by
  unfold putC
  split
  · refine ⟨fun x hx => ?_, fun e => by cases e⟩
    rcases List.mem_append.1 hx with hx | hx
    · exact h.1 x hx
    · obtain rfl := List.mem_singleton.1 hx; exact h.2
  · rename_i hc
    refine ⟨h.1, fun e => ?_⟩
    rcases List.mem_append.1 e with e | e
    · exact h.2 e
    · exact hc (List.mem_singleton.1 e).symm
theorem putS_ok {p : PgL} (h : PgOK p) (s : List UInt8) : PgOK (putS p s) := by
  induction s generalizing p with
  | nil => exact h
  | cons c r ih => exact ih (putC_ok h c)
/-- a text without a line feed -/
theorem putS_line (p : PgL) (a : List UInt8) (h : (10 : UInt8) ∉ a) : putS p a = (p.1, p.2 ++ a) := by
  induction a generalizing p with
  | nil => rw [putS_nil, List.append_nil]
  | cons c r ih =>
    have hc : c ≠ 10 := fun e => h (by rw [e]; exact List.mem_cons_self ..)
    rw [putS_cons, ih _ (fun e => h (List.mem_cons_of_mem _ e))]
    unfold putC
    rw [if_neg hc]; simp
theorem putS_lf (p : PgL) (a r : List UInt8) (h : (10 : UInt8) ∉ a) : putS p (a ++ 10 :: r) = putS (p.1 ++ [(0, p.2 ++ a)], []) r := by
  rw [putS_append, putS_line p a h, putS_cons]
  unfold putC
  rw [if_pos rfl]
/-- a place behind another one -/
def behindP (a b : Nat × Nat) : Prop := a.1 < b.1 ∨ (a.1 = b.1 ∧ a.2 < b.2)
theorem behindP.trans {a b c : Nat × Nat} (h : behindP a b) (k : behindP b c) : behindP a c := by unfold behindP at *; omega
theorem behindP.ne {a b : Nat × Nat} (h : behindP a b) : b ≠ a := by rintro rfl; unfold behindP at h; omega
theorem putC_place (p : PgL) (c : UInt8) : behindP (place p) (place (putC p c)) := by
  unfold putC place behindP; split <;> simp
theorem putS_place (p : PgL) (s : List UInt8) (h : s ≠ []) : behindP (place p) (place (putS p s)) := by
  induction s generalizing p with
  | nil => exact absurd rfl h
  | cons c r ih =>
    rw [putS_cons]
    by_cases hr : r = []
    · subst hr; exact putC_place p c
    · exact (putC_place p c).trans (ih _ hr)
/-- a line is put at a page's end -/
def addP (p : PgL) (x : LnL) : PgL := if p.2 = [] then (p.1 ++ [x], []) else putS p (lineS x ++ [10])
theorem addP_render (p : PgL) (x : LnL) : render (addP p x) = render p ++ (lineS x ++ [10]) := by
  unfold addP
  split
  · rename_i h; unfold render; simp [h, List.flatMap_append]
  · exact render_putS _ _
theorem addP_ok {p : PgL} (h : PgOK p) {x : LnL} (hx : (10 : UInt8) ∉ x.2) : PgOK (addP p x) := by
  unfold addP
  split
  · refine ⟨fun y hy => ?_, fun e => by cases e⟩
    rcases List.mem_append.1 hy with hy | hy
    · exact h.1 y hy
    · obtain rfl := List.mem_singleton.1 hy; exact hx
  · exact putS_ok h _
theorem addP_place (p : PgL) (x : LnL) : behindP (place p) (place (addP p x)) := by
  unfold addP
  split
  · unfold place behindP; simp
  · exact putS_place _ _ (by simp)
theorem addP_lines {p : PgL} {x : LnL} (hx : (10 : UInt8) ∉ x.2) : (addP p x).1.length = p.1.length + 1 := by
  unfold addP
  split
  · simp
  · rw [putS_lf _ _ _ (lineS_lf hx)]; simp [putS_nil]
def quoteOne (p : PgL) (x : LnL) : PgL := addP p (x.1 + 1, trimCR x.2)
/-- the lines of a quote's page are put at a page's end -/
def quoteP (p q : PgL) : PgL := if q.2 = [] then q.1.foldl quoteOne p else addP (q.1.foldl quoteOne p) (1, q.2)
def quotedL (L : List (List UInt8)) : List UInt8 := L.flatMap fun x => 62 :: 32 :: (x ++ [10])
theorem trimCR_le (l : List UInt8) : (trimCR l).length ≤ l.length := by unfold trimCR; split <;> simp
theorem trim_lineS (x : LnL) : trimCR (lineS x) = lineS (x.1, trimCR x.2) := by
  obtain ⟨n, s⟩ := x
  unfold lineS trimCR
  simp only
  rcases List.eq_nil_or_concat s with rfl | ⟨r, c, rfl⟩
  · simp only [List.append_nil, List.getLast?_nil, reduceCtorEq, if_false]
    rcases Nat.eq_zero_or_pos n with rfl | hn
    · rfl
    · obtain ⟨m, rfl⟩ : ∃ m, n = m + 1 := ⟨n - 1, by omega⟩
      have e : signs (m + 1) = signs m ++ [62, 32] := by
        unfold signs; rw [List.replicate_succ', List.flatten_append]; rfl
      rw [e, if_neg]
      simp
  · rw [List.concat_eq_append, ← List.append_assoc, List.getLast?_concat, List.getLast?_concat]
    split
    · rw [List.dropLast_concat, List.dropLast_concat]
    · rw [List.append_assoc]
/-- the lines of what is written -/
theorem cut_line (a r : List UInt8) (h : (10 : UInt8) ∉ a) : cutL (a ++ 10 :: r) = trimCR a :: cutL r := by
  obtain ⟨h1, h2⟩ := cut_here 10 a r h
  rw [cutL_cons (by simp), h2]
  unfold lineL
  rw [hasC_true (by simp), if_pos rfl, h1]
theorem cut_last (a : List UInt8) (h : (10 : UInt8) ∉ a) : cutL a = if a = [] then [] else [a] := by
  split
  · rename_i e; rw [e, cutL_nil]
  · rename_i e
    obtain ⟨h1, h2⟩ := cut_none 10 a h
    rw [cutL_cons e, h2, cutL_nil]
    unfold lineL
    rw [hasC_false h]; rfl
theorem cut_render (p : PgL) (h : PgOK p) : cutL (render p) = (p.1.map fun x => lineS (x.1, trimCR x.2)) ++ (if p.2 = [] then [] else [p.2]) := by
  obtain ⟨l, s⟩ := p
  unfold render
  simp only
  induction l with
  | nil => rw [List.flatMap_nil, List.nil_append, cut_last s h.2]; rfl
  | cons x r ih =>
    have h1 : (10 : UInt8) ∉ lineS x := lineS_lf (h.1 x (List.mem_cons_self ..))
    rw [List.flatMap_cons, List.append_assoc, List.append_assoc, List.singleton_append, cut_line _ _ h1, ih ⟨fun y hy => h.1 y (List.mem_cons_of_mem _ hy), h.2⟩, trim_lineS]
    rfl
theorem quotedL_append (a b : List (List UInt8)) : quotedL (a ++ b) = quotedL a ++ quotedL b := by unfold quotedL; rw [List.flatMap_append]
theorem fold_render (l : List LnL) (p : PgL) : render (l.foldl quoteOne p) = render p ++ quotedL (l.map fun x => lineS (x.1, trimCR x.2)) := by
  induction l generalizing p with
  | nil => simp [quotedL]
  | cons x r ih =>
    rw [List.foldl_cons, ih]
    unfold quoteOne
    rw [addP_render]
    simp [quotedL, lineS, signs_succ]
theorem quoteP_render (p q : PgL) (hq : PgOK q) : render (quoteP p q) = render p ++ quotedL (cutL (render q)) := by
  rw [cut_render q hq]
  unfold quoteP
  split
  · rename_i h
    rw [fold_render, List.append_nil]
  · rename_i h
    rw [addP_render, fold_render, quotedL_append, List.append_assoc]
    simp [quotedL, lineS, signs_succ, signs_zero]
theorem trimCR_lf {s : List UInt8} (h : (10 : UInt8) ∉ s) : (10 : UInt8) ∉ trimCR s := fun e => h (trimCR_sub _ _ e)
theorem foldQ_ok (l : List LnL) (hl : ∀ x ∈ l, (10 : UInt8) ∉ x.2) (p : PgL) (h : PgOK p) : PgOK (l.foldl quoteOne p) := by
  induction l generalizing p with
  | nil => exact h
  | cons x r ih => exact ih (fun y hy => hl y (List.mem_cons_of_mem _ hy)) _ (addP_ok h (trimCR_lf (hl x (List.mem_cons_self ..))))
theorem quoteP_ok {p q : PgL} (h : PgOK p) (hq : PgOK q) : PgOK (quoteP p q) := by
  unfold quoteP
  split
  · exact foldQ_ok _ hq.1 _ h
  · exact addP_ok (foldQ_ok _ hq.1 _ h) hq.2
theorem fold_place (l : List LnL) (p : PgL) : l.foldl quoteOne p = p ∧ l = [] ∨ behindP (place p) (place (l.foldl quoteOne p)) := by
  induction l generalizing p with
  | nil => exact .inl ⟨rfl, rfl⟩
  | cons x r ih =>
    refine .inr ?_
    rw [List.foldl_cons]
    rcases ih (quoteOne p x) with ⟨h, _⟩ | h
    · rw [h]; exact addP_place _ _
    · exact (addP_place _ _).trans h
theorem quoteP_place (p q : PgL) : (quoteP p q = p ∧ q = ([], [])) ∨ behindP (place p) (place (quoteP p q)) := by
  obtain ⟨l, s⟩ := q
  unfold quoteP
  simp only
  rcases fold_place l p with ⟨h, rfl⟩ | h
  · split
    · rename_i hs; exact .inl ⟨h, by rw [hs]⟩
    · rw [h]; exact .inr (addP_place _ _)
  · split
    · exact .inr h
    · exact .inr (h.trans (addP_place _ _))
theorem fold_lines (l : List LnL) (hl : ∀ x ∈ l, (10 : UInt8) ∉ x.2) (p : PgL) : (l.foldl quoteOne p).1.length = p.1.length + l.length := by
  induction l generalizing p with
  | nil => rfl
  | cons x r ih =>
    rw [List.foldl_cons, ih (fun y hy => hl y (List.mem_cons_of_mem _ hy))]
    unfold quoteOne
    rw [addP_lines (trimCR_lf (hl x (List.mem_cons_self ..)))]; simp; omega
theorem quoteP_lines (p q : PgL) (hq : PgOK q) : (quoteP p q).1.length ≤ p.1.length + q.1.length + 1 := by
  unfold quoteP
  split
  · rw [fold_lines _ hq.1]; omega
  · rw [addP_lines hq.2, fold_lines _ hq.1]; exact Nat.le_refl _
theorem putC_lines (p : PgL) (c : UInt8) : (putC p c).1.length ≤ p.1.length + 1 := by unfold putC; split <;> simp
theorem putS_lines (p : PgL) (s : List UInt8) : (putS p s).1.length ≤ p.1.length + s.length := by
  induction s generalizing p with
  | nil => exact Nat.le_refl _
  | cons c r ih => rw [putS_cons, List.length_cons]; have := ih (putC p c); have := putC_lines p c; omega
theorem cutR_count (q : PgL) (hq : PgOK q) : (cutL (render q)).length ≤ q.1.length + 1 := by
  rw [cut_render q hq, List.length_append, List.length_map]; split <;> simp
theorem quotedL_len (L : List (List UInt8)) : (quotedL L).length = (L.flatMap id).length + 3 * L.length := by
  induction L with
  | nil => rfl
  | cons x r ih => unfold quotedL at *; rw [List.flatMap_cons, List.length_append, ih, List.flatMap_cons]; simp; omega
theorem flat_trim (l : List LnL) : ((l.map fun x => lineS (x.1, trimCR x.2)).flatMap id).length + l.length ≤ (l.flatMap fun x => lineS x ++ [10]).length := by
  induction l with
  | nil => exact Nat.le_refl _
  | cons x r ih =>
    have h := trimCR_le x.2
    rw [List.map_cons, List.flatMap_cons, List.flatMap_cons]
    simp only [id_eq, List.length_append, List.length_cons, List.length_nil, lineS]
    simp only [lineS, List.length_append, List.length_cons] at ih
    omega
theorem quoted_len (q : PgL) (hq : PgOK q) : (quotedL (cutL (render q))).length ≤ (render q).length + 2 * q.1.length + 3 := by
  rw [quotedL_len, cut_render q hq, List.flatMap_append, List.length_append, List.length_append, List.length_map]
  have h := flat_trim q.1
  unfold render
  rw [List.length_append]
  split
  · rw [List.flatMap_nil, List.length_nil, List.length_nil]; omega
  · rw [show List.flatMap id [q.2] = q.2 from by simp, List.length_singleton]; omega
end Go.Proofs.Ytdeaofnhdbhknaa
