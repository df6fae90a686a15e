/- Facts on what package lines computes: what is written is read; what is read may be written. No statement is proved here. -/
import Derived.Test.YtcndklegoadjcaaDoorRef06
namespace Go.Proofs.YtcndklegoadjcaaDoor
open Go.RowKit
set_option linter.unusedVariables false
set_option linter.unusedSimpArgs false
abbrev FieldL := List UInt8 × List UInt8

theorem name_ne {n : List UInt8} (h : nameB n = true) : n ≠ [] := by
  rintro rfl; exact absurd h (by decide)
theorem nm_not (x c : UInt8) (hx : nmB x = false) (h : nmB c = true) : c ≠ x := by rintro rfl; rw [hx] at h; cases h
theorem name_all' {n : List UInt8} (h : nameB n = true) : ∀ c ∈ n, nmB c = true := by
  rw [name_all] at h
  simp only [Bool.and_eq_true] at h
  exact fun c hc => List.all_eq_true.1 h.2 c hc
theorem name_not {n : List UInt8} (h : nameB n = true) (x : UInt8) (hx : nmB x = false) : x ∉ n := fun hm => nm_not x x hx (name_all' h x hm) rfl
theorem nm_ws (c : UInt8) (h : nmB c = true) : wsT c = false := by
  have h1 : c ≠ 32 := nm_not 32 c (by decide) h
  have h2 : c ≠ 9 := nm_not 9 c (by decide) h
  unfold wsT
  rw [beq_eq_false_iff_ne.2 h1, beq_eq_false_iff_ne.2 h2]; rfl
theorem rightT_eq (l : List UInt8) : Lib.trimRightS l [32, 9] = rightT l := by
  have e : (fun x => [(32 : UInt8), 9].contains x) = wsT := funext ws_contains
  unfold Lib.trimRightS rightT; rw [e]
/-- a text whose last byte is no white keeps its end -/
theorem rightT_keep (l : List UInt8) (h : ∀ c ∈ l, wsT c = false) : rightT l = l := by
  rcases List.eq_nil_or_concat l with rfl | ⟨r, c, rfl⟩
  · rfl
  · rw [List.concat_eq_append] at *
    exact right_no (h c (by simp))
theorem rightT_sub (l : List UInt8) : ∀ c ∈ rightT l, c ∈ l := by
  intro c hc
  unfold rightT at hc
  rw [List.mem_reverse] at hc
  exact List.mem_reverse.1 ((List.dropWhile_sublist (l := l.reverse) wsT).subset hc)
theorem leftT_sub (l : List UInt8) : ∀ c ∈ leftT l, c ∈ l := fun c hc => (List.dropWhile_sublist (l := l) wsT).subset hc
theorem trimT_sub (l : List UInt8) : ∀ c ∈ trimT l, c ∈ l := by
  intro c hc; rw [trimT_lr] at hc; exact leftT_sub l c (rightT_sub _ c hc)
theorem trimT_length (l : List UInt8) : (trimT l).length ≤ l.length := by
  rw [trimT_lr]; unfold rightT leftT
  rw [List.length_reverse]
  have h1 := (List.dropWhile_sublist (l := (l.dropWhile wsT).reverse) wsT).length_le
  have h2 := (List.dropWhile_sublist (l := l) wsT).length_le
  rw [List.length_reverse] at h1; omega
theorem leftT_idem (l : List UInt8) : leftT (leftT l) = leftT l := by
  induction l with
  | nil => rfl
  | cons c r ih =>
    cases h : wsT c with
    | true => rw [left_yes h]; exact ih
    | false => rw [left_no h, left_no h]
theorem rightT_rev (l : List UInt8) : rightT l = (leftT l.reverse).reverse := rfl
theorem rightT_idem (l : List UInt8) : rightT (rightT l) = rightT l := by
  rw [rightT_rev, rightT_rev, List.reverse_reverse, leftT_idem]
theorem trimT_rl (l : List UInt8) : trimT l = leftT (rightT l) := by
  have e : (fun x => [(32 : UInt8), 9].contains x) = wsT := funext ws_contains
  unfold trimT Lib.trimS Lib.trimLeftS Lib.trimRightS rightT leftT
  rw [e]
theorem trimT_idem (l : List UInt8) : trimT (trimT l) = trimT l := by
  rw [trimT_lr (trimT l), trimT_rl l, leftT_idem, ← trimT_rl l, trimT_lr l, rightT_idem]
theorem trimT_blank (l : List UInt8) : trimT (32 :: l) = trimT l := by
  rw [trimT_lr, left_yes (by decide), ← trimT_lr]
theorem value_trim {v : List UInt8} (h : valueB v = true) : trimT v = v := by
  unfold valueB at h
  simp only [Bool.and_eq_true] at h
  exact eq_of_beq h.2
theorem value_not {v : List UInt8} (h : valueB v = true) : (10 : UInt8) ∉ v ∧ (13 : UInt8) ∉ v := by
  unfold valueB crlfB at h
  simp only [Bool.and_eq_true] at h
  have h1 := h.1
  rw [Bool.not_eq_true', List.any_eq_false] at h1
  exact ⟨fun hm => h1 10 hm (by decide), fun hm => h1 13 hm (by decide)⟩
theorem value_mk {v : List UInt8} (h10 : (10 : UInt8) ∉ v) (h13 : (13 : UInt8) ∉ v) (ht : trimT v = v) : valueB v = true := by
  have hc : crlfB v = false := by
    unfold crlfB
    rw [List.any_eq_false]
    intro c hc hh
    have : c = 13 ∨ c = 10 := by simpa using hh
    rcases this with rfl | rfl
    · exact h13 hc
    · exact h10 hc
  unfold valueB; rw [hc, ht]; simp
/-- the line of a field is that field -/
theorem field_line {n v : List UInt8} (h : nameB n = true) : fieldL (n ++ [58, 32] ++ v) = some (n, 32 :: v) := by
  have e : n ++ [58, 32] ++ v = n ++ 58 :: (32 :: v) := by simp
  obtain ⟨c1, c2⟩ := cut_here 58 n (32 :: v) (name_not h 58 (by decide))
  have hr : rightT n = n := rightT_keep n fun c hc => nm_ws c (name_all' h c hc)
  unfold fieldL
  rw [e, hasC_true (by simp), c1, c2, rightT_eq, hr, h]; rfl
theorem headR_nil (acc : List FieldL) (op : Bool) : headR acc op [] = (acc, []) := by rw [headR]; simp
theorem headR_body (acc : List FieldL) (op : Bool) {l : List UInt8} (h : l ≠ []) (hl : lineL l = []) : headR acc op l = (acc, afterC 10 l) := by
  rw [headR, dif_neg h, if_pos hl]
theorem headR_white (acc : List FieldL) (op : Bool) {l : List UInt8} (h : l ≠ []) (hl : lineL l ≠ []) (hw : wsT ((lineL l).getD 0 0) = true) : headR acc op l = headR (if op then putLast acc (lineL l) else acc) op (afterC 10 l) := by
  rw [headR, dif_neg h, if_neg hl, if_pos hw]
theorem headR_field (acc : List FieldL) (op : Bool) {l : List UInt8} {f : FieldL} (h : l ≠ []) (hl : lineL l ≠ []) (hw : wsT ((lineL l).getD 0 0) = false) (hf : fieldL (lineL l) = some f) (hn : acc.length < 500) : headR acc op l = headR (acc ++ [f]) true (afterC 10 l) := by
  rw [headR, dif_neg h, if_neg hl, if_neg (by rw [hw]; decide), hf, if_pos (by simp [hn])]; rfl
theorem headR_none (acc : List FieldL) (op : Bool) {l : List UInt8} (h : l ≠ []) (hl : lineL l ≠ []) (hw : wsT ((lineL l).getD 0 0) = false) (hf : fieldL (lineL l) = none ∨ 500 ≤ acc.length) : headR acc op l = headR acc false (afterC 10 l) := by
  rw [headR, dif_neg h, if_neg hl, if_neg (by rw [hw]; decide), if_neg]
  rcases hf with hf | hf
  · simp [hf]
  · simp; intro _; omega
/-- a field that was written is read -/
theorem headR_written (acc : List FieldL) (op : Bool) {n v r : List UInt8} (h : nameB n = true) (hv : (10 : UInt8) ∉ v) (hn : acc.length < 500) :
    headR acc op (n ++ [58, 32] ++ v ++ [13, 10] ++ r) = headR (acc ++ [(n, 32 :: v)]) true r := by
  have e : n ++ [58, 32] ++ v ++ [13, 10] ++ r = (n ++ [58, 32] ++ v) ++ 13 :: 10 :: r := by simp
  obtain ⟨l1, l2⟩ := line_of (n ++ [58, 32] ++ v) r (by simp [hv, name_not h 10 (by decide)])
  rw [e]
  obtain ⟨c, n', rfl⟩ : ∃ c n', n = c :: n' := by
    cases n with
    | nil => exact absurd rfl (name_ne h)
    | cons c n' => exact ⟨c, n', rfl⟩
  rw [headR_field acc op (by simp) (by rw [l1]; simp) (by rw [l1]; exact nm_ws c (name_all' h c (List.mem_cons_self ..))) (by rw [l1]; exact field_line h) hn, l2]
theorem headR_all (l : List FieldL) : ∀ (acc : List FieldL) (op : Bool) (r : List UInt8), (∀ f ∈ l, nameB f.1 = true ∧ valueB f.2 = true) → acc.length + l.length ≤ 500 →
    ∃ op', headR acc op ((l.flatMap fun f => f.1 ++ [58, 32] ++ f.2 ++ [13, 10]) ++ r) = headR (acc ++ l.map fun f => (f.1, 32 :: f.2)) op' r := by
  induction l with
  | nil => intro acc op r _ _; exact ⟨op, by simp⟩
  | cons f t ih =>
    intro acc op r h hn
    obtain ⟨h1, h2⟩ := h f (List.mem_cons_self ..)
    rw [List.length_cons] at hn
    have e : ((f :: t).flatMap fun f => f.1 ++ [58, 32] ++ f.2 ++ [13, 10]) ++ r = f.1 ++ [58, 32] ++ f.2 ++ [13, 10] ++ ((t.flatMap fun f => f.1 ++ [58, 32] ++ f.2 ++ [13, 10]) ++ r) := by
      simp
    rw [e, headR_written acc op h1 (value_not h2).1 (by omega)]
    obtain ⟨op', ho⟩ := ih (acc ++ [(f.1, 32 :: f.2)]) true r (fun g hg => h g (List.mem_cons_of_mem _ hg)) (by simp; omega)
    exact ⟨op', by rw [ho]; simp⟩
/-- what is written is read -/
theorem head_write {l : List FieldL} {b : List UInt8} (h : ∀ f ∈ l, nameB f.1 = true ∧ valueB f.2 = true) (hn : l.length ≤ 500) : headL (writeL l b) = (l, b) := by
  obtain ⟨op', ho⟩ := headR_all l [] false ([13, 10] ++ b) h (by simpa using hn)
  have hb : headR ([] ++ l.map fun f => (f.1, 32 :: f.2)) op' ([13, 10] ++ b) = (l.map fun f => (f.1, 32 :: f.2), b) := by
    obtain ⟨l1, l2⟩ := line_of [] b (by simp)
    have l1' : lineL ([13, 10] ++ b) = [] := l1
    have l2' : afterC 10 ([13, 10] ++ b) = b := l2
    rw [headR_body _ op' (by simp) l1', l2']; rfl
  have e : headR [] false (writeL l b) = (l.map fun f => (f.1, 32 :: f.2), b) := by
    unfold writeL; rw [List.append_assoc, ho, hb]
  unfold headL
  rw [e]
  simp only [List.map_map]
  refine Prod.ext ?_ rfl
  show List.map _ l = l
  conv => rhs; rw [← List.map_id l]
  apply List.map_congr_left
  intro f hf
  show (f.1, trimT (32 :: f.2)) = f
  rw [trimT_blank, value_trim (h f hf).2]
theorem writeO_ok {l : List FieldL} {b : List UInt8} (h : (writeO l b).2 = 0) : writeO l b = (writeL l b, 0) ∧ (∀ f ∈ l, nameB f.1 = true ∧ valueB f.2 = true) ∧ l.length ≤ 500 := by
  unfold writeO at *
  cases ha : l.all fun f => nameB f.1 && valueB f.2 with
  | false => rw [ha, if_neg (by decide)] at h; exact absurd h (by decide)
  | true =>
    rw [ha, if_pos rfl] at h
    rw [if_pos rfl]
    by_cases hn : 500 < l.length
    · rw [if_pos hn] at h; exact absurd h (by decide)
    · rw [if_neg hn]
      refine ⟨rfl, fun f hf => ?_, by omega⟩
      have := List.all_eq_true.1 ha f hf
      simpa using this
theorem writeO_of {l : List FieldL} (b : List UInt8) (h : ∀ f ∈ l, nameB f.1 = true ∧ valueB f.2 = true) (hn : l.length ≤ 500) : writeO l b = (writeL l b, 0) := by
  unfold writeO
  rw [if_pos (by rw [List.all_eq_true]; intro f hf; simp [h f hf]), if_neg (by omega)]
theorem writeO_no {l : List FieldL} {b : List UInt8} (h : (writeO l b).2 ≠ 0) : (writeO l b).1 = [] := by
  unfold writeO at *
  split at h
  · split at h
    · rename_i h1 h2; rw [if_pos h1, if_pos h2]
    · exact absurd rfl h
  · rename_i h1; rw [if_neg h1]

/-! ### what is read may be written -/
theorem field_name {l : List UInt8} {f : FieldL} (h : fieldL l = some f) : nameB f.1 = true ∧ ∀ c ∈ f.2, c ∈ l := by
  unfold fieldL at h
  split at h
  · rename_i hb
    simp only [Bool.and_eq_true] at hb
    injection h with h
    subst h
    refine ⟨hb.2, fun c hc => ?_⟩
    unfold afterC at hc
    exact (List.dropWhile_sublist (l := l) _).subset ((List.drop_sublist 1 _).subset hc)
  · cases h
/-- the fields as they stand in their lines: names that may be, no line feed; not more than there may be -/
def HeadOk (acc : List FieldL) : Prop := (∀ f ∈ acc, nameB f.1 = true ∧ (10 : UInt8) ∉ f.2) ∧ acc.length ≤ 500
theorem putLast_cases (acc : List FieldL) (x : List UInt8) : (acc = [] ∧ putLast acc x = []) ∨ ∃ r f, acc = r ++ [f] ∧ putLast acc x = r ++ [(f.1, f.2 ++ x)] := by
  rcases List.eq_nil_or_concat acc with rfl | ⟨r, f, rfl⟩
  · exact .inl ⟨rfl, rfl⟩
  · refine .inr ⟨r, f, by rw [List.concat_eq_append], ?_⟩
    unfold putLast
    rw [List.concat_eq_append, List.getLast?_concat]
    simp only [List.dropLast_concat]
theorem putLast_length (acc : List FieldL) (x : List UInt8) : (putLast acc x).length = acc.length := by
  rcases putLast_cases acc x with ⟨rfl, h⟩ | ⟨r, f, rfl, h⟩
  · rw [h]
  · rw [h]; simp
theorem headOk_put {acc : List FieldL} {x : List UInt8} (h : HeadOk acc) (hx : (10 : UInt8) ∉ x) : HeadOk (putLast acc x) := by
  refine ⟨?_, by rw [putLast_length]; exact h.2⟩
  rcases putLast_cases acc x with ⟨rfl, e⟩ | ⟨r, f, rfl, e⟩
  · rw [e]; intro f hf; cases hf
  · rw [e]
    intro g hg
    rcases List.mem_append.1 hg with hg | hg
    · exact h.1 g (by simp [hg])
    · rw [List.mem_singleton.1 hg]
      have := h.1 f (by simp)
      exact ⟨this.1, by simp [this.2, hx]⟩
theorem headR_ok (l : List UInt8) : ∀ (acc : List FieldL) (op : Bool), HeadOk acc → HeadOk (headR acc op l).1 ∧ ∃ a, l = a ++ (headR acc op l).2 := by
  refine list_ind (p := fun l => ∀ (acc : List FieldL) (op : Bool), HeadOk acc → HeadOk (headR acc op l).1 ∧ ∃ a, l = a ++ (headR acc op l).2) ?_ l
  intro l ih acc op h
  by_cases h0 : l = []
  · subst h0; rw [headR_nil]; exact ⟨h, [], rfl⟩
  have hsuf : ∃ a, l = a ++ afterC 10 l := by
    obtain ⟨t, ht⟩ : (l.dropWhile fun x => x != 10).drop 1 <:+ l := (List.drop_suffix 1 _).trans (List.dropWhile_suffix _)
    exact ⟨t, ht.symm⟩
  have step : ∀ acc' op', HeadOk acc' → HeadOk (headR acc' op' (afterC 10 l)).1 ∧ ∃ a, l = a ++ (headR acc' op' (afterC 10 l)).2 := by
    intro acc' op' h'
    obtain ⟨i1, a, i2⟩ := ih _ (afterC_lt 10 h0) acc' op' h'
    obtain ⟨b, hb⟩ := hsuf
    exact ⟨i1, b ++ a, by rw [List.append_assoc, ← i2]; exact hb⟩
  by_cases hl : lineL l = []
  · rw [headR_body acc op h0 hl]; exact ⟨h, hsuf⟩
  cases hw : wsT ((lineL l).getD 0 0) with
  | true =>
    rw [headR_white acc op h0 hl hw]
    refine step _ _ ?_
    cases op with
    | true => exact headOk_put h (lineL_lf l)
    | false => exact h
  | false =>
    by_cases hn : acc.length < 500
    · cases hf : fieldL (lineL l) with
      | none => rw [headR_none acc op h0 hl hw (.inl hf)]; exact step _ _ h
      | some f =>
        rw [headR_field acc op h0 hl hw hf hn]
        refine step _ _ ⟨fun g hg => ?_, by simp; omega⟩
        rcases List.mem_append.1 hg with hg | hg
        · exact h.1 g hg
        · rw [List.mem_singleton.1 hg]
          obtain ⟨f1, f2⟩ := field_name hf
          exact ⟨f1, fun hm => lineL_lf l (f2 10 hm)⟩
    · rw [headR_none acc op h0 hl hw (.inr (by omega))]; exact step _ _ h
theorem head_ok (l : List UInt8) : (∀ f ∈ (headL l).1, nameB f.1 = true ∧ (10 : UInt8) ∉ f.2 ∧ trimT f.2 = f.2) ∧ (headL l).1.length ≤ 500 ∧ ∃ a, l = a ++ (headL l).2 := by
  obtain ⟨⟨h1, h2⟩, h3⟩ := headR_ok l [] false ⟨fun f hf => (by cases hf), by simp⟩
  refine ⟨fun f hf => ?_, by unfold headL; simpa using h2, h3⟩
  obtain ⟨g, hg, rfl⟩ := List.mem_map.1 hf
  obtain ⟨g1, g2⟩ := h1 g hg
  exact ⟨g1, fun hm => g2 (trimT_sub _ 10 hm), trimT_idem _⟩
/-- the fields' letters come out of the text -/
def fSize (l : List FieldL) : Nat := (l.map fun f => f.1.length + f.2.length).sum
theorem field_size {l : List UInt8} {f : FieldL} (h : fieldL l = some f) : f.1.length + f.2.length ≤ l.length := by
  unfold fieldL at h
  split at h
  · injection h with h
    subst h
    show (Lib.trimRightS (beforeC 58 l) [32, 9]).length + (afterC 58 l).length ≤ l.length
    rw [rightT_eq]
    have h1 : (rightT (beforeC 58 l)).length ≤ (beforeC 58 l).length := by
      unfold rightT
      rw [List.length_reverse]
      have := (List.dropWhile_sublist (l := (beforeC 58 l).reverse) wsT).length_le
      rw [List.length_reverse] at this; exact this
    have h2 : (beforeC 58 l).length + (afterC 58 l).length ≤ l.length := by
      rcases cut_case 58 l with ⟨_, e1, e2⟩ | ⟨a, r, e0, _, e1, e2⟩
      · rw [e1, e2]; simp
      · rw [e1, e2, e0]; simp
    omega
  · cases h
theorem writeL_size {l : List FieldL} {b : List UInt8} {n : Nat} (h : ∀ f ∈ l, f.1.length ≤ n ∧ f.2.length ≤ n) : (writeL l b).length ≤ l.length * (n + n + 4) + 2 + b.length := by
  unfold writeL
  rw [List.length_append, List.length_append]
  have : (l.flatMap fun f => f.1 ++ [58, 32] ++ f.2 ++ [13, 10]).length ≤ l.length * (n + n + 4) := by
    induction l with
    | nil => simp
    | cons f r ih =>
      have h1 := h f (List.mem_cons_self ..)
      have h2 := ih (fun g hg => h g (List.mem_cons_of_mem _ hg))
      rw [List.flatMap_cons, List.length_append, List.length_cons, Nat.add_mul]
      simp only [List.length_append, List.length_cons, List.length_nil]
      omega
  exact Nat.add_le_add (Nat.add_le_add this (Nat.le_refl _)) (Nat.le_refl _)
end Go.Proofs.YtcndklegoadjcaaDoor
