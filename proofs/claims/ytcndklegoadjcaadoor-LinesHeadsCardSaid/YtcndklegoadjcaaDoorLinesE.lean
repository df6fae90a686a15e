/- Lines one by one, each with what is behind it; a header gathered line by line. No statement is proved here. -/
import Derived.Test.YtcndklegoadjcaaDoorLinesR
namespace Go.Proofs.YtcndklegoadjcaaDoor
open Go.RowKit
set_option linter.unusedVariables false
set_option linter.unusedSimpArgs false

/-- the lines, each with what is behind its end -/
def eachL (l : List UInt8) : List FieldL := if h : l = [] then [] else (lineL l, afterC 10 l) :: eachL (afterC 10 l)
termination_by l.length
decreasing_by exact afterC_lt 10 h
theorem eachL_nil : eachL [] = [] := by rw [eachL]; simp
theorem eachL_cons {l : List UInt8} (h : l ≠ []) : eachL l = (lineL l, afterC 10 l) :: eachL (afterC 10 l) := by rw [eachL, dif_neg h]
theorem each_cut (l : List UInt8) : (eachL l).map (·.1) = cutL l := by
  refine list_ind (p := fun l => (eachL l).map (·.1) = cutL l) ?_ l
  intro l ih
  by_cases h : l = []
  · subst h; rw [eachL_nil, cutL_nil]; rfl
  · rw [eachL_cons h, cutL_cons h, List.map_cons, ih _ (afterC_lt 10 h)]
theorem trimCR_length (l : List UInt8) : (trimCR l).length ≤ l.length := by
  unfold trimCR; split
  · rw [List.length_dropLast]; omega
  · exact Nat.le_refl _
theorem line_after {l : List UInt8} (h : l ≠ []) : (lineL l).length + (afterC 10 l).length ≤ l.length := by
  unfold lineL
  rcases cut_case 10 l with ⟨h1, e1, e2⟩ | ⟨a, r, e0, h1, e1, e2⟩
  · rw [hasC_false h1, if_neg (by decide), e2]; simp
  · rw [hasC_true (by rw [e0]; simp), if_pos rfl, e1, e2]
    have := trimCR_length a
    rw [e0]; simp; omega
def lsum (L : List FieldL) : Nat := (L.map fun p => p.1.length).sum
theorem each_sum (l : List UInt8) : lsum (eachL l) ≤ l.length ∧ (eachL l).length ≤ l.length ∧ ∀ p ∈ eachL l, p.1.length ≤ l.length ∧ p.2.length ≤ l.length := by
  refine list_ind (p := fun l => lsum (eachL l) ≤ l.length ∧ (eachL l).length ≤ l.length ∧ ∀ p ∈ eachL l, p.1.length ≤ l.length ∧ p.2.length ≤ l.length) ?_ l
  intro l ih
  by_cases h : l = []
  · subst h; rw [eachL_nil]; exact ⟨Nat.le_refl _, Nat.le_refl _, fun p hp => by cases hp⟩
  · obtain ⟨i1, i2, i3⟩ := ih _ (afterC_lt 10 h)
    have h1 := line_after h
    have h2 := afterC_lt 10 h
    rw [eachL_cons h]
    refine ⟨by unfold lsum at *; rw [List.map_cons, List.sum_cons]; show (lineL l).length + _ ≤ _; omega, by rw [List.length_cons]; omega, fun p hp => ?_⟩
    rcases List.mem_cons.1 hp with rfl | hp
    · exact ⟨by show (lineL l).length ≤ _; omega, by show (afterC 10 l).length ≤ _; omega⟩
    · have := i3 p hp; exact ⟨by omega, by omega⟩

/-! ### a header gathered line by line -/
abbrev RawL := List UInt8 × List (List UInt8)
def toF (r : RawL) : FieldL := (r.1, r.2.flatten)
def rawPut (acc : List RawL) (x : List UInt8) : List RawL := match acc.getLast? with
  | some r => acc.dropLast ++ [(r.1, r.2 ++ [x])]
  | none => acc
def stepR (st : List RawL × Bool) (x : List UInt8) : List RawL × Bool :=
  if wsT (x.getD 0 0) then (if st.2 then rawPut st.1 x else st.1, st.2)
  else if (fieldL x).isSome && decide (st.1.length < 500) then (st.1 ++ [(((fieldL x).getD ([], [])).1, [((fieldL x).getD ([], [])).2])], true)
  else (st.1, false)
theorem stepR_shut {st : List RawL × Bool} {x : List UInt8} (hw : wsT (x.getD 0 0) = true) (ho : st.2 = false) : stepR st x = st := by
  obtain ⟨a, b⟩ := st
  have ho' : b = false := ho
  subst ho'
  unfold stepR; rw [if_pos hw]; rfl
theorem stepR_open {st : List RawL × Bool} {x : List UInt8} (hw : wsT (x.getD 0 0) = true) (ho : st.2 = true) : stepR st x = (rawPut st.1 x, true) := by
  unfold stepR; rw [if_pos hw, ho]; rfl
theorem stepR_field {st : List RawL × Bool} {x : List UInt8} {f : FieldL} (hw : wsT (x.getD 0 0) = false) (hf : fieldL x = some f) (hn : st.1.length < 500) : stepR st x = (st.1 ++ [(f.1, [f.2])], true) := by
  unfold stepR; rw [hw, if_neg (by decide), hf, if_pos (by simp [hn])]; rfl
theorem stepR_none {st : List RawL × Bool} {x : List UInt8} (hw : wsT (x.getD 0 0) = false) (h : fieldL x = none ∨ 500 ≤ st.1.length) : stepR st x = (st.1, false) := by
  unfold stepR; rw [hw, if_neg (by decide), if_neg]
  rcases h with h | h
  · simp [h]
  · simp; intro _; omega
def foldR (st : List RawL × Bool) (pre : List FieldL) : List RawL × Bool := pre.foldl (fun st p => stepR st p.1) st
theorem foldR_snoc (st : List RawL × Bool) (pre : List FieldL) (p : FieldL) : foldR st (pre ++ [p]) = stepR (foldR st pre) p.1 := by unfold foldR; rw [List.foldl_append]; rfl
theorem rawPut_snoc (r : List RawL) (f : RawL) (x : List UInt8) : rawPut (r ++ [f]) x = r ++ [(f.1, f.2 ++ [x])] := by
  unfold rawPut; rw [List.getLast?_concat]; simp only [List.dropLast_concat]
theorem rawPut_cases (acc : List RawL) (x : List UInt8) : (acc = [] ∧ rawPut acc x = []) ∨ ∃ r f, acc = r ++ [f] ∧ rawPut acc x = r ++ [(f.1, f.2 ++ [x])] := by
  rcases List.eq_nil_or_concat acc with rfl | ⟨r, f, rfl⟩
  · exact .inl ⟨rfl, rfl⟩
  · exact .inr ⟨r, f, by rw [List.concat_eq_append], by rw [List.concat_eq_append]; exact rawPut_snoc r f x⟩
theorem rawPut_toF (acc : List RawL) (x : List UInt8) : (rawPut acc x).map toF = putLast (acc.map toF) x := by
  rcases rawPut_cases acc x with ⟨rfl, h⟩ | ⟨r, f, rfl, h⟩
  · rw [h]; rfl
  · rw [h]
    unfold putLast
    rw [List.map_append, List.map_append, show List.map toF [f] = [toF f] from rfl, List.getLast?_concat, List.dropLast_concat]
    simp [toF]
/-- one line of a header, as headR takes it -/
theorem headR_step (acc : List RawL) (op : Bool) {l : List UInt8} (h : l ≠ []) (hl : lineL l ≠ []) :
    headR (acc.map toF) op l = headR ((stepR (acc, op) (lineL l)).1.map toF) (stepR (acc, op) (lineL l)).2 (afterC 10 l) := by
  unfold stepR
  cases hw : wsT ((lineL l).getD 0 0) with
  | true =>
    rw [headR_white _ op h hl hw, if_pos rfl]
    cases op with
    | true => simp only [if_true, rawPut_toF]
    | false => simp
  | false =>
    rw [if_neg (by decide)]
    by_cases hn : acc.length < 500
    · cases hf : fieldL (lineL l) with
      | none => rw [headR_none _ op h hl hw (.inl hf)]; simp
      | some f =>
        rw [headR_field _ op h hl hw hf (by simpa using hn)]
        simp [hn, toF]
    · rw [headR_none _ op h hl hw (.inr (by simp; omega))]
      simp [hn]
theorem headR_fold (l : List UInt8) : ∀ (acc : List RawL) (op : Bool), (∀ p ∈ eachL l, p.1 ≠ []) → headR (acc.map toF) op l = ((foldR (acc, op) (eachL l)).1.map toF, []) := by
  refine list_ind (p := fun l => ∀ (acc : List RawL) (op : Bool), (∀ p ∈ eachL l, p.1 ≠ []) → headR (acc.map toF) op l = ((foldR (acc, op) (eachL l)).1.map toF, [])) ?_ l
  intro l ih acc op hne
  by_cases h : l = []
  · subst h; rw [headR_nil, eachL_nil]; rfl
  · rw [eachL_cons h] at hne ⊢
    rw [headR_step acc op h (hne _ (List.mem_cons_self ..))]
    rw [ih _ (afterC_lt 10 h) _ _ (fun p hp => hne p (List.mem_cons_of_mem _ hp))]
    rfl
theorem headR_stop (l : List UInt8) : ∀ (acc : List RawL) (op : Bool) (pre : List FieldL) (b : List UInt8), (∀ p ∈ pre, p.1 ≠ []) → pre ++ [([], b)] <+: eachL l → headR (acc.map toF) op l = ((foldR (acc, op) pre).1.map toF, b) := by
  refine list_ind (p := fun l => ∀ (acc : List RawL) (op : Bool) (pre : List FieldL) (b : List UInt8), (∀ p ∈ pre, p.1 ≠ []) → pre ++ [([], b)] <+: eachL l → headR (acc.map toF) op l = ((foldR (acc, op) pre).1.map toF, b)) ?_ l
  intro l ih acc op pre b hne hp
  by_cases h : l = []
  · subst h
    rw [eachL_nil] at hp
    have := List.prefix_nil.1 hp
    simp at this
  · rw [eachL_cons h] at hp
    cases pre with
    | nil =>
      obtain ⟨t, ht⟩ := hp
      simp only [List.nil_append, List.cons_append, List.cons.injEq, Prod.mk.injEq] at ht
      rw [headR_body _ op h ht.1.1.symm, ← ht.1.2]; rfl
    | cons q r =>
      rw [List.cons_append, List.cons_prefix_cons] at hp
      obtain ⟨rfl, hp⟩ := hp
      rw [headR_step acc op h (hne _ (List.mem_cons_self ..))]
      rw [ih _ (afterC_lt 10 h) _ _ r b (fun p hp => hne p (List.mem_cons_of_mem _ hp)) hp]
      rfl
/-- what is gathered: bounded; open only behind a field -/
structure GatherOk (st : List RawL × Bool) (n m : Nat) : Prop where
  opened : st.2 = true → st.1 ≠ []
  few : st.1.length ≤ n
  lines : ∀ r ∈ st.1, r.2.length ≤ n
  names : ∀ r ∈ st.1, r.1.length ≤ m
  sizes : ∀ r ∈ st.1, (r.2.map List.length).sum ≤ m
theorem gather_start : GatherOk ([], false) 0 0 := ⟨fun h => (by cases h), Nat.le_refl _, fun r h => (by cases h), fun r h => (by cases h), fun r h => (by cases h)⟩
theorem gather_step {st : List RawL × Bool} {n m : Nat} (h : GatherOk st n m) (x : List UInt8) : GatherOk (stepR st x) (n + 1) (m + x.length) := by
  have hf := h.few
  unfold stepR
  split
  · split
    · rename_i h1 h2
      rcases rawPut_cases st.1 x with ⟨e, e2⟩ | ⟨r, f, e, e2⟩
      · exact absurd e (h.opened h2)
      · rw [e2]
        have hr : ∀ g ∈ r, g ∈ st.1 := fun g hg => by rw [e]; simp [hg]
        have hfm : f ∈ st.1 := by rw [e]; simp
        have hlen : st.1.length = r.length + 1 := by rw [e]; simp
        refine ⟨fun _ => by simp, by simp; omega, fun g hg => ?_, fun g hg => ?_, fun g hg => ?_⟩
        all_goals
          rcases List.mem_append.1 hg with hg | hg
          rotate_left
          · rw [List.mem_singleton.1 hg]
            have a1 := h.lines f hfm
            have a2 := h.names f hfm
            have a3 := h.sizes f hfm
            simp
            omega
          · have a1 := h.lines g (hr g hg)
            have a2 := h.names g (hr g hg)
            have a3 := h.sizes g (hr g hg)
            omega
    · rename_i h1 h2
      exact ⟨fun hh => absurd hh h2, by show st.1.length ≤ _; omega, fun g hg => by have := h.lines g hg; omega, fun g hg => by have := h.names g hg; omega, fun g hg => by have := h.sizes g hg; omega⟩
  · split
    · rename_i h1 h2
      simp only [Bool.and_eq_true, decide_eq_true_eq] at h2
      obtain ⟨f, hfl⟩ := Option.isSome_iff_exists.1 h2.1
      have hsz := field_size hfl
      rw [hfl]
      refine ⟨fun _ => by simp, by simp; omega, fun g hg => ?_, fun g hg => ?_, fun g hg => ?_⟩
      all_goals
        rcases List.mem_append.1 hg with hg | hg
        rotate_left
        · rw [List.mem_singleton.1 hg]
          simp
          try omega
        · have a1 := h.lines g hg
          have a2 := h.names g hg
          have a3 := h.sizes g hg
          omega
    · exact ⟨fun hh => (by cases hh), by show st.1.length ≤ _; omega, fun g hg => by have := h.lines g hg; omega, fun g hg => by have := h.names g hg; omega, fun g hg => by have := h.sizes g hg; omega⟩
theorem gather_fold (pre : List FieldL) : ∀ (st : List RawL × Bool) (n m : Nat), GatherOk st n m → GatherOk (foldR st pre) (n + pre.length) (m + lsum pre) := by
  induction pre with
  | nil => intro st n m h; simpa [foldR, lsum] using h
  | cons p r ih =>
    intro st n m h
    have := ih _ _ _ (gather_step h p.1)
    have e : foldR st (p :: r) = foldR (stepR st p.1) r := rfl
    rw [e]
    have e1 : n + 1 + r.length = n + (p :: r).length := by rw [List.length_cons]; omega
    have e2 : m + p.1.length + lsum r = m + lsum (p :: r) := by unfold lsum; rw [List.map_cons, List.sum_cons]; omega
    rw [e1, e2] at this; exact this
theorem lsum_prefix {a b : List FieldL} (h : a <+: b) : lsum a ≤ lsum b := by
  obtain ⟨t, rfl⟩ := h
  unfold lsum; rw [List.map_append, List.sum_append]; omega
theorem flat_length (L : List (List UInt8)) : L.flatten.length = (L.map List.length).sum := List.length_flatten
/-- no name, no value of a header is longer than its text -/
theorem gather_bound (l : List UInt8) : ∀ (acc : List FieldL) (op : Bool) (m : Nat), (∀ f ∈ acc, f.1.length ≤ m ∧ f.2.length ≤ m) → ∀ f ∈ (headR acc op l).1, f.1.length ≤ m + l.length ∧ f.2.length ≤ m + l.length := by
  refine list_ind (p := fun l => ∀ (acc : List FieldL) (op : Bool) (m : Nat), (∀ f ∈ acc, f.1.length ≤ m ∧ f.2.length ≤ m) → ∀ f ∈ (headR acc op l).1, f.1.length ≤ m + l.length ∧ f.2.length ≤ m + l.length) ?_ l
  intro l ih acc op m h
  by_cases h0 : l = []
  · subst h0; rw [headR_nil]; intro f hf; have := h f hf; simp; omega
  have hla := line_after h0
  have step : ∀ acc' op', (∀ f ∈ acc', f.1.length ≤ m + (lineL l).length ∧ f.2.length ≤ m + (lineL l).length) → ∀ f ∈ (headR acc' op' (afterC 10 l)).1, f.1.length ≤ m + l.length ∧ f.2.length ≤ m + l.length := by
    intro acc' op' h' f hf
    have := ih _ (afterC_lt 10 h0) acc' op' _ h' f hf
    omega
  by_cases hl : lineL l = []
  · rw [headR_body acc op h0 hl]; intro f hf; have := h f hf; omega
  cases hw : wsT ((lineL l).getD 0 0) with
  | true =>
    rw [headR_white acc op h0 hl hw]
    refine step _ _ fun f hf => ?_
    cases op with
    | false => have := h f hf; omega
    | true =>
      rcases putLast_cases acc (lineL l) with ⟨rfl, e⟩ | ⟨r, g, rfl, e⟩
      · rw [if_pos rfl, e] at hf; cases hf
      · rw [if_pos rfl, e] at hf
        rcases List.mem_append.1 hf with hf | hf
        · have := h f (List.mem_append_left _ hf); omega
        · rw [List.mem_singleton.1 hf]
          have := h g (by simp)
          simp; omega
  | false =>
    by_cases hn : acc.length < 500
    · cases hfd : fieldL (lineL l) with
      | none => rw [headR_none acc op h0 hl hw (.inl hfd)]; exact step _ _ fun f hf => by have := h f hf; omega
      | some g =>
        rw [headR_field acc op h0 hl hw hfd hn]
        refine step _ _ fun f hf => ?_
        rcases List.mem_append.1 hf with hf | hf
        · have := h f hf; omega
        · rw [List.mem_singleton.1 hf]
          have := field_size hfd
          omega
    · rw [headR_none acc op h0 hl hw (.inr (by omega))]; exact step _ _ fun f hf => by have := h f hf; omega
theorem head_size (l : List UInt8) : ∀ f ∈ (headL l).1, f.1.length ≤ l.length ∧ f.2.length ≤ l.length := by
  intro f hf
  obtain ⟨g, hg, rfl⟩ := List.mem_map.1 hf
  have := gather_bound l [] false 0 (fun f hf => by cases hf) g hg
  have h2 := trimT_length g.2
  constructor
  · show g.1.length ≤ _; omega
  · show (trimT g.2).length ≤ _; omega
theorem fSize_append (a b : List FieldL) : fSize (a ++ b) = fSize a + fSize b := by unfold fSize; rw [List.map_append, List.sum_append]
theorem fSize_one (f : FieldL) : fSize [f] = f.1.length + f.2.length := by simp [fSize]
theorem gather_sum (l : List UInt8) : ∀ (acc : List FieldL) (op : Bool), fSize (headR acc op l).1 + (headR acc op l).2.length ≤ fSize acc + l.length := by
  refine list_ind (p := fun l => ∀ (acc : List FieldL) (op : Bool), fSize (headR acc op l).1 + (headR acc op l).2.length ≤ fSize acc + l.length) ?_ l
  intro l ih acc op
  by_cases h0 : l = []
  · subst h0; rw [headR_nil]; exact Nat.le_refl _
  have hla := line_after h0
  have step : ∀ acc' op', fSize acc' ≤ fSize acc + (lineL l).length → fSize (headR acc' op' (afterC 10 l)).1 + (headR acc' op' (afterC 10 l)).2.length ≤ fSize acc + l.length := by
    intro acc' op' h'
    have := ih _ (afterC_lt 10 h0) acc' op'
    omega
  by_cases hl : lineL l = []
  · rw [headR_body acc op h0 hl]; show fSize acc + (afterC 10 l).length ≤ _; omega
  cases hw : wsT ((lineL l).getD 0 0) with
  | true =>
    rw [headR_white acc op h0 hl hw]
    refine step _ _ ?_
    cases op with
    | false => rw [if_neg (by decide)]; omega
    | true =>
      rw [if_pos rfl]
      rcases putLast_cases acc (lineL l) with ⟨rfl, e⟩ | ⟨r, g, rfl, e⟩
      · rw [e]; omega
      · rw [e, fSize_append, fSize_append, fSize_one, fSize_one]
        simp only [List.length_append]
        omega
  | false =>
    by_cases hn : acc.length < 500
    · cases hfd : fieldL (lineL l) with
      | none => rw [headR_none acc op h0 hl hw (.inl hfd)]; exact step _ _ (by omega)
      | some g =>
        rw [headR_field acc op h0 hl hw hfd hn]
        refine step _ _ ?_
        rw [fSize_append, fSize_one]
        have := field_size hfd
        omega
    · rw [headR_none acc op h0 hl hw (.inr (by omega))]; exact step _ _ (by omega)
theorem fSize_trim (l : List FieldL) : fSize (l.map fun f => (f.1, trimT f.2)) ≤ fSize l := by
  induction l with
  | nil => exact Nat.le_refl _
  | cons f r ih =>
    have h := trimT_length f.2
    have e1 : fSize ((f :: r).map fun f => (f.1, trimT f.2)) = f.1.length + (trimT f.2).length + fSize (r.map fun f => (f.1, trimT f.2)) := by simp [fSize]
    have e2 : fSize (f :: r) = f.1.length + f.2.length + fSize r := by simp [fSize]
    omega
theorem head_sum (l : List UInt8) : fSize (headL l).1 + (headL l).2.length ≤ l.length := by
  have h1 := gather_sum l [] false
  have h2 := fSize_trim (headR [] false l).1
  have h3 : fSize [] = 0 := rfl
  have h4 : fSize (headL l).1 ≤ fSize (headR [] false l).1 := h2
  have h5 : (headL l).2 = (headR [] false l).2 := rfl
  rw [h5]; omega
theorem writeL_sum (l : List FieldL) (b : List UInt8) : (writeL l b).length = fSize l + 4 * l.length + 2 + b.length := by
  unfold writeL
  rw [List.length_append, List.length_append]
  have : (l.flatMap fun f => f.1 ++ [58, 32] ++ f.2 ++ [13, 10]).length = fSize l + 4 * l.length := by
    induction l with
    | nil => rfl
    | cons f r ih =>
      have e2 : fSize (f :: r) = f.1.length + f.2.length + fSize r := by simp [fSize]
      rw [List.flatMap_cons, List.length_append, List.length_cons, ih, e2]
      simp only [List.length_append, List.length_cons, List.length_nil]
      omega
  rw [this]; rfl
/-- lines, each with its end, are not much longer than their text -/
theorem ends_size (l : List UInt8) : (endsL (cutL l)).length ≤ 3 * l.length := by
  obtain ⟨h1, h2, _⟩ := each_sum l
  have : ∀ L : List FieldL, (endsL (L.map (·.1))).length = lsum L + 2 * L.length := by
    intro L
    induction L with
    | nil => rfl
    | cons p r ih =>
      have e : endsL ((p :: r).map (·.1)) = p.1 ++ [13, 10] ++ endsL (r.map (·.1)) := by simp [endsL]
      have e2 : lsum (p :: r) = p.1.length + lsum r := by simp [lsum]
      rw [e, e2, List.length_append, ih]
      simp only [List.length_append, List.length_cons, List.length_nil]
      omega
  rw [← each_cut, this]; omega
theorem ends_take (L : List (List UInt8)) (k : Nat) : (endsL (L.take k)).length ≤ (endsL L).length := by
  have e : endsL L = endsL (L.take k) ++ endsL (L.drop k) := by unfold endsL; rw [← List.flatMap_append, List.take_append_drop]
  rw [e, List.length_append]; omega
theorem ends_step {L : List (List UInt8)} {k : Nat} {x : List UInt8} (h : L[k]? = some x) : endsL (L.take (k + 1)) = endsL (L.take k) ++ (x ++ [13, 10]) := by
  unfold endsL; rw [List.take_add_one, h, List.flatMap_append]; simp
end Go.Proofs.YtcndklegoadjcaaDoor
