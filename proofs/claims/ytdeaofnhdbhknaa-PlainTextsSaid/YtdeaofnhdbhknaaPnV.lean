/- Plain texts, pure: what the laws say of them. No statement is proved here. Own work of the verifier. -/
import Derived.Test.YtdeaofnhdbhknaaPnR
namespace Go.Proofs.Ytdeaofnhdbhknaa
set_option linter.unusedVariables false
set_option linter.unusedSimpArgs false
set_option maxRecDepth 100000
/-! ### what is not quoted, written back -/
theorem textR_says (s : List UInt8) (T : Tr) (out : List UInt8) : textR (saysT s T) out = textR T (out ++ s) := by
  unfold saysT
  split
  · rename_i h; rw [h, List.append_nil]
  · rw [textR]; rfl
theorem textR_br (T : Tr) (out : List UInt8) : textR (.cons brH .nil T) out = textR T (out ++ [10]) := by
  rw [textR]; rfl
def joinLF : List (List UInt8) → List UInt8
  | [] => []
  | [s] => s
  | s :: t :: r => s ++ 10 :: joinLF (t :: r)
theorem textR_said (l : List (List UInt8)) (out : List UInt8) : textR (saidP l) out = out ++ joinLF l := by
  induction l generalizing out with
  | nil => exact (List.append_nil _).symm
  | cons a r ih => cases r with
    | nil => show textR (saysT a .nil) out = _; rw [textR_says]; rfl
    | cons b r =>
      show textR (saysT a (.cons brH .nil (saidP (b :: r)))) out = _
      rw [textR_says, textR_br, ih]
      simp [joinLF]
/-- no carriage return, no sign at a line's begin -/
def QuietL (l : List UInt8) : Prop := ∀ i (h : i < l.length), l[i] ≠ 13 ∧ (l[i] = 62 → i ≠ 0 ∧ l[i - 1]'(by omega) ≠ 10)
theorem QuietL.tail {a r : List UInt8} (h : QuietL (a ++ 10 :: r)) : QuietL r := by
  intro i hi
  have hl : a.length + 1 + i < (a ++ 10 :: r).length := by simp; omega
  have e : (a ++ 10 :: r)[a.length + 1 + i] = r[i] := by
    rw [List.getElem_append_right (by omega)]
    simp only [show a.length + 1 + i - a.length = i + 1 from by omega, List.getElem_cons_succ]
  obtain ⟨h1, h2⟩ := h (a.length + 1 + i) hl
  rw [e] at h1 h2
  refine ⟨h1, fun e62 => ?_⟩
  obtain ⟨_, h3⟩ := h2 e62
  have hi0 : i ≠ 0 := by
    rintro rfl
    refine h3 ?_
    rw [List.getElem_append_right (by omega)]
    simp
  refine ⟨hi0, ?_⟩
  have e2 : (a ++ 10 :: r)[a.length + 1 + i - 1]'(by omega) = r[i - 1]'(by omega) := by
    rw [List.getElem_append_right (by omega)]
    simp only [show a.length + 1 + i - 1 - a.length = (i - 1) + 1 from by omega, List.getElem_cons_succ]
  rw [← e2]; exact h3
theorem QuietL.head {l : List UInt8} (h : QuietL l) : l.head? ≠ some 62 := by
  cases l with
  | nil => simp
  | cons c r => intro e; exact (((h 0 (by simp)).2 (by simpa using e)).1 rfl)
theorem QuietL.cr {l : List UInt8} (h : QuietL l) : (13 : UInt8) ∉ l := by
  intro hm
  obtain ⟨i, hi, e⟩ := List.mem_iff_getElem.1 hm
  exact (h i hi).1 e
theorem trimCR_no {l : List UInt8} (h : (13 : UInt8) ∉ l) : trimCR l = l := by
  unfold trimCR
  rw [if_neg]
  intro e
  rcases List.eq_nil_or_concat l with rfl | ⟨r, c, rfl⟩
  · cases e
  · rw [List.concat_eq_append, List.getLast?_concat] at e
    exact h (by rw [List.concat_eq_append, Option.some.inj e]; simp)
/-- without a line feed at its end -/
def lessLF (l : List UInt8) : List UInt8 := if l.getLast? = some 10 then l.dropLast else l
theorem lessLF_cons (a r : List UInt8) (hr : r ≠ []) : lessLF (a ++ 10 :: r) = a ++ 10 :: lessLF r := by
  unfold lessLF
  rcases List.eq_nil_or_concat r with rfl | ⟨q, c, rfl⟩
  · exact absurd rfl hr
  · rw [List.concat_eq_append, show a ++ 10 :: (q ++ [c]) = (a ++ 10 :: q) ++ [c] by simp, List.getLast?_concat, List.getLast?_concat]
    split
    · rw [List.dropLast_concat, List.dropLast_concat]
    · simp
theorem cutL_ne {l : List UInt8} (h : l ≠ []) : cutL l ≠ [] := by rw [cutL_cons h]; simp
theorem join_cut (l : List UInt8) (h : (13 : UInt8) ∉ l) : joinLF (cutL l) = lessLF l := by
  revert h
  refine list_ind (p := fun l => (13 : UInt8) ∉ l → joinLF (cutL l) = lessLF l) ?_ l
  intro l ih h
  rcases cut_case 10 l with ⟨h1, _, _⟩ | ⟨a, r, e, h1, _, _⟩
  · rw [cut_last l h1]
    have e2 : lessLF l = l := by
      unfold lessLF
      rw [if_neg]
      intro e
      rcases List.eq_nil_or_concat l with rfl | ⟨r, c, rfl⟩
      · cases e
      · rw [List.concat_eq_append, List.getLast?_concat] at e
        exact h1 (by rw [List.concat_eq_append, Option.some.inj e]; simp)
    rw [e2]
    split
    · rename_i e; rw [e]; rfl
    · rfl
  · subst e
    rw [cut_line a r h1, trimCR_no (fun e => h (by simp [e]))]
    by_cases hr : r = []
    · subst hr
      rw [cutL_nil]
      show a = lessLF (a ++ [10])
      unfold lessLF
      rw [List.getLast?_concat, if_pos rfl, List.dropLast_concat]
    · rw [lessLF_cons a r hr, ← ih r (by simp; omega) (fun e => h (by simp [e]))]
      obtain ⟨x, q, e⟩ := List.exists_cons_of_ne_nil (cutL_ne hr)
      rw [e]; rfl
theorem quiet_lines (l : List UInt8) (h : QuietL l) : ∀ x ∈ cutL l, x.head? ≠ some 62 := by
  revert h
  refine list_ind (p := fun l => QuietL l → ∀ x ∈ cutL l, x.head? ≠ some 62) ?_ l
  intro l ih h x hx
  rcases cut_case 10 l with ⟨h1, _, _⟩ | ⟨a, r, e, h1, _, _⟩
  · rw [cut_last l h1] at hx
    split at hx
    · cases hx
    · obtain rfl := List.mem_singleton.1 hx; exact h.head
  · subst e
    rw [cut_line a r h1, trimCR_no (fun e => h.cr (by simp [e]))] at hx
    rcases List.mem_cons.1 hx with rfl | hx
    · have := h.head
      cases x with
      | nil => simp
      | cons c q => simpa using this
    · exact ih r (by simp; omega) h.tail x hx
theorem plain_quiet (l : List UInt8) (h : QuietL l) : plainT (plainP l) = lessLF l := by
  have e1 : ∀ p ∈ linesP l, p.1 = 0 := fun p hp => by
    obtain ⟨x, hx, rfl⟩ := List.mem_map.1 hp
    rw [levelL, lvP_none 20 x (quiet_lines l h x hx)]
  have e2 : (linesP l).map (·.2) = cutL l := by
    unfold linesP
    rw [List.map_map]
    refine (List.map_congr_left fun x hx => ?_).trans (List.map_id _)
    show (levelL x).2 = x
    rw [levelL, lvP_none 20 x (quiet_lines l h x hx)]
  have := treeP_said (linesP l) [] e1 (by simp [nextL])
  rw [List.append_nil] at this
  unfold plainP plainT
  rw [this]
  show textR ((saidP ((linesP l).map (·.2))).app .nil) [] = _
  rw [Tr.app_nil, e2, textR_said, List.nil_append, join_cut l h.cr]
/-! ### levels -/
theorem lvP_min (k : Nat) (l : List UInt8) : (lvP k l).1 = min k (lvP (k + 1) l).1 := by
  induction k generalizing l with
  | zero => rw [lvP_zero]; simp
  | succ k ih =>
    cases l with
    | nil => simp [lvP_nil]
    | cons c r =>
      by_cases hc : c = 62
      · subst hc
        rw [lvP_sign, lvP_sign, ih (dropB r)]
        simp only; omega
      · rw [lvP_none _ (c :: r) (fun e => hc (Option.some.inj e)), lvP_none _ (c :: r) (fun e => hc (Option.some.inj e))]
        simp
/-- a sign more -/
theorem level_more (x y : List UInt8) (h : dropB y = x) : ((levelL x).1 = 20 → (levelL (62 :: y)).1 = 20) ∧ ((levelL x).1 ≠ 20 → levelL (62 :: y) = ((levelL x).1 + 1, (levelL x).2)) := by
  have e : levelL (62 :: y) = ((lvP 19 x).1 + 1, (lvP 19 x).2) := by
    show lvP 20 (62 :: y) = _
    rw [lvP_sign, h]
  have hm := lvP_min 19 x
  have hle := (levelL_le x).1
  refine ⟨fun h20 => ?_, fun h20 => ?_⟩
  · rw [e]
    show (lvP 19 x).1 + 1 = 20
    rw [hm]
    show min 19 (levelL x).1 + 1 = 20
    rw [h20]
    rfl
  · rw [e]
    have h19 : (lvP 20 x).1 ≤ 19 := by have h1 : (levelL x).1 = (lvP 20 x).1 := rfl; omega
    rw [← lvP_more 19 x h19]; rfl
/-! ### quoted once more -/
def quoted1 (L : List (List UInt8)) : List UInt8 := quotedL L
theorem cut_quoted (L : List (List UInt8)) (h10 : ∀ x ∈ L, (10 : UInt8) ∉ x) (h13 : ∀ x ∈ L, (13 : UInt8) ∉ x) : cutL (quotedL L) = L.map fun x => 62 :: 32 :: x := by
  induction L with
  | nil => exact cutL_nil
  | cons x r ih =>
    have e : quotedL (x :: r) = (62 :: 32 :: x) ++ 10 :: quotedL r := by simp [quotedL]
    have h1 := h10 x (List.mem_cons_self ..)
    have h2 := h13 x (List.mem_cons_self ..)
    rw [e, cut_line _ _ (by simp [h1]), trimCR_no (by simp [h2]), ih (fun y hy => h10 y (List.mem_cons_of_mem _ hy)) (fun y hy => h13 y (List.mem_cons_of_mem _ hy))]; rfl
theorem plain_quoted (s : List UInt8) (h13 : ∀ x ∈ cutL s, (13 : UInt8) ∉ x) (hl : ∀ x ∈ cutL s, (levelL x).1 ≤ 18) : plainP (quotedL (cutL s)) = if cutL s = [] then .nil else .cons quH (plainP s) .nil := by
  unfold plainP linesP
  rw [cut_quoted _ (cutL_lf s) h13, List.map_map]
  have e : List.map (levelL ∘ fun x => 62 :: 32 :: x) (cutL s) = ((cutL s).map levelL).map fun p => (p.1 + 1, p.2) := by
    rw [List.map_map]
    refine List.map_congr_left fun x hx => ?_
    exact (level_more x (32 :: x) rfl).2 (by have := hl x hx; omega)
  rw [e]
  split
  · rename_i h; rw [h]; rfl
  · rename_i h; exact treeP_up _ (by simpa using h)
/-! ### two texts -/
theorem cut_both (s r : List UInt8) (hs : s ≠ []) (h10 : s.getLast? ≠ some 10) (h13 : s.getLast? ≠ some 13) : cutL (s ++ 10 :: r) = cutL s ++ cutL r := by
  revert hs h10 h13
  refine list_ind (p := fun s => s ≠ [] → s.getLast? ≠ some 10 → s.getLast? ≠ some 13 → cutL (s ++ 10 :: r) = cutL s ++ cutL r) ?_ s
  intro s ih hs h10 h13
  rcases cut_case 10 s with ⟨h1, _, _⟩ | ⟨a, q, e, h1, _, _⟩
  · rw [cut_line s r h1, cut_last s h1, if_neg hs]
    have : trimCR s = s := by unfold trimCR; rw [if_neg h13]
    rw [this]; rfl
  · subst e
    have hq : q ≠ [] := by rintro rfl; exact h10 (by rw [List.getLast?_concat])
    have el : (a ++ 10 :: q).getLast? = q.getLast? := by
      rcases List.eq_nil_or_concat q with rfl | ⟨p, c, rfl⟩
      · exact absurd rfl hq
      · rw [List.concat_eq_append, show a ++ 10 :: (p ++ [c]) = (a ++ 10 :: p) ++ [c] by simp, List.getLast?_concat, List.getLast?_concat]
    rw [el] at h10 h13
    rw [List.append_assoc, List.cons_append, cut_line a _ h1, ih q (by simp; omega) hq h10 h13, cut_line a q h1]; rfl
theorem plain_joined (s t : List UInt8) (hs : s ≠ []) (ht : t ≠ []) (h10 : s.getLast? ≠ some 10) (h13 : s.getLast? ≠ some 13)
    (hn : ∀ x, (cutL s).getLast? = some x → (levelL x).1 = 0) (hm : ∀ x, (cutL t).head? = some x → (levelL x).1 = 0) :
    plainP (s ++ 10 :: 10 :: t) = (plainP s).app (.cons brH .nil (.cons brH .nil (plainP t))) := by
  have hls : linesP (s ++ 10 :: 10 :: t) = linesP s ++ ((0, []) :: linesP t) := by
    unfold linesP
    rw [cut_both s _ hs h10 h13, List.map_append]
    congr 1
    have := cut_line [] t (by simp)
    rw [List.nil_append] at this
    rw [this]; rfl
  have hn1 : nextL (linesP t) = some 0 := by
    obtain ⟨x, q, e⟩ := List.exists_cons_of_ne_nil (cutL_ne ht)
    unfold nextL linesP
    rw [e]
    show some (levelL x).1 = _
    rw [hm x (by rw [e]; rfl)]
  unfold plainP
  rw [hls, treeP_app _ _ (by unfold linesP; simpa using cutL_ne hs) ?_ rfl]
  · show (treeP (linesP s)).app (.cons brH .nil (insP 0 [] (nextL (linesP t)) (treeP (linesP t)))) = _
    rw [insP_zero, if_pos hn1]
    rfl
  · unfold linesP
    rcases List.eq_nil_or_concat (cutL s) with e | ⟨q, x, e⟩
    · exact absurd e (cutL_ne hs)
    · rw [e, List.concat_eq_append, List.map_append, List.map_singleton, List.getLast?_concat]
      show some (levelL x).1 = _
      rw [hn x (by rw [e, List.concat_eq_append, List.getLast?_concat])]
/-! ### sizes of a plain text's tree -/
theorem Tr.app_count (a b : Tr) : (a.app b).count = a.count + b.count := by induction a with
  | nil => simp [Tr.app, Tr.count]
  | cons h k r _ ih => simp only [Tr.app, Tr.count, ih]; omega
theorem saysT_count (s : List UInt8) (T : Tr) : (saysT s T).count ≤ T.count + 1 := by unfold saysT; split <;> simp [Tr.count]; omega
theorem saysT_cost (s : List UInt8) (T : Tr) : costT (saysT s T) ≤ costT T + s.length + 3 := by
  unfold saysT; split
  · omega
  · simp only [costT, txH]; omega
theorem saysT_depth (s : List UInt8) (T : Tr) : (saysT s T).depth ≤ max 1 T.depth := by
  unfold saysT; split
  · omega
  · simp only [Tr.depth]; omega
theorem insP_size (n : Nat) (s : List UInt8) (m : Option Nat) (T : Tr) : (insP n s m T).count ≤ T.count + n + 2 ∧ costT (insP n s m T) ≤ costT T + 3 * n + s.length + 6 ∧ (insP n s m T).depth ≤ max (n + 1) T.depth := by
  induction n generalizing m T with
  | zero =>
    rw [insP_zero]
    have e : (if m = some 0 then Tr.cons brH .nil T else T).count ≤ T.count + 1 ∧ costT (if m = some 0 then Tr.cons brH .nil T else T) ≤ costT T + 3 ∧ (if m = some 0 then Tr.cons brH .nil T else T).depth ≤ max 1 T.depth := by
      split
      · simp only [Tr.count, costT, brH, elH, Tr.depth, List.length_nil]; omega
      · omega
    have h1 := saysT_count s (if m = some 0 then Tr.cons brH .nil T else T)
    have h2 := saysT_cost s (if m = some 0 then Tr.cons brH .nil T else T)
    have h3 := saysT_depth s (if m = some 0 then Tr.cons brH .nil T else T)
    omega
  | succ n ih =>
    have key : (Tr.cons quH (insP n s none .nil) T).count ≤ T.count + (n + 1) + 2 ∧ costT (Tr.cons quH (insP n s none .nil) T) ≤ costT T + 3 * (n + 1) + s.length + 6 ∧ (Tr.cons quH (insP n s none .nil) T).depth ≤ max (n + 1 + 1) T.depth := by
      obtain ⟨h1, h2, h3⟩ := ih none .nil
      simp only [Tr.count, costT, Tr.depth, quH, elH, List.length_nil] at *
      omega
    cases m with
    | none => rw [insP_none]; exact key
    | some m => cases m with
      | zero => rw [insP_off]; exact key
      | succ m => cases T with
        | nil => exact key
        | cons h K R =>
          rw [insP_in]
          obtain ⟨h1, h2, h3⟩ := ih (some m) K
          simp only [Tr.count, costT, Tr.depth] at *
          omega
def bytesLn (l : List LnL) : Nat := (l.map fun p => p.2.length).sum
theorem treeP_size (l : List LnL) (h : ∀ p ∈ l, p.1 ≤ 20) : (treeP l).count ≤ 22 * l.length ∧ costT (treeP l) ≤ 66 * l.length + bytesLn l ∧ (treeP l).depth ≤ 21 := by
  induction l with
  | nil => exact ⟨Nat.le_refl _, Nat.le_refl _, Nat.zero_le _⟩
  | cons p r ih =>
    obtain ⟨h1, h2, h3⟩ := ih (fun q hq => h q (List.mem_cons_of_mem _ hq))
    have hp := h p (List.mem_cons_self ..)
    obtain ⟨k1, k2, k3⟩ := insP_size p.1 p.2 (nextL r) (treeP r)
    simp only [treeP, List.length_cons, bytesLn, List.map_cons, List.sum_cons] at *
    omega
theorem cutL_sizes (l : List UInt8) : (cutL l).length ≤ l.length ∧ ((cutL l).map List.length).sum ≤ l.length := by
  refine list_ind (p := fun l => (cutL l).length ≤ l.length ∧ ((cutL l).map List.length).sum ≤ l.length) ?_ l
  intro l ih
  rcases cut_case 10 l with ⟨h1, _, _⟩ | ⟨a, r, e, h1, _, _⟩
  · rw [cut_last l h1]
    split
    · simp
    · rename_i h
      have := List.length_pos_iff.2 h
      simp; omega
  · subst e
    rw [cut_line a r h1]
    have hr := ih r (by simp; omega)
    have ht := trimCR_le a
    simp only [List.length_cons, List.map_cons, List.sum_cons, List.length_append]
    omega
theorem linesP_sizes (s : List UInt8) : (∀ p ∈ linesP s, p.1 ≤ 20) ∧ (linesP s).length ≤ s.length ∧ bytesLn (linesP s) ≤ s.length := by
  obtain ⟨h1, h2⟩ := cutL_sizes s
  refine ⟨fun p hp => ?_, by unfold linesP; rw [List.length_map]; exact h1, ?_⟩
  · obtain ⟨x, _, rfl⟩ := List.mem_map.1 hp; exact (levelL_le x).1
  · refine Nat.le_trans ?_ h2
    unfold bytesLn linesP
    rw [List.map_map]
    generalize cutL s = L
    induction L with
    | nil => exact Nat.le_refl _
    | cons x r ih =>
      have := (levelL_le x).2
      simp only [List.map_cons, List.sum_cons, Function.comp] at ih ⊢
      omega
theorem plainP_size (s : List UInt8) : (plainP s).count ≤ 22 * s.length ∧ costT (plainP s) ≤ 67 * s.length ∧ (plainP s).depth ≤ 21 := by
  obtain ⟨h1, h2, h3⟩ := linesP_sizes s
  obtain ⟨k1, k2, k3⟩ := treeP_size (linesP s) h1
  unfold plainP
  omega
end Go.Proofs.Ytdeaofnhdbhknaa
