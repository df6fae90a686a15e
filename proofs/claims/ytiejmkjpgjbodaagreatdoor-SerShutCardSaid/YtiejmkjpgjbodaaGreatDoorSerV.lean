import Derived.Test.YtiejmkjpgjbodaaGreatDoorSerU
import Derived.Test.YtiejmkjpgjbodaaGreatDoorTreeA
namespace Go.Proofs.YtiejmkjpgjbodaaGreatDoor
open Go.RowKit
set_option linter.unusedVariables false
set_option linter.unusedSimpArgs false
set_option maxRecDepth 100000
theorem drop_headF {p : UInt8 → Bool} {l r : List UInt8} {c : UInt8} (h : l.dropWhile p = c :: r) : p c = false := by
  induction l with
  | nil => cases h
  | cons a q ih =>
    rw [List.dropWhile_cons] at h
    split at h
    · exact ih h
    · rename_i ha
      injection h with h1 _
      rw [← h1]
      simpa using ha
theorem low_cls (c : UInt8) : nameEndB (lowC c) = nameEndB c ∧ attrEndB (lowC c) = attrEndB c ∧ whs (lowC c) = whs c ∧ ((lowC c == 62) = (c == 62)) ∧ (letterB c = true → letterB (lowC c) = true ∧ nameEndB c = false) :=
  u8_all (p := fun c => nameEndB (lowC c) = nameEndB c ∧ attrEndB (lowC c) = attrEndB c ∧ whs (lowC c) = whs c ∧ ((lowC c == 62) = (c == 62)) ∧ (letterB c = true → letterB (lowC c) = true ∧ nameEndB c = false)) (by decide +kernel) c
theorem tw_all {p : UInt8 → Bool} (l : List UInt8) : ∀ x ∈ l.takeWhile p, p x = true := by
  induction l with
  | nil => intro x hx; cases hx
  | cons a r ih =>
    intro x hx
    rw [List.takeWhile_cons] at hx
    split at hx
    · rename_i ha
      rcases List.mem_cons.1 hx with rfl | hx
      · exact ha
      · exact ih x hx
    · cases hx
theorem up_name {c : UInt8} {r : List UInt8} (hc : letterB c = true) : elNB (lowL (upL nameEndB (c :: r)).1) = true := by
  obtain ⟨k1, k2⟩ := (low_cls c).2.2.2.2 hc
  have e : (upL nameEndB (c :: r)).1 = c :: r.takeWhile (fun c => !nameEndB c) := by
    unfold upL
    show List.takeWhile (fun c => !nameEndB c) (c :: r) = _
    rw [List.takeWhile_cons, k2]; rfl
  rw [e]
  show elNB (lowC c :: lowL (r.takeWhile fun c => !nameEndB c)) = true
  unfold elNB
  simp only [Bool.and_eq_true, List.all_eq_true, Bool.not_eq_true', beq_iff_eq]
  refine ⟨k1, fun x hx => ?_⟩
  have hx' : x ∈ lowL (c :: r.takeWhile fun c => !nameEndB c) := hx
  unfold lowL at hx'
  obtain ⟨y, hy, rfl⟩ := List.mem_map.1 hx'
  refine ⟨?_, lowC_two y⟩
  rw [(low_cls y).1]
  rcases List.mem_cons.1 hy with rfl | hy
  · exact k2
  · have := tw_all _ y hy
    simpa using this
theorem attr_name {dec : List UInt8 → List UInt8} {c : UInt8} {r : List UInt8} (h1 : whs c = false) (h2 : c ≠ 62) : atNB (attrL dec (c :: r)).1.1 = true := by
  have e : (attrL dec (c :: r)).1.1 = lowL (c :: (upL attrEndB r).1) := by
    unfold attrL
    simp only
    split <;> rfl
  rw [e]
  show atNB (lowC c :: lowL (upL attrEndB r).1) = true
  unfold atNB
  simp only [Bool.and_eq_true, List.all_eq_true, Bool.not_eq_true', beq_iff_eq]
  refine ⟨⟨by rw [(low_cls c).2.2.1]; exact h1, ?_⟩, fun x hx => ?_, fun x hx => ?_⟩
  · rw [(low_cls c).2.2.2.1]; exact beq_eq_false_iff_ne.2 h2
  · unfold lowL at hx
    obtain ⟨y, hy, rfl⟩ := List.mem_map.1 hx
    rw [(low_cls y).2.1]
    have := tw_all _ y hy
    simpa using this
  · have hx' : x ∈ lowL (c :: (upL attrEndB r).1) := hx
    unfold lowL at hx'
    obtain ⟨y, hy, rfl⟩ := List.mem_map.1 hx'
    exact lowC_two y
theorem tag_names {c : UInt8} {q n b : List UInt8} {A : List AtL} (hc : letterB c = true) (h : tagL decE (c :: q) = some (n, A, b)) : elNB n = true ∧ formAB A = true := by
  have hf := (tag_form h).1
  unfold tagL at h
  cases ha : attrsLL decE [] (upL nameEndB (c :: q)).2 with
  | none => rw [ha] at h; cases h
  | some p =>
    obtain ⟨B, x⟩ := p
    rw [ha] at h
    injection h with h
    injection h with h1 h
    injection h with h2 _
    subst h1 h2
    refine ⟨up_name hc, ?_⟩
    obtain ⟨_, h3, _⟩ := attrsLL_ind decE (P := fun A _ => ∀ a ∈ A, atNB a.1 = true) (fun A l c r hd hc hA => by
      split
      · intro a hm
        rcases List.mem_append.1 hm with hm | hm
        · exact hA a hm
        · obtain rfl := List.mem_singleton.1 hm
          exact attr_name (drop_headF hd) hc
      · exact hA) _ [] _ (Nat.le_refl _) (fun a h => by cases h) B x ha
    unfold formAB
    simp only [Bool.and_eq_true, List.all_eq_true, decide_eq_true_eq]
    exact ⟨h3, hf.2, hf.1⟩
theorem mark_begin {c : UInt8} {r : List UInt8} (hm : isMarkB (c :: r) = true) (t : TokL) (h : (markL decE r).1 = some t) (hk : t.kind = 2) :
    elNB t.name = true ∧ formAB t.attrs = true ∧ t = startT t.name t.attrs ∧ ∃ b, (markL decE r).2 = (if rawB t.name = true then (b.take (rawSizeL t.name b), b.drop (rawSizeL t.name b)) else ([], b)) := by
  have hrem : ∀ k, (remL k).1 = some t → False := fun k e => by
    injection e with e; rw [← e] at hk; exact absurd (show (4 : Nat) = 2 from hk) (by decide)
  have hlong : ∀ k, (longL k).1 = some t → False := fun k e => by
    unfold longL at e
    split at e <;> (injection e with e; rw [← e] at hk; exact absurd (show (4 : Nat) = 2 from hk) (by decide))
  have hend : ∀ k, (endL decE k).1 = some t → False := fun k e => by
    unfold endL at e
    split at e
    · cases e
    · injection e with e; rw [← e] at hk; exact absurd (show (3 : Nat) = 2 from hk) (by decide)
  unfold markL at h ⊢
  split at h
  · split at h
    · cases h
    · split at h
      · exact (hend _ h).elim
      · split at h
        · cases h
        · exact (hrem _ h).elim
  · split at h
    · exact (hlong _ h).elim
    · exact (hrem _ h).elim
  · exact (hrem _ h).elim
  · rename_i h1 h2 h3
    cases r with
    | nil =>
      exfalso
      unfold isMarkB at hm
      split at hm
      · rename_i e; injection e with _ e; cases e
      · cases hm
    | cons d q =>
      have hd : letterB d = true := by
        unfold isMarkB at hm
        split at hm
        · rename_i c' r' e
          injection e with e1 e2
          injection e2 with e2 e3
          subst e2 e3
          rw [if_neg (fun e => e.elim (fun e => h2 _ (by rw [e])) (fun e => h3 _ (by rw [e]))), if_neg (fun e => h1 _ (by rw [e]))] at hm
          exact hm
        · cases hm
      unfold startL at h ⊢
      cases ht : tagL decE (d :: q) with
      | none => rw [ht] at h; cases h
      | some p =>
        obtain ⟨n, A, b⟩ := p
        obtain ⟨n1, n2⟩ := tag_names hd ht
        rw [ht] at h
        simp only at h ⊢
        by_cases hr : rawL.contains n = true
        · rw [if_pos hr] at h ⊢
          injection h with h
          subst h
          exact ⟨n1, n2, rfl, b, by rw [if_pos (show rawB (startT n A).name = true from hr)]; rfl⟩
        · rw [if_neg hr] at h ⊢
          injection h with h
          subst h
          exact ⟨n1, n2, rfl, b, by rw [if_neg (show ¬ rawB (startT n A).name = true from hr)]⟩
theorem scan_formH (k : Nat) : ∀ (l : List UInt8) (L : List TokL) (x : List UInt8), l.length ≤ k → (∀ t ∈ L, t.kind = 2 → formH ⟨t.name, t.attrs, []⟩ = true) → ∀ t ∈ scanL decE L x l, t.kind = 2 → formH ⟨t.name, t.attrs, []⟩ = true := by
  have hfl : ∀ (L : List TokL) (x : List UInt8), (∀ t ∈ L, t.kind = 2 → formH ⟨t.name, t.attrs, []⟩ = true) → ∀ t ∈ flushT L x, t.kind = 2 → formH ⟨t.name, t.attrs, []⟩ = true := fun L x h t ht hk => by
    unfold flushT at ht
    split at ht
    · exact h t ht hk
    · rcases List.mem_append.1 ht with ht | ht
      · exact h t ht hk
      · obtain rfl := List.mem_singleton.1 ht
        exact absurd (show (1 : Nat) = 2 from hk) (by decide)
  induction k with
  | zero =>
    intro l L x hl h
    obtain rfl : l = [] := List.eq_nil_of_length_eq_zero (by omega)
    rw [scanL_nil]; exact hfl L x h
  | succ k ih =>
    intro l L x hl h
    cases l with
    | nil => rw [scanL_nil]; exact hfl L x h
    | cons c r =>
      by_cases hm : 0 < markN (c :: r)
      · rw [scanL_text decE L x hm]
        have h2 : ((c :: r).drop (markN (c :: r))).length = (c :: r).length - markN (c :: r) := List.length_drop
        exact ih _ L _ (by rw [h2]; omega) h
      · have hmk : isMarkB (c :: r) = true := markN_zero (by omega)
        rw [scanL_mark decE L x hmk]
        have hml := markL_len decE r
        have hlen : (c :: r).length = r.length + 1 := rfl
        refine ih _ _ _ (by omega) ?_
        unfold addT
        cases ho : (markL decE r).1 with
        | none => exact h
        | some u =>
          intro t ht hk
          simp only at ht
          rcases List.mem_append.1 ht with ht | ht
          · exact hfl L x h t ht hk
          · obtain rfl := List.mem_singleton.1 ht
            obtain ⟨m1, m2, _⟩ := mark_begin hmk t ho hk
            unfold formH
            rw [m1, m2]; simp
theorem build_formH (l : List UInt8) : (buildP (scanL decE [] [] l)).all formH = true :=
  build_all (f := formH) (fun x => rfl) _ (fun t ht hk => scan_formH _ l [] [] (Nat.le_refl _) (fun t h => by cases h) t ht hk)
def rawTB : Tr → Bool
  | .nil => true
  | .cons h K R => (if rawB h.name = true then rawKidB h.name (decide (h.name = plainText)) K else rawTB K) && rawTB R
theorem rawTB_app (a : List (NdH × Tr)) (p : NdH × Tr) : rawTB (Tr.of (a ++ [p])) = (rawTB (Tr.of a) && rawTB (Tr.of [p])) := by
  induction a with
  | nil => simp [Tr.of, rawTB]
  | cons q r ih =>
    obtain ⟨g, k⟩ := q
    simp only [List.cons_append, Tr.of, rawTB] at ih ⊢
    rw [ih, Bool.and_assoc]
def RawK (st : List PartL) : Prop := ∀ p ∈ st, rawTB (Tr.of p.kids) = true
def Quiet (st : List PartL) : Prop := RawK st ∧ ∀ p ∈ st, rawB p.name = false
theorem rawB_nil : rawB [] = false := by decide +kernel
theorem raw_text (x : List UInt8) : rawTB (Tr.of [textNd x]) = true := by
  show (if rawB [] = true then _ else rawTB .nil) && rawTB .nil = true
  rw [if_neg (by rw [rawB_nil]; decide)]; rfl
theorem endText_raw {p : PartL} (h : rawTB (Tr.of p.kids) = true) : rawTB (Tr.of (endTextL p).kids) = true := by
  unfold endTextL
  split
  · exact h
  · show rawTB (Tr.of (p.kids ++ [textNd p.tail])) = true
    rw [rawTB_app, h, raw_text]; rfl
theorem quiet_top {st : List PartL} (h : Quiet st) : Quiet (closeTop st) := by
  match st, h with
  | [], h => exact h
  | [p], h => exact h
  | p :: q :: r, h =>
    obtain ⟨h1, h2⟩ := h
    have hp := h1 p (List.mem_cons_self ..)
    have hq := h1 q (List.mem_cons_of_mem _ (List.mem_cons_self ..))
    refine ⟨fun x hx => ?_, fun x hx => ?_⟩
    · rcases List.mem_cons.1 hx with rfl | hx
      · show rawTB (Tr.of (q.kids ++ [(endTextL p).node])) = true
        rw [rawTB_app, hq]
        show rawTB (.cons ⟨(endTextL p).name, (endTextL p).attrs, []⟩ (Tr.of (endTextL p).kids) .nil) = true
        rw [rawTB, if_neg (by rw [(endText_head p).1, h2 p (List.mem_cons_self ..)]; decide), endText_raw hp]; rfl
      · exact h1 x (List.mem_cons_of_mem _ (List.mem_cons_of_mem _ hx))
    · rcases List.mem_cons.1 hx with rfl | hx
      · exact h2 q (List.mem_cons_of_mem _ (List.mem_cons_self ..))
      · exact h2 x (List.mem_cons_of_mem _ (List.mem_cons_of_mem _ hx))
theorem quiet_closeN (n : Nat) {st : List PartL} (h : Quiet st) : Quiet (closeN n st) := by
  induction n generalizing st with
  | zero => exact h
  | succ n ih => exact ih (quiet_top h)
theorem quiet_closeAll (is : List UInt8 → Bool) (f : Nat) {st : List PartL} (h : Quiet st) : Quiet (closeAll is f st) := by
  induction f generalizing st with
  | zero => exact h
  | succ f ih =>
    rw [closeAll]
    split
    · exact h
    · exact ih (quiet_closeN _ h)
theorem quiet_tail {p : PartL} {r : List PartL} (x : List UInt8) (h : Quiet (p :: r)) : Quiet ({ p with tail := x } :: r) :=
  ⟨fun q hq => by
    rcases List.mem_cons.1 hq with rfl | hq
    · exact h.1 p (List.mem_cons_self ..)
    · exact h.1 q (List.mem_cons_of_mem _ hq), fun q hq => by
    rcases List.mem_cons.1 hq with rfl | hq
    · exact h.2 p (List.mem_cons_self ..)
    · exact h.2 q (List.mem_cons_of_mem _ hq)⟩
theorem quiet_chars (x : List UInt8) {s : BsL} (h : Quiet s.1) : Quiet (charsP x s).1 := by
  obtain ⟨st, n⟩ := s
  match st, h with
  | [], h => exact h
  | p :: r, h =>
    rw [charsP_cons]
    split
    · split
      · exact h
      · exact quiet_tail _ h
    · exact quiet_tail _ h
theorem quiet_flush (L : List TokL) (x : List UInt8) {s : BsL} (h : Quiet (L.foldl tokB s).1) : Quiet ((flushT L x).foldl tokB s).1 := by
  unfold flushT
  split
  · exact h
  · rw [List.foldl_append]
    exact quiet_chars x h
def Raw1 (n : List UInt8) (st : List PartL) : Prop := ∃ A r, st = ⟨n, A, [], []⟩ :: r ∧ r ≠ [] ∧ Quiet r
theorem raw1_close {n x : List UInt8} {A : List AtL} {r : List PartL} (hn : rawB n = true) (hr : r ≠ []) (hq : Quiet r) (hx : n = plainText ∨ rawN n x = x.length) : Quiet (closeTop (⟨n, A, [], x⟩ :: r)) := by
  match r, hr with
  | q :: r, _ =>
    obtain ⟨h1, h2⟩ := hq
    have hk : rawTB (Tr.of [(endTextL ⟨n, A, [], x⟩).node]) = true := by
      show rawTB (.cons ⟨(endTextL ⟨n, A, [], x⟩).name, (endTextL ⟨n, A, [], x⟩).attrs, []⟩ (Tr.of (endTextL ⟨n, A, [], x⟩).kids) .nil) = true
      rw [rawTB, if_pos (by rw [(endText_head _).1]; exact hn), (endText_head _).1]
      by_cases h0 : x = []
      · have e : (endTextL ⟨n, A, [], x⟩).kids = [] := by unfold endTextL; rw [if_pos h0]
        rw [e]; rfl
      · have e : (endTextL ⟨n, A, [], x⟩).kids = [textNd x] := by unfold endTextL; rw [if_neg h0]; rfl
        rw [e]
        show (decide (([] : List UInt8) = []) && (decide (n = plainText) || decide (rawN n x = x.length))) && rawTB .nil = true
        rcases hx with hx | hx
        · rw [decide_eq_true hx]; rfl
        · rw [decide_eq_true hx, Bool.or_true]; rfl
    refine ⟨fun y hy => ?_, fun y hy => ?_⟩
    · rcases List.mem_cons.1 hy with rfl | hy
      · show rawTB (Tr.of (q.kids ++ [(endTextL ⟨n, A, [], x⟩).node])) = true
        rw [rawTB_app, h1 q (List.mem_cons_self ..), hk]; rfl
      · exact h1 y (List.mem_cons_of_mem _ hy)
    · rcases List.mem_cons.1 hy with rfl | hy
      · exact h2 q (List.mem_cons_self ..)
      · exact h2 y (List.mem_cons_of_mem _ hy)
def RawIn (n x l : List UInt8) : Prop := (n = plainText ∧ l = []) ∨ (rawN n x = x.length ∧ (l = [] ∨ rawEndB n l = true))
def InvRaw (O : List TokL) (x l : List UInt8) : Prop := Quiet (O.foldl tokB ([rootL], 0)).1 ∨ ∃ n, rawB n = true ∧ Raw1 n (O.foldl tokB ([rootL], 0)).1 ∧ RawIn n x l
theorem rawN_take (n : List UInt8) : ∀ b : List UInt8, rawN n (b.take (rawN n b)) = (b.take (rawN n b)).length
  | [] => rfl
  | c :: r => by
    by_cases h : rawEndB n (c :: r) = true
    · have : rawN n (c :: r) = 0 := by rw [rawN, if_pos h]
      rw [this]; rfl
    · have e : rawN n (c :: r) = rawN n r + 1 := by rw [rawN, if_neg h]
      rw [e, List.take_succ_cons]
      have hh : ¬ rawEndB n (c :: r.take (rawN n r)) = true := by
        intro h2
        apply h
        unfold rawEndB at h2 ⊢
        split at h2
        · rename_i q eq
          injection eq with e1 eq
          subst e1
          cases hr : r with
          | nil => rw [hr] at eq; simp at eq
          | cons d q2 =>
            rw [hr] at eq
            cases hk : rawN n (d :: q2) with
            | zero => rw [hk] at eq; simp at eq
            | succ m =>
              rw [hk, List.take_succ_cons] at eq
              injection eq with e2 e3
              subst e2
              simp only [Bool.and_eq_true, decide_eq_true_eq] at h2 ⊢
              rw [← e3] at h2
              obtain ⟨g1, g2, g3⟩ := h2
              have hle : n.length < m := by rw [List.length_take] at g1; omega
              have hle2 : n.length < q2.length := by rw [List.length_take] at g1; omega
              refine ⟨hle2, ?_, ?_⟩
              · rw [List.take_take, Nat.min_eq_left (Nat.le_of_lt hle)] at g2; exact g2
              · rw [List.getD_eq_getElem?_getD, List.getElem?_take_of_lt hle, ← List.getD_eq_getElem?_getD] at g3; exact g3
        · cases h2
      rw [rawN, if_neg hh, rawN_take n r]; rfl
theorem rawN_rest (n : List UInt8) : ∀ b : List UInt8, b.drop (rawN n b) = [] ∨ rawEndB n (b.drop (rawN n b)) = true
  | [] => .inl rfl
  | c :: r => by
    by_cases h : rawEndB n (c :: r) = true
    · have : rawN n (c :: r) = 0 := by rw [rawN, if_pos h]
      rw [this]; exact .inr h
    · have e : rawN n (c :: r) = rawN n r + 1 := by rw [rawN, if_neg h]
      rw [e, List.drop_succ_cons]
      exact rawN_rest n r
theorem rawIn_size (n b : List UInt8) : RawIn n (b.take (rawSizeL n b)) (b.drop (rawSizeL n b)) := by
  unfold rawSizeL
  split
  · rename_i h
    exact .inl ⟨h, List.drop_length⟩
  · exact .inr ⟨rawN_take n b, rawN_rest n b⟩
theorem rawEnd_mark {n l : List UInt8} (hn : rawB n = true) (h : rawEndB n l = true) : isMarkB l = true ∧ ∃ r, l = 60 :: r ∧ ((markL decE r).1 = some (endT n) ∧ (markL decE r).2.1 = [] ∨ markL decE r = (none, [], [])) := by
  have hlet : ∀ m ∈ rawL, m ≠ [] ∧ (∀ x ∈ m, nameEndB x = false ∧ letterB x = true) := by decide +kernel
  obtain ⟨m1, m2⟩ := hlet n (by simpa [rawB] using hn)
  unfold rawEndB at h
  split at h
  · rename_i r
    simp only [Bool.and_eq_true, decide_eq_true_eq] at h
    obtain ⟨g1, g2, g3⟩ := h
    have g2 := eq_of_beq g2
    refine ⟨?_, _, rfl, ?_⟩
    · unfold isMarkB
      cases r with
      | nil => simp at g1
      | cons c q => simp
    have hall : ∀ x ∈ r.take n.length, nameEndB x = false := fun x hx => by
      have : lowC x ∈ n := by rw [← g2]; exact List.mem_map.2 ⟨x, hx, rfl⟩
      rw [← (low_cls x).1]; exact (m2 _ this).1
    obtain ⟨d, hd⟩ : ∃ d, r[n.length]? = some d := ⟨_, List.getElem?_eq_getElem g1⟩
    have hdE : nameEndB d = true := by rw [List.getD_eq_getElem?_getD, hd] at g3; exact g3
    have hsplit : r = r.take n.length ++ d :: r.drop (n.length + 1) := by
      conv => lhs; rw [← List.take_append_drop n.length r]
      congr 1
      rw [List.drop_eq_getElem_cons g1]
      congr 1
      rw [List.getElem?_eq_getElem g1] at hd
      injection hd
    have hup : upL nameEndB r = (r.take n.length, d :: r.drop (n.length + 1)) := by
      conv => lhs; rw [hsplit]
      exact name_upG hall hdE
    obtain ⟨c, q, hr⟩ : ∃ c q, r = c :: q := by
      cases r with
      | nil => simp at g1
      | cons c q => exact ⟨c, q, rfl⟩
    have hc : letterB c = true := by
      cases hn0 : n with
      | nil => exact absurd hn0 m1
      | cons a n' =>
        have e : lowC c = a := by
          rw [hr, hn0] at g2
          rw [List.length_cons, List.take_succ_cons] at g2
          injection g2
        have := (m2 a (by rw [hn0]; exact List.mem_cons_self ..)).2
        rw [← e] at this
        exact u8_all (p := fun c => letterB (lowC c) = true → letterB c = true) (by decide +kernel) c this
    rw [hr, markL_end hc, ← hr]
    unfold endL tagL
    rw [hup]
    simp only
    cases ha : attrsLL decE [] (d :: r.drop (n.length + 1)) with
    | none => exact .inr rfl
    | some p =>
      obtain ⟨B, b⟩ := p
      simp only
      rw [g2]
      exact .inl ⟨rfl, trivial⟩
  · cases h
theorem quiet_end {s : BsL} (h : Quiet s.1) : rawTB (endTree s.1) = true := by
  unfold endTree
  have h2 := quiet_closeN (s.1.length - 1) h
  split
  · rename_i p r e
    exact endText_raw (h2.1 p (by rw [e]; exact List.mem_cons_self ..))
  · rfl
theorem raw1_flush {n x : List UInt8} {st : List PartL} {k : Nat} (h : Raw1 n st) : ∃ A r y k', charsP x (st, k) = (⟨n, A, [], y⟩ :: r, k') ∧ (y = x ∨ y = []) ∧ r ≠ [] ∧ Quiet r := by
  obtain ⟨A, r, rfl, h1, h2⟩ := h
  rw [charsP_cons, if_pos rfl]
  split
  · exact ⟨A, r, [], k, rfl, .inr rfl, h1, h2⟩
  · exact ⟨A, r, x, k + 1, rfl, .inl rfl, h1, h2⟩
theorem raw1_flushT {n x : List UInt8} {O : List TokL} (h : Raw1 n (O.foldl tokB ([rootL], 0)).1) : ∃ A r y, ((flushT O x).foldl tokB ([rootL], 0)).1 = ⟨n, A, [], y⟩ :: r ∧ (y = x ∨ y = []) ∧ r ≠ [] ∧ Quiet r := by
  unfold flushT
  split
  · obtain ⟨A, r, e, h1, h2⟩ := h
    exact ⟨A, r, [], e, .inr rfl, h1, h2⟩
  · rw [List.foldl_append]
    obtain ⟨A, r, y, k', e, h1, h2, h3⟩ := raw1_flush (x := x) (k := (O.foldl tokB ([rootL], 0)).2) h
    refine ⟨A, r, y, ?_, h1, h2, h3⟩
    show (charsP x (O.foldl tokB ([rootL], 0))).1 = _
    exact congrArg Prod.fst e
theorem raw1_end {n x : List UInt8} {O : List TokL} (hn : rawB n = true) (h : Raw1 n (O.foldl tokB ([rootL], 0)).1) (hx : n = plainText ∨ rawN n x = x.length) : rawTB (endTree ((flushT O x).foldl tokB ([rootL], 0)).1) = true := by
  obtain ⟨A, r, y, e, h1, h2, h3⟩ := raw1_flushT (x := x) h
  rw [e]
  have hy : n = plainText ∨ rawN n y = y.length := by
    rcases h1 with rfl | rfl
    · exact hx
    · exact .inr rfl
  have hq := raw1_close (A := A) hn h2 h3 hy
  have he : endTree (⟨n, A, [], y⟩ :: r) = endTree (closeTop (⟨n, A, [], y⟩ :: r)) := by
    match r, h2 with
    | q :: r, _ => rfl
  rw [he]
  exact quiet_end (s := (_, 0)) hq
theorem scan_raw (k : Nat) : ∀ (l : List UInt8) (O : List TokL) (x : List UInt8), l.length ≤ k → InvRaw O x l → rawTB (buildP (scanL decE O x l)) = true := by
  have hnil : ∀ (O : List TokL) (x : List UInt8), InvRaw O x [] → rawTB (buildP (scanL decE O x [])) = true := fun O x h => by
    rw [scanL_nil]
    unfold buildP
    rcases h with h | ⟨n, hn, h1, h2⟩
    · exact quiet_end (quiet_flush O x h)
    · exact raw1_end hn h1 (by rcases h2 with h2 | h2; exact .inl h2.1; exact .inr h2.1)
  induction k with
  | zero =>
    intro l O x hl h
    obtain rfl : l = [] := List.eq_nil_of_length_eq_zero (by omega)
    exact hnil O x h
  | succ k ih =>
    intro l O x hl h
    cases l with
    | nil => exact hnil O x h
    | cons c r =>
      have hlen : (c :: r).length = r.length + 1 := rfl
      rcases h with h | ⟨n, hn, h1, h2⟩
      · by_cases hm : 0 < markN (c :: r)
        · rw [scanL_text decE O x hm]
          have h2 : ((c :: r).drop (markN (c :: r))).length = (c :: r).length - markN (c :: r) := List.length_drop
          exact ih _ O _ (by rw [h2]; omega) (.inl h)
        · have hmk : isMarkB (c :: r) = true := markN_zero (by omega)
          rw [scanL_mark decE O x hmk]
          have hml := markL_len decE r
          refine ih _ _ _ (by omega) ?_
          unfold addT
          cases ho : (markL decE r).1 with
          | none => exact .inl h
          | some u =>
            simp only
            have hq := quiet_flush O x h
            by_cases hk : u.kind = 2
            · obtain ⟨m1, m2, m3, b, m4⟩ := mark_begin hmk u ho hk
              obtain ⟨s, hs⟩ : ∃ s, s = (flushT O x).foldl tokB ([rootL], 0) := ⟨_, rfl⟩
              rw [← hs] at hq
              have he : ((flushT O x ++ [u]).foldl tokB ([rootL], 0)).1 = (startP u s).1 := by
                rw [List.foldl_append, ← hs]
                show (tokB s u).1 = _
                unfold tokB
                rw [if_neg (by rw [hk]; decide), if_pos hk]
              have hca := quiet_closeAll (closesB u.name) s.1.length hq
              unfold InvRaw
              rw [he]
              unfold startP
              by_cases h5 : s.2 = 5000
              · rw [if_pos h5]; exact .inl hca
              rw [if_neg h5]
              match hst : closeAll (closesB u.name) s.1.length s.1, hca with
              | [], hca => exact .inl ⟨fun p hp => (by cases hp), fun p hp => (by cases hp)⟩
              | p :: rr, hca =>
                have hpe : Quiet (endTextL p :: rr) := ⟨fun q hq => by
                  rcases List.mem_cons.1 hq with rfl | hq
                  · exact endText_raw (hca.1 p (List.mem_cons_self ..))
                  · exact hca.1 q (List.mem_cons_of_mem _ hq), fun q hq => by
                  rcases List.mem_cons.1 hq with rfl | hq
                  · rw [(endText_head p).1]; exact hca.2 p (List.mem_cons_self ..)
                  · exact hca.2 q (List.mem_cons_of_mem _ hq)⟩
                rw [putP_cons]
                split
                · refine .inl ⟨fun q hq => ?_, fun q hq => ?_⟩
                  · rcases List.mem_cons.1 hq with rfl | hq
                    · show rawTB (Tr.of ((endTextL p).kids ++ [(⟨u.name, u.attrs, []⟩, Tr.nil)])) = true
                      rw [rawTB_app, hpe.1 _ (List.mem_cons_self ..)]
                      show rawTB (.cons ⟨u.name, u.attrs, []⟩ .nil .nil) = true
                      rw [rawTB]
                      split <;> rfl
                    · exact hpe.1 q (List.mem_cons_of_mem _ hq)
                  · rcases List.mem_cons.1 hq with rfl | hq
                    · exact hpe.2 (endTextL p) (List.mem_cons_self ..)
                    · exact hpe.2 q (List.mem_cons_of_mem _ hq)
                · by_cases hr : rawB u.name = true
                  · rw [if_pos hr] at m4
                    refine .inr ⟨u.name, hr, ⟨u.attrs, endTextL p :: rr, rfl, by simp, hpe⟩, ?_⟩
                    rw [m4]
                    exact rawIn_size u.name b
                  · refine .inl ⟨fun q hq => ?_, fun q hq => ?_⟩
                    · rcases List.mem_cons.1 hq with rfl | hq
                      · rfl
                      · exact hpe.1 q hq
                    · rcases List.mem_cons.1 hq with rfl | hq
                      · simpa using hr
                      · exact hpe.2 q hq
            · have he : Quiet ((flushT O x ++ [u]).foldl tokB ([rootL], 0)).1 := by
                rw [List.foldl_append]
                show Quiet (tokB ((flushT O x).foldl tokB ([rootL], 0)) u).1
                generalize (flushT O x).foldl tokB ([rootL], 0) = s at hq ⊢
                unfold tokB
                split
                · exact quiet_chars _ hq
                · first | rw [if_neg hk] | skip
                  split
                  · unfold endP
                    split
                    · exact hq
                    · exact quiet_closeN _ hq
                  · exact hq
              exact .inl he
      · rcases h2 with ⟨_, h2⟩ | ⟨h2, h3⟩
        · cases h2
        rcases h3 with h3 | h3
        · cases h3
        obtain ⟨hmk, r', hr', hmark⟩ := rawEnd_mark hn h3
        injection hr' with hr1 hr2
        subst hr1 hr2
        rw [scanL_mark decE O x hmk]
        have hml := markL_len decE r
        rcases hmark with ⟨g1, g2⟩ | g
        · refine ih _ _ _ (by omega) ?_
          unfold addT
          rw [g1]
          simp only
          rw [g2]
          refine .inl ?_
          rw [List.foldl_append]
          obtain ⟨A, rr, y, e, e1, e2, e3⟩ := raw1_flushT (x := x) h1
          have hy : n = plainText ∨ rawN n y = y.length := by
            rcases e1 with rfl | rfl
            · exact .inr h2
            · exact .inr rfl
          have hq := raw1_close (A := A) hn e2 e3 hy
          obtain ⟨s, hs⟩ : ∃ s, s = (flushT O x).foldl tokB ([rootL], 0) := ⟨_, rfl⟩
          rw [← hs] at e
          have hfind : findP (fun o => o == n) s.1 = some 1 := by
            rw [e]
            match rr, e2 with
            | q :: rr, _ =>
              simp only [findP]
              rw [if_pos (beq_self_eq_true _)]
          show Quiet (tokB ((flushT O x).foldl tokB ([rootL], 0)) (endT n)).1
          rw [← hs]
          show Quiet (endP n s).1
          unfold endP
          rw [hfind]
          show Quiet (closeTop s.1)
          rw [e]; exact hq
        · rw [g]
          unfold addT
          simp only [List.append_nil]
          exact hnil O x (.inr ⟨n, hn, h1, .inr ⟨h2, .inl rfl⟩⟩)
theorem build_raw (l : List UInt8) : rawTB (buildP (scanL decE [] [] l)) = true :=
  scan_raw _ l [] [] (Nat.le_refl _) (.inl ⟨fun p hp => by obtain rfl := List.mem_singleton.1 hp; rfl, fun p hp => by obtain rfl := List.mem_singleton.1 hp; exact rawB_nil⟩)
end Go.Proofs.YtiejmkjpgjbodaaGreatDoor
