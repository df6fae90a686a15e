import Derived.Test.YtiejmkjpgjbodaaGreatDoorTreeI
import Derived.Test.YtiejmkjpgjbodaaGreatDoorTreeS
import Derived.Test.YtiejmkjpgjbodaaGreatDoorBaseQ
namespace Go.Proofs.YtiejmkjpgjbodaaGreatDoor
open Go.RowKit
set_option linter.unusedVariables false
set_option linter.unusedSimpArgs false
set_option maxRecDepth 100000
def elNB (n : List UInt8) : Bool := match n with
  | [] => false
  | c :: r => letterB c && (c :: r).all fun x => !nameEndB x && lowC x == x
def atNB (n : List UInt8) : Bool := match n with
  | [] => false
  | c :: r => (!whs c && !(c == 62)) && ((r.all fun x => !attrEndB x) && (c :: r).all fun x => lowC x == x)
def formAB (A : List AtL) : Bool := A.all (fun a => atNB a.1) && (decide (A.Pairwise fun a b => a.1 ≠ b.1) && decide (A.length ≤ 30))
def formH (h : NdH) : Bool := decide (h.name = []) || (elNB h.name && formAB h.attrs)
theorem elNB_of {n : List UInt8} (h : elNB n = true) : ∃ c r, n = c :: r ∧ letterB c = true ∧ (∀ x ∈ n, nameEndB x = false) ∧ lowL n = n := by
  cases n with
  | nil => cases h
  | cons c r =>
    unfold elNB at h
    simp only [Bool.and_eq_true, List.all_eq_true, Bool.not_eq_true', beq_iff_eq] at h
    exact ⟨c, r, rfl, h.1, fun x hx => (h.2 x hx).1, low_of fun x hx => (h.2 x hx).2⟩
theorem atNB_of {n : List UInt8} (h : atNB n = true) : ∃ c r, n = c :: r ∧ whs c = false ∧ c ≠ 62 ∧ (∀ x ∈ r, attrEndB x = false) ∧ lowL n = n := by
  cases n with
  | nil => cases h
  | cons c r =>
    unfold atNB at h
    simp only [Bool.and_eq_true, List.all_eq_true, Bool.not_eq_true', beq_iff_eq] at h
    obtain ⟨⟨h1, h2⟩, h3, h4⟩ := h
    exact ⟨c, r, rfl, h1, fun e => by rw [e] at h2; exact absurd h2 (by decide), h3, low_of h4⟩
theorem formAB_of {A : List AtL} (h : formAB A = true) : (∀ a ∈ A, atNB a.1 = true) ∧ A.Pairwise (fun a b => a.1 ≠ b.1) ∧ A.length ≤ 30 := by
  unfold formAB at h
  simp only [Bool.and_eq_true, List.all_eq_true, decide_eq_true_eq] at h
  exact ⟨h.1, h.2.1, h.2.2⟩
theorem name_upG {N R : List UInt8} {c : UInt8} (h : ∀ x ∈ N, nameEndB x = false) (hc : nameEndB c = true) : upL nameEndB (N ++ c :: R) = (N, c :: R) := by
  obtain ⟨e1, e2⟩ := tw_of (p := fun c => !nameEndB c) (m := N) (b := R) (c := c) (fun x hx => by simp [h x hx]) (by simp [hc])
  unfold upL
  rw [e1, e2]
theorem attr_backG {a : AtL} (h : atNB a.1 = true) (R : List UInt8) :
    ∃ c r, (attrW (escQ true) a ++ R).dropWhile whs = c :: r ∧ c ≠ 62 ∧ attrL decE (c :: r) = (a, R) := by
  obtain ⟨n, v⟩ := a
  obtain ⟨c, r, hn, h1, h2, h3, h4⟩ := atNB_of h
  have hn : n = c :: r := hn
  subst hn
  refine ⟨c, r ++ 61 :: 34 :: (escQ true v ++ 34 :: R), ?_, h2, ?_⟩
  · unfold attrW
    rw [show (32 :: ((c :: r, v).1 ++ 61 :: 34 :: (escQ true (c :: r, v).2 ++ [34])) ++ R : List UInt8) = 32 :: c :: (r ++ 61 :: 34 :: (escQ true v ++ 34 :: R)) by simp]
    rw [List.dropWhile_cons, if_pos (by decide), List.dropWhile_cons, if_neg (by rw [h1]; decide)]
  · obtain ⟨e1, e2⟩ := tw_of (p := fun c => !attrEndB c) (m := r) (b := 34 :: (escQ true v ++ 34 :: R)) (c := 61) (fun x hx => by simp [h3 x hx]) (by decide)
    obtain ⟨e3, e4⟩ := tw_of (p := fun x => x != 34) (m := escQ true v) (b := R) (c := 34) (fun x hx => by
      have : x ≠ 34 := fun e => escOK.v34 v (by rw [← e]; exact hx)
      simpa using this) (by decide)
    have hu : upL attrEndB (r ++ 61 :: 34 :: (escQ true v ++ 34 :: R)) = (r, 61 :: 34 :: (escQ true v ++ 34 :: R)) := by unfold upL; rw [e1, e2]
    have hv : valueL (34 :: (escQ true v ++ 34 :: R)) = (escQ true v, R) := by
      unfold valueL
      simp only
      rw [if_pos trivial]
      unfold beforeC afterC
      rw [e3, e4]; rfl
    rw [attrL_val (b := 34 :: (escQ true v ++ 34 :: R)) (by rw [hu]; show (61 :: _ : List UInt8).dropWhile whB = _; rw [List.dropWhile_cons, if_neg (by decide)]), hu]
    rw [show (34 :: (escQ true v ++ 34 :: R) : List UInt8).dropWhile whB = 34 :: (escQ true v ++ 34 :: R) by rw [List.dropWhile_cons, if_neg (by decide)], hv]
    simp only
    rw [escOK.vdec]
    rw [show lowL (c :: r) = c :: r from h4]
theorem attrs_backG (R : List UInt8) : ∀ (Bs A : List AtL), (∀ a ∈ Bs, atNB a.1 = true) → (A ++ Bs).Pairwise (fun a b => a.1 ≠ b.1) → (A ++ Bs).length ≤ 30 →
    attrsLL decE A (attrsW (escQ true) Bs ++ 62 :: R) = some (A ++ Bs, R)
  | [], A, _, _, _ => by
    rw [attrsLL_end (r := R) (by show (62 :: R).dropWhile whs = _; rw [List.dropWhile_cons, if_neg (by decide)]), List.append_nil]
  | a :: Bs, A, h1, h2, h3 => by
    have e : attrsW (escQ true) (a :: Bs) ++ 62 :: R = attrW (escQ true) a ++ (attrsW (escQ true) Bs ++ 62 :: R) := by unfold attrsW; rw [List.flatMap_cons, List.append_assoc]
    obtain ⟨c, r, e1, e2, e3⟩ := attr_backG (h1 a (List.mem_cons_self ..)) (attrsW (escQ true) Bs ++ 62 :: R)
    rw [e, attrsLL_go e1 e2, e3]
    have hcnt : countsB A a.1 = true := by
      unfold countsB
      rw [Bool.and_eq_true, decide_eq_true_eq, Bool.not_eq_true', List.any_eq_false]
      refine ⟨by rw [List.length_append] at h3; simp at h3; omega, fun x hx => ?_⟩
      have := (List.pairwise_append.1 h2).2.2 x hx a (List.mem_cons_self ..)
      simpa using this
    simp only
    rw [if_pos hcnt]
    have ea : A ++ a :: Bs = (A ++ [a]) ++ Bs := by simp
    rw [ea] at h2 h3 ⊢
    exact attrs_backG R Bs (A ++ [a]) (fun x hx => h1 x (List.mem_cons_of_mem _ hx)) h2 h3
theorem tag_backG {N R : List UInt8} {A : List AtL} (hN : elNB N = true) (hA : formAB A = true) : tagL decE (N ++ (attrsW (escQ true) A ++ 62 :: R)) = some (N, A, R) := by
  obtain ⟨c, r, _, _, h1, h2⟩ := elNB_of hN
  obtain ⟨a1, a2, a3⟩ := formAB_of hA
  have hu : upL nameEndB (N ++ (attrsW (escQ true) A ++ 62 :: R)) = (N, attrsW (escQ true) A ++ 62 :: R) := by
    cases A with
    | nil => exact name_upG h1 (by decide)
    | cons a B => exact name_upG h1 (by decide)
  unfold tagL
  rw [hu]
  simp only
  rw [attrs_backG R A [] a1 (by simpa using a2) (by simpa using a3), h2]
  rfl
theorem startW_app (h : NdH) (R : List UInt8) : startW h ++ R = 60 :: (h.name ++ (attrsW (escQ true) h.attrs ++ 62 :: R)) := by
  unfold startW; simp
theorem endW_app (h : NdH) (R : List UInt8) : endW h ++ R = 60 :: 47 :: (h.name ++ 62 :: R) := by
  unfold endW; simp
theorem start_mark {h : NdH} (hn : elNB h.name = true) (R : List UInt8) : isMarkB (startW h ++ R) = true := by
  obtain ⟨c, r, e, hc, _⟩ := elNB_of hn
  rw [startW_app, e]
  exact mark_start hc _
theorem end_mark (h : NdH) (R : List UInt8) : isMarkB (endW h ++ R) = true := by
  rw [endW_app]
  simp [isMarkB]
theorem scan_startG (O : List TokL) (x : List UInt8) {h : NdH} (hn : elNB h.name = true) (hA : formAB h.attrs = true) (R : List UInt8) :
    scanL decE O x (startW h ++ R) = if rawB h.name = true then scanL decE (flushT O x ++ [startT h.name h.attrs]) (R.take (rawSizeL h.name R)) (R.drop (rawSizeL h.name R)) else scanL decE (flushT O x ++ [startT h.name h.attrs]) [] R := by
  have hm := start_mark hn R
  obtain ⟨c, r, e, hc, _⟩ := elNB_of hn
  have ht := tag_backG (R := R) hn hA
  rw [startW_app] at hm ⊢
  rw [scanL_mark decE O x hm]
  have hml : markL decE (h.name ++ (attrsW (escQ true) h.attrs ++ 62 :: R)) = startL decE (h.name ++ (attrsW (escQ true) h.attrs ++ 62 :: R)) := by
    rw [e, List.cons_append]; exact markL_start hc _
  rw [hml]
  unfold startL
  rw [ht]
  simp only
  by_cases hr : rawB h.name = true
  · rw [if_pos (show rawL.contains h.name = true from hr), if_pos hr]; rfl
  · rw [if_neg (show ¬ rawL.contains h.name = true from hr), if_neg hr]; rfl
theorem scan_endG (O : List TokL) (x : List UInt8) {h : NdH} (hn : elNB h.name = true) (R : List UInt8) : scanL decE O x (endW h ++ R) = scanL decE (flushT O x ++ [endT h.name]) [] R := by
  have hm := end_mark h R
  obtain ⟨c, r, e, hc, _⟩ := elNB_of hn
  have ht := tag_backG (R := R) (A := []) hn rfl
  rw [show h.name ++ (attrsW (escQ true) [] ++ 62 :: R) = h.name ++ 62 :: R from rfl] at ht
  rw [endW_app] at hm ⊢
  rw [scanL_mark decE O x hm]
  have hml : markL decE (47 :: (h.name ++ 62 :: R)) = endL decE (h.name ++ 62 :: R) := by
    rw [e, List.cons_append]; exact markL_end hc _
  rw [hml]
  unfold endL
  rw [ht]; rfl
theorem scan_txtG (O : List TokL) {t R : List UInt8} (ht : t ≠ []) (hR : R = [] ∨ isMarkB R = true) : scanL decE O [] (escQ false t ++ R) = scanL decE O t R := by
  have hm := markN_upto hR (escQ false t) (escOK.t60 _)
  have hne := escOK.tne _ ht
  obtain ⟨c, r, hcr⟩ : ∃ c r, escQ false t ++ R = c :: r := by
    cases hq : escQ false t with
    | nil => exact absurd hq hne
    | cons c r => exact ⟨c, r ++ R, rfl⟩
  rw [hcr] at hm ⊢
  rw [scanL_text decE O [] (by rw [hm]; exact List.length_pos_iff.2 hne), hm, ← hcr, List.take_left, List.drop_left, escOK.tdec, List.nil_append]
theorem rawEnd_here {n : List UInt8} (hl : lowL n = n) (R : List UInt8) : rawEndB n (60 :: 47 :: (n ++ 62 :: R)) = true := by
  unfold rawEndB
  simp only [Bool.and_eq_true, decide_eq_true_eq]
  refine ⟨by rw [List.length_append]; simp, ?_, ?_⟩
  · rw [List.take_left, hl]; exact beq_self_eq_true _
  · rw [List.getD_eq_getElem?_getD, List.getElem?_append_right (Nat.le_refl _), Nat.sub_self]
    show nameEndB 62 = true
    decide
theorem rawEnd_in {n : List UInt8} (h60 : 60 ∉ n) {y : List UInt8} (hy : y ≠ []) (Z : List UInt8) (h : rawEndB n (y ++ 60 :: 47 :: Z) = true) : rawEndB n y = true := by
  cases y with
  | nil => exact absurd rfl hy
  | cons c y =>
    cases y with
    | nil =>
      exfalso
      unfold rawEndB at h
      split at h
      · rename_i r e; injection e with _ e; injection e with e _; exact absurd e (by decide)
      · cases h
    | cons d q =>
      unfold rawEndB at h
      split at h
      · rename_i r e
        injection e with e1 e
        injection e with e2 e
        subst e1 e2
        have er : r = q ++ 60 :: 47 :: Z := e.symm
        subst er
        simp only [Bool.and_eq_true, decide_eq_true_eq] at h
        obtain ⟨g1, g2, g3⟩ := h
        rcases Nat.lt_trichotomy n.length q.length with hlt | heq | hgt
        · unfold rawEndB
          simp only [Bool.and_eq_true, decide_eq_true_eq]
          refine ⟨hlt, ?_, ?_⟩
          · rw [List.take_append_of_le_length (Nat.le_of_lt hlt)] at g2; exact g2
          · rw [List.getD_eq_getElem?_getD, List.getElem?_append_left hlt, ← List.getD_eq_getElem?_getD] at g3; exact g3
        · exfalso
          rw [heq, List.getD_eq_getElem?_getD, List.getElem?_append_right (Nat.le_refl _), Nat.sub_self] at g3
          exact absurd (show nameEndB 60 = true from g3) (by decide)
        · exfalso
          have e := eq_of_beq g2
          apply h60
          rw [← e]
          have hm : (60 : UInt8) ∈ (q ++ 60 :: 47 :: Z).take n.length := by
            rw [List.take_append, List.mem_append]
            refine .inr ?_
            obtain ⟨k, hk⟩ : ∃ k, n.length - q.length = k + 1 := ⟨n.length - q.length - 1, by omega⟩
            rw [hk, List.take_succ_cons]
            exact List.mem_cons_self ..
          unfold lowL
          exact List.mem_map.2 ⟨60, hm, by decide⟩
      · cases h
theorem rawN_stop {n : List UInt8} (h60 : 60 ∉ n) (hl : lowL n = n) (R : List UInt8) : ∀ x : List UInt8, rawN n x = x.length → rawN n (x ++ 60 :: 47 :: (n ++ 62 :: R)) = x.length
  | [], _ => by
    show rawN n (60 :: 47 :: (n ++ 62 :: R)) = 0
    unfold rawN
    rw [if_pos (rawEnd_here hl R)]
  | c :: x, h => by
    have hc : ¬ rawEndB n (c :: x) = true := fun e => by
      unfold rawN at h
      rw [if_pos e] at h
      simp at h
    have hx : rawN n x = x.length := by
      unfold rawN at h
      rw [if_neg hc] at h
      simpa using h
    have hin : ¬ rawEndB n (c :: (x ++ 60 :: 47 :: (n ++ 62 :: R))) = true := fun e => hc (rawEnd_in h60 (by simp) (n ++ 62 :: R) e)
    rw [List.cons_append]
    unfold rawN
    rw [if_neg hin, rawN_stop h60 hl R x hx]; rfl
def rawKidB (n : List UInt8) (pt : Bool) : Tr → Bool
  | .nil => true
  | .cons g _ .nil => decide (g.name = []) && (pt || decide (rawN n g.text = g.text.length))
  | .cons _ _ (.cons _ _ _) => false
def rawOKB : Tr → Bool
  | .nil => true
  | .cons h K R => (if rawB h.name = true then decide (h.name ≠ plainText) && rawKidB h.name false K else rawOKB K) && rawOKB R
theorem raw_low {n : List UInt8} (h : rawB n = true) : 60 ∉ n ∧ lowL n = n ∧ voidB n = false := by
  have : ∀ m ∈ rawL, 60 ∉ m ∧ lowL m = m ∧ voidB m = false := by decide +kernel
  exact this n (by simpa [rawB] using h)
theorem flush_none (O : List TokL) : flushT O [] = O := if_pos rfl
theorem scan_tree (T : Tr) : ∀ (d : Nat) (pt : Bool) (O : List TokL) (x R : List UInt8), rightB d pt T = true → T.all formH = true → rawOKB T = true → (x ≠ [] → pt = true) → (lastT pt T.list = true → R = [] ∨ isMarkB R = true) →
    ∃ O' x', scanL decE O x (writeT T ++ R) = scanL decE O' x' R ∧ flushT O' x' = flushT O x ++ tokT T ∧ (x' ≠ [] → lastT pt T.list = true) := by
  induction T with
  | nil => exact fun d pt O x R _ _ _ hx _ => ⟨O, x, rfl, by rw [tokT, List.append_nil], hx⟩
  | cons h K Rr ihK ihR =>
    intro d pt O x R hr hf hw hx hR
    simp only [rightB, Bool.and_eq_true, decide_eq_true_eq] at hr
    obtain ⟨r1, r2, r3, r4⟩ := hr
    simp only [Tr.all, Bool.and_eq_true] at hf
    obtain ⟨f1, f2, f3⟩ := hf
    simp only [rawOKB, Bool.and_eq_true] at hw
    obtain ⟨w1, w2⟩ := hw
    by_cases hn : h.name = []
    · rw [if_pos hn] at r2
      simp only [decide_eq_true_eq] at r2
      obtain ⟨s1, s2, s3, s4⟩ := r2
      have hx0 : x = [] := by
        by_cases e : x = []
        · exact e
        · rw [hx e] at s4; cases s4
      subst hx0
      have hnext : writeT Rr ++ R = [] ∨ isMarkB (writeT Rr ++ R) = true := by
        cases Rr with
        | nil => exact hR (by show decide (h.name = []) = true; exact decide_eq_true hn)
        | cons g K2 R2 =>
          refine .inr ?_
          have hg : g.name ≠ [] := by
            intro e
            simp only [rightB, Bool.and_eq_true] at r4
            have := r4.2.1
            rw [if_pos e] at this
            simp only [decide_eq_true_eq] at this
            exact absurd this.2.2.2 (by rw [decide_eq_true hn]; decide)
          have hgf : elNB g.name = true := by
            simp only [Tr.all, Bool.and_eq_true] at f3
            have := f3.1
            unfold formH at this
            rw [decide_eq_false hg, Bool.false_or, Bool.and_eq_true] at this
            exact this.1
          have e : ∃ Z, writeT (.cons g K2 R2) ++ R = startW g ++ Z := by
            rw [writeT, if_neg hg]
            split
            · exact ⟨writeT R2 ++ R, by rw [List.append_assoc]⟩
            · exact ⟨_, by rw [List.append_assoc, List.append_assoc]⟩
          obtain ⟨Z, e⟩ := e
          rw [e]; exact start_mark hgf Z
      obtain ⟨O', x', q1, q2, q3⟩ := ihR d (decide (h.name = [])) O h.text R r4 f3 w2 (fun _ => decide_eq_true hn) (fun e => hR e)
      refine ⟨O', x', ?_, ?_, q3⟩
      · rw [writeT, if_pos hn, List.append_assoc, scan_txtG O s1 hnext, q1]
      · rw [q2, tokT, if_pos hn, flush_none]
        unfold flushT
        rw [if_neg s1, List.append_assoc]; rfl
    · rw [if_neg hn] at r2
      simp only [decide_eq_true_eq] at r2
      have hfo : elNB h.name = true ∧ formAB h.attrs = true := by
        unfold formH at f1
        rw [decide_eq_false hn, Bool.false_or, Bool.and_eq_true] at f1
        exact f1
      obtain ⟨n1, n2⟩ := hfo
      by_cases hv : voidB h.name = true
      · have hraw : ¬ rawB h.name = true := fun e => by have := (raw_low e).2.2; rw [hv] at this; cases this
        obtain ⟨O', x', q1, q2, q3⟩ := ihR d (decide (h.name = [])) (flushT O x ++ [startT h.name h.attrs]) [] R r4 f3 w2 (fun e => absurd rfl e) (fun e => hR e)
        refine ⟨O', x', ?_, ?_, q3⟩
        · rw [writeT, if_neg hn, if_pos hv, List.append_assoc, scan_startG O x n1 n2, if_neg hraw, q1]
        · rw [q2, tokT, if_neg hn, if_pos hv, flush_none, List.append_assoc]; rfl
      · by_cases hraw : rawB h.name = true
        · rw [if_pos hraw] at w1
          simp only [Bool.and_eq_true, decide_eq_true_eq] at w1
          obtain ⟨w0, w1⟩ := w1
          obtain ⟨l1, l2, _⟩ := raw_low hraw
          obtain ⟨x0, k1, k2, k3⟩ : ∃ x0, rawK K = x0 ∧ rawN h.name x0 = x0.length ∧ ∀ M : List TokL, flushT M x0 = M ++ tokT K := by
            match K, w1, r3 with
            | .nil, _, _ => exact ⟨[], rfl, rfl, fun M => by rw [flush_none, tokT, List.append_nil]⟩
            | .cons g K2 .nil, w1, r3 =>
              simp only [rawKidB, Bool.false_or, Bool.and_eq_true, decide_eq_true_eq] at w1
              simp only [rightB, Bool.and_eq_true] at r3
              have r5 := r3.2.1
              rw [if_pos w1.1] at r5
              simp only [decide_eq_true_eq] at r5
              refine ⟨g.text, by simp [rawK, w1.1], w1.2, fun M => ?_⟩
              unfold flushT
              rw [if_neg r5.1, tokT, if_pos w1.1, tokT, List.append_nil]; rfl
            | .cons g K2 (.cons _ _ _), w1, _ => cases w1
          have hsz : rawSizeL h.name (x0 ++ (endW h ++ (writeT Rr ++ R))) = x0.length := by
            unfold rawSizeL
            rw [if_neg w0, endW_app]
            exact rawN_stop l1 l2 _ x0 k2
          obtain ⟨O', x', q1, q2, q3⟩ := ihR d (decide (h.name = [])) (flushT (flushT O x ++ [startT h.name h.attrs]) x0 ++ [endT h.name]) [] R r4 f3 w2 (fun e => absurd rfl e) (fun e => hR e)
          refine ⟨O', x', ?_, ?_, q3⟩
          · rw [writeT, if_neg hn, if_neg hv, if_pos hraw, k1]
            rw [show startW h ++ (x0 ++ endW h) ++ writeT Rr ++ R = startW h ++ (x0 ++ (endW h ++ (writeT Rr ++ R))) by simp only [List.append_assoc]]
            rw [scan_startG O x n1 n2, if_pos hraw, hsz, List.take_left, List.drop_left, scan_endG _ _ n1, q1]
          · rw [q2, tokT, if_neg hn, if_neg hv, flush_none, k3]
            simp only [List.append_assoc, List.cons_append, List.nil_append]
            rfl
        · rw [if_neg hraw] at w1
          obtain ⟨O1, x1, p1, p2, p3⟩ := ihK (d - 1) false (flushT O x ++ [startT h.name h.attrs]) [] (endW h ++ (writeT Rr ++ R)) r3 f2 w1 (fun e => absurd rfl e) (fun _ => .inr (end_mark h _))
          obtain ⟨O', x', q1, q2, q3⟩ := ihR d (decide (h.name = [])) (flushT O1 x1 ++ [endT h.name]) [] R r4 f3 w2 (fun e => absurd rfl e) (fun e => hR e)
          refine ⟨O', x', ?_, ?_, q3⟩
          · rw [writeT, if_neg hn, if_neg hv, if_neg hraw]
            rw [show startW h ++ (writeT K ++ endW h) ++ writeT Rr ++ R = startW h ++ (writeT K ++ (endW h ++ (writeT Rr ++ R))) by simp only [List.append_assoc]]
            rw [scan_startG O x n1 n2, if_neg hraw, p1, scan_endG _ _ n1, q1]
          · rw [q2, tokT, if_neg hn, if_neg hv, flush_none, p2, flush_none]
            simp only [List.append_assoc, List.cons_append, List.nil_append]
            rfl
end Go.Proofs.YtiejmkjpgjbodaaGreatDoor
