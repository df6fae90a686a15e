import Derived.Test.YtiejmkjpgjbodaaGreatDoorSerV
namespace Go.Proofs.YtiejmkjpgjbodaaGreatDoor
open Go.RowKit
set_option linter.unusedVariables false
set_option linter.unusedSimpArgs false
set_option maxRecDepth 100000
def tlT : Tr → Nat
  | .nil => 0
  | .cons h K R => h.text.length + tlT K + tlT R
def chSum : List TokL → Nat
  | [] => 0
  | t :: r => (if t.kind = 1 then t.text.length else 0) + chSum r
theorem chSum_app (a b : List TokL) : chSum (a ++ b) = chSum a + chSum b := by
  induction a with
  | nil => simp [chSum]
  | cons t r ih => simp only [List.cons_append, chSum, ih]; omega
theorem chSum_flush (O : List TokL) (x : List UInt8) : chSum (flushT O x) = chSum O + x.length := by
  unfold flushT
  split
  · rename_i h; rw [h]; rfl
  · rw [chSum_app]; rfl
def kidsTl (l : List (NdH × Tr)) : Nat := tlT (Tr.of l)
theorem kidsTl_app (a b : List (NdH × Tr)) : kidsTl (a ++ b) = kidsTl a + kidsTl b := by
  induction a with
  | nil => simp [kidsTl, Tr.of, tlT]
  | cons p r ih => obtain ⟨h, k⟩ := p; simp only [kidsTl, List.cons_append, Tr.of, tlT] at ih ⊢; omega
def PartL.tl (p : PartL) : Nat := kidsTl p.kids + p.tail.length
def stTl : List PartL → Nat
  | [] => 0
  | p :: r => p.tl + stTl r
theorem endText_tl (p : PartL) : (endTextL p).tl = p.tl ∧ kidsTl (endTextL p).kids = p.tl := by
  unfold endTextL
  split
  · rename_i h
    refine ⟨rfl, ?_⟩
    unfold PartL.tl; rw [h]; rfl
  · have e : kidsTl (p.kids ++ [textNd p.tail]) = kidsTl p.kids + p.tail.length := by
      rw [kidsTl_app]
      simp [kidsTl, textNd, Tr.of, tlT]
    refine ⟨?_, e⟩
    unfold PartL.tl
    rw [e]; rfl
theorem node_tl (p : PartL) : kidsTl [p.node] = kidsTl p.kids := by simp [kidsTl, PartL.node, Tr.of, tlT]
theorem closeTop_tl (st : List PartL) : stTl (closeTop st) = stTl st := by
  match st with
  | [] => rfl
  | [p] => rfl
  | p :: q :: r =>
    show PartL.tl { q with kids := q.kids ++ [(endTextL p).node] } + stTl r = p.tl + (q.tl + stTl r)
    have h1 : ({ q with kids := q.kids ++ [(endTextL p).node] } : PartL).tl = q.tl + p.tl := by
      unfold PartL.tl
      simp only
      rw [kidsTl_app, node_tl, (endText_tl p).2]
      unfold PartL.tl
      omega
    rw [h1]; omega
theorem closeN_tl (n : Nat) (st : List PartL) : stTl (closeN n st) = stTl st := by
  induction n generalizing st with
  | zero => rfl
  | succ n ih => rw [closeN, ih, closeTop_tl]
theorem closeAll_tl (is : List UInt8 → Bool) (f : Nat) (st : List PartL) : stTl (closeAll is f st) = stTl st := by
  induction f generalizing st with
  | zero => rfl
  | succ f ih =>
    rw [closeAll]
    split
    · rfl
    · rw [ih, closeN_tl]
theorem put_tl (t : TokL) (st : List PartL) (n : Nat) : stTl (putP t st n).1 = stTl st := by
  match st with
  | [] => rfl
  | p :: r =>
    rw [putP_cons]
    split
    · show PartL.tl { endTextL p with kids := (endTextL p).kids ++ [(⟨t.name, t.attrs, []⟩, Tr.nil)] } + stTl r = p.tl + stTl r
      have h1 : ({ endTextL p with kids := (endTextL p).kids ++ [(⟨t.name, t.attrs, []⟩, Tr.nil)] } : PartL).tl = (endTextL p).tl := by
        unfold PartL.tl
        simp only
        rw [kidsTl_app]
        simp [kidsTl, Tr.of, tlT]
      rw [h1, (endText_tl p).1]
    · show (0 + 0) + ((endTextL p).tl + stTl r) = p.tl + stTl r
      rw [(endText_tl p).1]; omega
def EqS (s : BsL) : Prop := s.1 ≠ [] ∧ stW s.1 = s.2
theorem tok_tl {s : BsL} (h : EqS s) (t : TokL) (ht : t.kind = 1 → t.text ≠ []) : EqS (tokB s t) ∧ s.2 ≤ (tokB s t).2 ∧ ((tokB s t).2 < 5000 → stTl (tokB s t).1 = stTl s.1 + (if t.kind = 1 then t.text.length else 0)) := by
  obtain ⟨st, n⟩ := s
  obtain ⟨h1, h2⟩ := h
  simp only at h1 h2
  unfold tokB
  by_cases k1 : t.kind = 1
  · simp only [if_pos k1]
    match st, h1 with
    | p :: r, h1 =>
      rw [charsP_cons]
      split
      · rename_i htl
        split
        · rename_i hn
          exact ⟨⟨h1, h2⟩, Nat.le_refl _, fun hlt => by simp only at hlt; omega⟩
        · have : stW ({ p with tail := t.text } :: r) = stW (p :: r) + tailW t.text := stW_head r _ (by simp [PartL.wt, htl, tailW])
          refine ⟨⟨by simp, ?_⟩, Nat.le_succ _, fun _ => ?_⟩
          · show stW ({ p with tail := t.text } :: r) = n + 1
            rw [this, h2]
            unfold tailW
            rw [if_neg (ht k1)]
          · show PartL.tl { p with tail := t.text } + stTl r = p.tl + stTl r + _
            unfold PartL.tl
            rw [htl]
            simp only [List.length_nil]; omega
      · rename_i htl
        have : stW ({ p with tail := p.tail ++ t.text } :: r) = stW (p :: r) + 0 := stW_head r _ (by simp [PartL.wt, htl, tailW])
        refine ⟨⟨by simp, by show stW ({ p with tail := p.tail ++ t.text } :: r) = n; rw [this, h2]; rfl⟩, Nat.le_refl _, fun _ => ?_⟩
        show PartL.tl { p with tail := p.tail ++ t.text } + stTl r = p.tl + stTl r + _
        unfold PartL.tl
        simp only [List.length_append]; omega
  · simp only [if_neg k1, Nat.add_zero]
    split
    · unfold startP
      simp only
      have g1 := closeAll_wt (closesB t.name) st.length st
      have g2 := closeAll_length (closesB t.name) st.length st
      have g3 := closeAll_tl (closesB t.name) st.length st
      split
      · exact ⟨⟨g2.2 h1, by rw [g1]; exact h2⟩, Nat.le_refl _, fun _ => g3⟩
      · obtain ⟨p1, p2, p3, p4⟩ := put_wt t (closeAll (closesB t.name) st.length st) n (g2.2 h1)
        refine ⟨⟨p3, by rw [p2, p1, g1, h2]⟩, by rw [p2]; exact Nat.le_succ _, fun _ => ?_⟩
        rw [put_tl, g3]
    · split
      · unfold endP
        simp only
        split
        · exact ⟨⟨h1, h2⟩, Nat.le_refl _, fun _ => rfl⟩
        · rename_i k hk
          obtain ⟨k1, k2⟩ := findP_lt hk
          have := closeN_length k st k2
          exact ⟨⟨fun e => by have e : closeN k st = [] := e; rw [e] at this; simp only [List.length_nil] at this; omega, by simp only [closeN_wt]; exact h2⟩, Nat.le_refl _, fun _ => closeN_tl k st⟩
      · exact ⟨⟨h1, h2⟩, Nat.le_refl _, fun _ => rfl⟩
theorem fold_tl (L : List TokL) : ∀ {s : BsL}, EqS s → (∀ t ∈ L, t.kind = 1 → t.text ≠ []) → EqS (L.foldl tokB s) ∧ s.2 ≤ (L.foldl tokB s).2 ∧ ((L.foldl tokB s).2 < 5000 → stTl (L.foldl tokB s).1 = stTl s.1 + chSum L) := by
  induction L with
  | nil => exact fun h _ => ⟨h, Nat.le_refl _, fun _ => rfl⟩
  | cons t r ih =>
    intro s h ht
    obtain ⟨a1, a2, a3⟩ := tok_tl h t (ht t (List.mem_cons_self ..))
    obtain ⟨b1, b2, b3⟩ := ih a1 (fun u hu => ht u (List.mem_cons_of_mem _ hu))
    refine ⟨b1, Nat.le_trans a2 b2, fun hlt => ?_⟩
    show stTl (r.foldl tokB (tokB s t)).1 = _
    rw [b3 hlt, a3 (by have hlt : (r.foldl tokB (tokB s t)).2 < 5000 := hlt; omega)]
    rw [chSum]
    omega
theorem build_tl (L : List TokL) (ht : ∀ t ∈ L, t.kind = 1 → t.text ≠ []) (hc : (buildP L).count < 5000) : tlT (buildP L) = chSum L := by
  obtain ⟨⟨h1, h2⟩, _, h3⟩ := fold_tl L (s := ([rootL], 0)) ⟨by simp, rfl⟩ ht
  have hcnt : (buildP L).count = (L.foldl tokB ([rootL], 0)).2 := by
    unfold buildP
    rw [endTree_count _ h1, h2]
  have h4 := h3 (by rw [← hcnt]; exact hc)
  have h5 : stTl ([rootL] : List PartL) = 0 := rfl
  have h6 : stTl (L.foldl tokB ([rootL], 0)).1 = chSum L := by rw [h4]; show stTl [rootL] + _ = _; rw [h5, Nat.zero_add]
  rw [← h6]
  unfold buildP endTree
  have hl : 0 < (L.foldl tokB ([rootL], 0)).1.length := List.length_pos_iff.2 h1
  have g1 := closeN_length ((L.foldl tokB ([rootL], 0)).1.length - 1) (L.foldl tokB ([rootL], 0)).1 (by omega)
  have g2 := closeN_tl ((L.foldl tokB ([rootL], 0)).1.length - 1) (L.foldl tokB ([rootL], 0)).1
  match hm : closeN ((L.foldl tokB ([rootL], 0)).1.length - 1) (L.foldl tokB ([rootL], 0)).1, g1 with
  | [p], _ =>
    rw [hm] at g2
    rw [← g2]
    exact (endText_tl p).2
  | [], g1 => simp only [List.length_nil] at g1; omega
  | _ :: _ :: _, g1 => simp only [List.length_cons] at g1; omega
theorem esc_ge (q : Bool) (t : List UInt8) : t.length ≤ (escQ q t).length := by
  have := decE_len _ (escQ q t) (Nat.le_refl _)
  rw [dec_esc] at this
  exact this
theorem tok_sum (T : Tr) : ∀ (d : Nat) (pt : Bool), rightB d pt T = true → chSum (tokT T) = tlT T := by
  induction T with
  | nil => exact fun _ _ _ => rfl
  | cons h K R ihK ihR =>
    intro d pt hr
    simp only [rightB, Bool.and_eq_true, decide_eq_true_eq] at hr
    obtain ⟨r1, r2, r3, r4⟩ := hr
    rw [tokT, chSum_app, ihR _ _ r4]
    rw [tlT]
    by_cases hn : h.name = []
    · rw [if_pos hn] at r2 ⊢
      simp only [decide_eq_true_eq] at r2
      rw [r2.2.1]
      simp [chSum, tlT]
    · rw [if_neg hn] at r2 ⊢
      simp only [decide_eq_true_eq] at r2
      rw [r2.1]
      by_cases hv : voidB h.name = true
      · rw [if_pos hv]
        have hK : K = .nil := by rcases r2.2 with e | e
                                 · exact e
                                 · rw [hv] at e; cases e
        rw [hK]
        simp [chSum, tlT]
      · rw [if_neg hv]
        show (if (2 : Nat) = 1 then _ else 0) + chSum (tokT K ++ [⟨3, h.name, [], []⟩]) + tlT R = _
        rw [chSum_app, ihK _ _ r3]
        simp [chSum]
theorem raw_sum {n : List UInt8} {pt : Bool} {K : Tr} {d : Nat} (hr : rightB d false K = true) (hk : rawKidB n pt K = true) : (rawK K).length = tlT K := by
  match K, hk, hr with
  | .nil, _, _ => rfl
  | .cons g K2 .nil, hk, hr =>
    simp only [rawKidB, Bool.and_eq_true, decide_eq_true_eq] at hk
    simp only [rightB, Bool.and_eq_true] at hr
    have r5 := hr.2.1
    rw [if_pos hk.1] at r5
    simp only [decide_eq_true_eq] at r5
    rw [r5.2.1]
    simp [rawK, tlT, hk.1]
  | .cons g K2 (.cons _ _ _), hk, _ => cases hk
theorem write_ge (T : Tr) : ∀ (d : Nat) (pt : Bool), rightB d pt T = true → rawTB T = true → tlT T ≤ (writeT T).length := by
  induction T with
  | nil => exact fun _ _ _ _ => Nat.le_refl _
  | cons h K R ihK ihR =>
    intro d pt hr hw
    simp only [rightB, Bool.and_eq_true, decide_eq_true_eq] at hr
    obtain ⟨r1, r2, r3, r4⟩ := hr
    rw [rawTB, Bool.and_eq_true] at hw
    obtain ⟨w1, w2⟩ := hw
    have i2 := ihR _ _ r4 w2
    rw [writeT, List.length_append]
    rw [tlT]
    by_cases hn : h.name = []
    · rw [if_pos hn] at r2 ⊢
      simp only [decide_eq_true_eq] at r2
      have := esc_ge false h.text
      rw [r2.2.1]
      show h.text.length + 0 + _ ≤ _
      omega
    · rw [if_neg hn] at r2 ⊢
      simp only [decide_eq_true_eq] at r2
      rw [r2.1]
      by_cases hv : voidB h.name = true
      · rw [if_pos hv]
        have hK : K = .nil := by rcases r2.2 with e | e
                                 · exact e
                                 · rw [hv] at e; cases e
        rw [hK]
        show 0 + 0 + _ ≤ _
        omega
      · rw [if_neg hv]
        simp only [List.length_append, List.length_nil]
        by_cases hraw : rawB h.name = true
        · rw [if_pos hraw] at w1 ⊢
          have := raw_sum r3 w1
          omega
        · rw [if_neg hraw] at w1 ⊢
          have := ihK _ _ r3 w1
          omega
theorem next_mark {Rr : Tr} {d : Nat} {R : List UInt8} (r4 : rightB d true Rr = true) (f3 : Rr.all formH = true) (hR : Rr = .nil → R = [] ∨ isMarkB R = true) : writeT Rr ++ R = [] ∨ isMarkB (writeT Rr ++ R) = true := by
  cases Rr with
  | nil => exact hR rfl
  | cons g K2 R2 =>
    refine .inr ?_
    have hg : g.name ≠ [] := by
      intro e
      simp only [rightB, Bool.and_eq_true] at r4
      have := r4.2.1
      rw [if_pos e] at this
      simp only [decide_eq_true_eq] at this
      exact absurd this.2.2.2 (by decide)
    have hgf : elNB g.name = true := by
      simp only [Tr.all, Bool.and_eq_true] at f3
      have := f3.1
      unfold formH at this
      rw [decide_eq_false hg, Bool.false_or, Bool.and_eq_true] at this
      exact this.1
    have e : ∃ Z, writeT (.cons g K2 R2) ++ R = startW g ++ Z := by
      rw [writeT, if_neg hg]
      split
      · exact ⟨writeT R2 ++ R, by rw [List.append_assoc]⟩
      · exact ⟨_, by rw [List.append_assoc, List.append_assoc]⟩
    obtain ⟨Z, e⟩ := e
    rw [e]; exact start_mark hgf Z
theorem scan_more (T : Tr) : ∀ (d : Nat) (pt : Bool) (O : List TokL) (x R : List UInt8), rightB d pt T = true → T.all formH = true → rawTB T = true → rawOKB T = false → (x ≠ [] → pt = true) → (lastT pt T.list = true → R = [] ∨ isMarkB R = true) →
    chSum (flushT O x) + tlT T + R.length < chSum (scanL decE O x (writeT T ++ R)) := by
  induction T with
  | nil => exact fun d pt O x R _ _ _ h _ _ => by cases h
  | cons h K Rr ihK ihR =>
    intro d pt O x R hr hf hw hb hx hR
    have hr0 := hr
    have hf0 := hf
    simp only [rightB, Bool.and_eq_true, decide_eq_true_eq] at hr
    obtain ⟨r1, r2, r3, r4⟩ := hr
    simp only [Tr.all, Bool.and_eq_true] at hf
    obtain ⟨f1, f2, f3⟩ := hf
    rw [rawTB, Bool.and_eq_true] at hw
    obtain ⟨w1, w2⟩ := hw
    by_cases hone : rawOKB (.cons h K .nil) = true
    · have hRr : rawOKB Rr = false := by
        rw [rawOKB] at hone hb
        simp only [rawOKB, Bool.and_true] at hone
        rw [hone, Bool.true_and] at hb
        exact hb
      have hr1 : rightB d pt (.cons h K .nil) = true := by
        simp only [rightB, Bool.and_eq_true, decide_eq_true_eq]
        exact ⟨r1, r2, r3, trivial⟩
      have hf1 : (Tr.cons h K .nil).all formH = true := by
        simp only [Tr.all, Bool.and_eq_true]; exact ⟨f1, f2, trivial⟩
      obtain ⟨O', x', q1, q2, q3⟩ := scan_tree (.cons h K .nil) d pt O x (writeT Rr ++ R) hr1 hf1 hone hx (fun e => by
        have e : decide (h.name = []) = true := e
        rw [e] at r4
        exact next_mark r4 f3 (fun e2 => hR (by rw [e2]; exact e)))
      have hws : writeT (.cons h K Rr) ++ R = writeT (.cons h K .nil) ++ (writeT Rr ++ R) := by
        simp only [writeT, List.append_nil, List.append_assoc]
      have i := ihR d (decide (h.name = [])) O' x' R r4 f3 w2 hRr (fun e => q3 e) (fun e => hR e)
      rw [hws, q1]
      rw [q2, chSum_app, tok_sum _ d pt hr1] at i
      simp only [tlT] at i ⊢
      omega
    · have hn : h.name ≠ [] := by
        intro e
        rw [if_pos e] at r2
        simp only [decide_eq_true_eq] at r2
        apply hone
        rw [r2.2.1, rawOKB, e, if_neg (by rw [rawB_nil]; decide)]; rfl
      rw [if_neg hn] at r2
      simp only [decide_eq_true_eq] at r2
      obtain ⟨n1, n2⟩ : elNB h.name = true ∧ formAB h.attrs = true := by
        unfold formH at f1
        rw [decide_eq_false hn, Bool.false_or, Bool.and_eq_true] at f1
        exact f1
      have hge := write_ge Rr _ _ r4 w2
      have hendl : 0 < (endW h).length := by unfold endW; simp
      by_cases hraw : rawB h.name = true
      · have hv := (raw_low hraw).2.2
        rw [if_pos hraw] at w1
        have hrs := raw_sum r3 w1
        have hpt : h.name = plainText := by
          by_cases e : h.name = plainText
          · exact e
          · exfalso
            apply hone
            rw [decide_eq_false e] at w1
            rw [rawOKB, if_pos hraw, decide_eq_true e, w1]; rfl
        rw [writeT, if_neg hn, if_neg (by rw [hv]; decide), if_pos hraw]
        rw [show startW h ++ (rawK K ++ endW h) ++ writeT Rr ++ R = startW h ++ (rawK K ++ (endW h ++ (writeT Rr ++ R))) by simp only [List.append_assoc]]
        rw [scan_startG O x n1 n2, if_pos hraw]
        have hsz : rawSizeL h.name (rawK K ++ (endW h ++ (writeT Rr ++ R))) = (rawK K ++ (endW h ++ (writeT Rr ++ R))).length := by
          unfold rawSizeL; rw [if_pos hpt]
        rw [hsz, List.take_length, List.drop_length, scanL_nil, chSum_flush, chSum_flush, chSum_app, chSum_flush]
        have e0 : chSum [startT h.name h.attrs] = 0 := rfl
        simp only [List.length_append, tlT, r2.1, List.length_nil]
        omega
      · have hv : ¬ voidB h.name = true := by
          intro e
          have hK : K = .nil := by rcases r2.2 with e2 | e2
                                   · exact e2
                                   · rw [e] at e2; cases e2
          apply hone
          rw [hK, rawOKB, if_neg hraw]; rfl
        rw [if_neg hraw] at w1
        have hKb : rawOKB K = false := by
          by_cases e : rawOKB K = true
          · exact absurd (by rw [rawOKB, if_neg hraw, e]; rfl) hone
          · simpa using e
        have i := ihK (d - 1) false (flushT O x ++ [startT h.name h.attrs]) [] (endW h ++ (writeT Rr ++ R)) r3 f2 w1 hKb (fun e => absurd rfl e) (fun _ => .inr (end_mark h _))
        rw [writeT, if_neg hn, if_neg hv, if_neg hraw]
        rw [show startW h ++ (writeT K ++ endW h) ++ writeT Rr ++ R = startW h ++ (writeT K ++ (endW h ++ (writeT Rr ++ R))) by simp only [List.append_assoc]]
        rw [scan_startG O x n1 n2, if_neg hraw]
        rw [flush_none, chSum_app] at i
        simp only [List.length_append, tlT, r2.1, List.length_nil] at i ⊢
        have e0 : chSum [startT h.name h.attrs] = 0 := rfl
        omega
theorem scan_text_ne (l : List UInt8) : ∀ t ∈ scanL decE [] [] l, t.kind = 1 → t.text ≠ [] := fun t ht hk =>
  ((scan_forms decE _ l [] [] (Nat.le_refl _) ⟨fun t h => (by cases h), fun i a b h => by simp at h⟩ (fun t h => by simp at h)).1.1 t ht).1 hk
theorem scan_name_ne (l : List UInt8) : ∀ t ∈ scanL decE [] [] l, t.kind = 2 → t.name ≠ [] := fun t ht hk e => by
  have := scan_formH _ l [] [] (Nat.le_refl _) (fun t h => by cases h) t ht hk
  have h2 := (scan_w decE (fun l => decE_len _ l (Nat.le_refl _)) (l.length) _ l [] [] (Nat.le_refl _) (by simp) (fun t h => by cases h) t ht).2 hk
  exact h2 e
theorem stable_facts {T : Tr} (hst : T = buildP (scanL decE [] [] (writeT T))) (hc : T.count < 5000) : rightB 31 false T = true ∧ insB [] T = false ∧ T.all formH = true ∧ rawOKB T = true := by
  have h1 : rightB 31 false T = true := by rw [hst]; exact build_right _ (scan_name_ne _)
  have h2 : insB [] T = false := by rw [hst]; exact build_ins _
  have h3 : T.all formH = true := by rw [hst]; exact build_formH _
  have h4 : rawTB T = true := by rw [hst]; exact build_raw _
  refine ⟨h1, h2, h3, ?_⟩
  by_cases e : rawOKB T = true
  · exact e
  · exfalso
    have := scan_more T 31 false [] [] [] h1 h3 h4 (by simpa using e) (fun e => absurd rfl e) (fun _ => .inl rfl)
    rw [List.append_nil] at this
    have h5 := build_tl (scanL decE [] [] (writeT T)) (scan_text_ne _) (by rw [← hst]; exact hc)
    rw [← hst] at h5
    have e0 : chSum (flushT [] []) = 0 := rfl
    omega
theorem right_shallow (T : Tr) : ∀ (d e : Nat) (pt : Bool), rightB d pt T = true → T.depth ≤ e → rightB e pt T = true := by
  induction T with
  | nil => exact fun _ _ _ _ _ => rfl
  | cons h K R ihK ihR =>
    intro d e pt hr hd
    simp only [rightB, Bool.and_eq_true, decide_eq_true_eq, Tr.depth] at hr hd ⊢
    exact ⟨by omega, hr.2.1, ihK _ _ _ hr.2.2.1 (by omega), ihR _ _ _ hr.2.2.2 (by omega)⟩
theorem stable_x {T : Tr} (hst : T = buildP (scanL decE [] [] (writeT T))) (hc : T.count < 5000) (hd : T.depth ≤ 29) (hl : lastT false T.list = false) :
    buildP (scanL decE [] [] (writeT T ++ [120])) = T.app (.cons ⟨[], [], [120]⟩ .nil .nil) := by
  obtain ⟨h1, h2, h3, h4⟩ := stable_facts hst hc
  have h5 := right_shallow T 31 30 false h1 (by omega)
  obtain ⟨O', x', q1, q2, q3⟩ := scan_tree T 30 false [] [] [120] h5 h3 h4 (fun e => absurd rfl e) (fun e => by rw [hl] at e; cases e)
  have hx' : x' = [] := by
    by_cases e : x' = []
    · exact e
    · rw [q3 e] at hl; cases hl
  subst hx'
  rw [flush_none] at q2
  have q2 : O' = tokT T := q2
  subst q2
  have hx : scanL decE (tokT T) [] [120] = tokT T ++ [charsT [120]] := by
    rw [scanL_text decE (tokT T) [] (by decide), show markN [120] = 1 by decide]
    show scanL decE (tokT T) ([] ++ decE [120]) [] = _
    rw [show decE [120] = [120] by decide +kernel, scanL_nil]
    unfold flushT
    rw [if_neg (by decide)]; rfl
  rw [q1, hx]
  obtain ⟨p', g1, g2, g3, g4⟩ := fold_tokT T 30 false rootL [] 0 h5 rfl h2 (by omega) (fun _ => rfl)
  have hpt : p'.tail = [] := by
    by_cases e : p'.tail = []
    · exact e
    · exfalso
      have e1 : (endTextL p').kids = p'.kids ++ [textNd p'.tail] := by unfold endTextL; rw [if_neg e]
      rw [e1] at g4
      have g4 : p'.kids ++ [textNd p'.tail] = T.list := g4
      rw [← g4, lastT_snoc] at hl
      exact absurd (show decide (([] : List UInt8) = []) = false from hl) (by decide)
  have hk : p'.kids = T.list := by
    have e1 : (endTextL p').kids = p'.kids := by unfold endTextL; rw [if_pos hpt]
    rw [← e1, g4]; rfl
  unfold buildP
  rw [List.foldl_append, g1]
  show endTree (tokB ([p'], 0 + T.count) (charsT [120])).1 = _
  have e2 : tokB ([p'], 0 + T.count) (charsT [120]) = ([{ p' with tail := [120] }], 0 + T.count + 1) := by
    show charsP [120] ([p'], 0 + T.count) = _
    rw [charsP_cons, if_pos hpt, if_neg (by omega)]
  rw [e2]
  show Tr.of (endTextL { p' with tail := [120] }).kids = _
  have e3 : (endTextL { p' with tail := [120] }).kids = p'.kids ++ [textNd [120]] := by unfold endTextL; rw [if_neg (by simp)]
  rw [e3, hk]
  apply Tr.list_inj
  rw [Tr.list_of, Tr.list_app]; rfl
end Go.Proofs.YtiejmkjpgjbodaaGreatDoor
