/- The writer of plain texts, pure: a state machine over a tree, its sizes. No statement is proved here. Own work of the verifier. -/
import Derived.Test.YtdeaofnhdbhknaaPnQ
import Derived.Test.YtdeaofnhdbhknaaWalkP
namespace Go.Proofs.Ytdeaofnhdbhknaa
set_option linter.unusedVariables false
set_option linter.unusedSimpArgs false
set_option maxRecDepth 100000
/-! ### the text of a tree -/
def brN : List UInt8 := [98, 114]
def quoN : List UInt8 := [98, 108, 111, 99, 107, 113, 117, 111, 116, 101]
/-- the line that is begun is ended -/
def lfIf (out : List UInt8) : List UInt8 := if out ≠ [] ∧ out.getLast? ≠ some 10 then out ++ [10] else out
/-- a tree's text, behind what its row has already -/
def textR : Tr → List UInt8 → List UInt8
  | .nil, out => out
  | .cons h K R, out => textR R (if h.name = [] then out ++ h.text else if h.name = brN then out ++ [10] else if h.name = quoN then lfIf out ++ quotedL (cutL (textR K [])) else out ++ textR K [])
/-- the writer: its pages, its places, the innermost ones first; how much was written (a ghost) -/
abbrev WS := List PgL × List (Nat × Nat) × Nat
def endLn (p : PgL) (b : Nat × Nat) : PgL := if p.2 ≠ [] ∧ place p ≠ b then putS p [10] else p
def badW (s : WS) : WS := (s.1, s.2.1, s.2.2 + 2000000)
def bgW (s : WS) (h : NdH) (K : Tr) : WS :=
  match s with
  | (p :: ps, b :: bs, g) =>
    if h.name = [] then (putS p h.text :: ps, place (putS p h.text) :: b :: bs, g + h.text.length + 2)
    else if h.name = brN then (putS p [10] :: ps, place (putS p [10]) :: b :: bs, g + 2)
    else if h.name = quoN then (([], []) :: endLn p b :: ps, (0, 0) :: b :: bs, g + 2)
    else (p :: ps, place p :: b :: bs, g + 2)
  | s => badW s
def enW (s : WS) (h : NdH) : WS :=
  match s with
  | (p :: ps, b :: bs, g) =>
    if h.name = quoN then (match ps with
      | p2 :: ps => (quoteP p2 p :: ps, bs, g + 1)
      | [] => badW (p :: ps, b :: bs, g))
    else (p :: ps, bs, g + 1)
  | s => badW s
def dvW (h : NdH) : Bool := decide (h.name ≠ []) && decide (h.name ≠ brN)
theorem bgW_le (s : WS) (h : NdH) (K : Tr) : s.2.2 ≤ (bgW s h K).2.2 := by
  unfold bgW
  split
  · split
    · simp only; omega
    · split
      · simp only; omega
      · split
        · simp only; omega
        · simp only; omega
  · unfold badW; simp only; omega
theorem enW_le (s : WS) (h : NdH) : s.2.2 ≤ (enW s h).2.2 := by
  unfold enW
  split
  · split
    · split
      · simp only; omega
      · unfold badW; simp only; omega
    · simp only; omega
  · unfold badW; simp only; omega
/-- what is written of a row: behind X, where it begins at place b -/
def RelW (b : Nat × Nat) (X : List UInt8) (p : PgL) (out : List UInt8) : Prop :=
  PgOK p ∧ render p = X ++ out ∧ ((out = [] ∧ place p = b) ∨ (out ≠ [] ∧ behindP b (place p)))
theorem RelW.put {b : Nat × Nat} {X out : List UInt8} {p : PgL} (h : RelW b X p out) (s : List UInt8) : RelW b X (putS p s) (out ++ s) := by
  obtain ⟨h1, h2, h3⟩ := h
  refine ⟨putS_ok h1 s, by rw [render_putS, h2, List.append_assoc], ?_⟩
  by_cases hs : s = []
  · subst hs; rw [List.append_nil]; exact h3
  · refine .inr ⟨by simp [hs], ?_⟩
    rcases h3 with ⟨_, h3⟩ | ⟨_, h3⟩
    · rw [← h3]; exact putS_place p s hs
    · exact h3.trans (putS_place p s hs)
theorem render_last (p : PgL) (h : PgOK p) : p.2 ≠ [] ↔ render p ≠ [] ∧ (render p).getLast? ≠ some 10 := by
  unfold render
  rcases List.eq_nil_or_concat p.2 with e | ⟨r, c, e⟩
  · rw [e, List.append_nil]
    refine ⟨fun h => absurd rfl h, fun ⟨h1, h2⟩ => ?_⟩
    rcases List.eq_nil_or_concat p.1 with e1 | ⟨l, x, e1⟩
    · rw [e1] at h1; exact absurd rfl h1
    · refine absurd ?_ h2
      rw [e1, List.concat_eq_append, List.flatMap_append, List.flatMap_singleton, ← List.append_assoc, List.getLast?_concat]
  · rw [e, List.concat_eq_append]
    refine ⟨fun _ => ⟨by simp, ?_⟩, fun _ => by simp⟩
    rw [← List.append_assoc, List.getLast?_concat]
    intro hc
    refine h.2 ?_
    rw [e, List.concat_eq_append, Option.some.inj hc]; simp
theorem RelW.endLn {b : Nat × Nat} {X out : List UInt8} {p : PgL} (h : RelW b X p out) : RelW b X (endLn p b) (lfIf out) := by
  have hh := h
  obtain ⟨h1, h2, h3⟩ := h
  have hl := render_last p h1
  rw [h2] at hl
  unfold Go.Proofs.Ytdeaofnhdbhknaa.endLn lfIf
  rcases h3 with ⟨rfl, h3⟩ | ⟨hne, h3⟩
  · rw [if_neg (fun e => e.2 h3), if_neg (fun e => e.1 rfl)]; exact hh
  · have e : (X ++ out).getLast? = out.getLast? := by
      rcases List.eq_nil_or_concat out with rfl | ⟨r, c, rfl⟩
      · exact absurd rfl hne
      · rw [List.concat_eq_append, ← List.append_assoc, List.getLast?_concat, List.getLast?_concat]
    rw [e] at hl
    by_cases h10 : out.getLast? = some 10
    · rw [if_neg (fun e => (hl.1 e.1).2 h10), if_neg (fun e => e.2 h10)]; exact hh
    · rw [if_pos ⟨hl.2 ⟨by simp [hne], h10⟩, h3.ne⟩, if_pos ⟨hne, h10⟩]; exact hh.put [10]
theorem RelW.quote {b : Nat × Nat} {X out : List UInt8} {p q : PgL} (h : RelW b X p out) (hq : PgOK q) : RelW b X (quoteP p q) (out ++ quotedL (cutL (render q))) := by
  obtain ⟨h1, h2, h3⟩ := h
  refine ⟨quoteP_ok h1 hq, by rw [quoteP_render p q hq, h2, List.append_assoc], ?_⟩
  rcases quoteP_place p q with ⟨e, rfl⟩ | hb
  · rw [e]
    have : quotedL (cutL (render ([], []))) = [] := by
      show quotedL (cutL []) = []
      rw [cutL_nil]; rfl
    rw [this, List.append_nil]; exact h3
  · refine .inr ⟨?_, ?_⟩
    · intro e
      have e2 : quotedL (cutL (render q)) = [] := (List.append_eq_nil_iff.1 e).2
      have e3 := congrArg render (show quoteP p q = quoteP p q from rfl)
      have e4 : (quotedL (cutL (render q))).length = 0 := by rw [e2]; rfl
      rw [quotedL_len] at e4
      have e5 : cutL (render q) = [] := List.eq_nil_of_length_eq_zero (by omega)
      rw [cut_render q hq] at e5
      obtain ⟨e6, e7⟩ := List.append_eq_nil_iff.1 e5
      have e8 : q.1 = [] := List.map_eq_nil_iff.1 e6
      have e9 : q.2 = [] := by
        by_cases h : q.2 = []
        · exact h
        · rw [if_neg h] at e7; cases e7
      have : quoteP p q = p := by unfold quoteP; rw [if_pos e9, e8]; rfl
      rw [this] at hb
      exact hb.ne rfl
    · rcases h3 with ⟨_, h3⟩ | ⟨_, h3⟩
      · rw [← h3]; exact hb
      · exact h3.trans hb
/-- how much a tree costs -/
def costT : Tr → Nat
  | .nil => 0
  | .cons h K R => h.text.length + 3 + costT K + costT R
theorem RelW.start (p : PgL) (h : PgOK p) : RelW (place p) (render p) p [] := ⟨h, by rw [List.append_nil], .inl ⟨rfl, rfl⟩⟩
theorem vis_page (T : Tr) (p : PgL) (ps : List PgL) (b : Nat × Nat) (bs : List (Nat × Nat)) (g : Nat) (X out : List UInt8) (h : RelW b X p out) :
    ∃ p' g', vis bgW enW dvW T (p :: ps, b :: bs, g) = (p' :: ps, b :: bs, g') ∧ g' ≤ g + costT T ∧ RelW b X p' (textR T out) := by
  induction T generalizing p ps b bs g X out with
  | nil => exact ⟨p, g, rfl, Nat.le_refl _, h⟩
  | cons n K R ihK ihR =>
    rw [vis, textR]
    by_cases hn : n.name = []
    · rw [if_pos hn]
      have e1 : dvW n = false := by unfold dvW; simp [hn]
      have hq : n.name ≠ quoN := by rw [hn]; decide
      rw [e1, if_neg (by decide)]
      simp only [bgW, enW, if_pos hn, if_neg hq]
      obtain ⟨p', g', e, hg, hr⟩ := ihR _ ps b bs (g + n.text.length + 2 + 1) X _ (h.put n.text)
      exact ⟨p', g', e, by rw [costT]; omega, hr⟩
    · by_cases hb : n.name = brN
      · rw [if_neg hn, if_pos hb]
        have e1 : dvW n = false := by unfold dvW; simp [hb]
        have hq : n.name ≠ quoN := by rw [hb]; decide
        rw [e1, if_neg (by decide)]
        simp only [bgW, enW, if_neg hn, if_pos hb, if_neg hq]
        obtain ⟨p', g', e, hg, hr⟩ := ihR _ ps b bs (g + 2 + 1) X _ (h.put [10])
        exact ⟨p', g', e, by rw [costT]; omega, hr⟩
      · have e1 : dvW n = true := by unfold dvW; simp [hn, hb]
        rw [if_neg hn, if_neg hb, e1, if_pos rfl]
        by_cases hq : n.name = quoN
        · rw [if_pos hq]
          simp only [bgW, if_neg hn, if_neg hb, if_pos hq]
          obtain ⟨q, g1, e2, hg1, hr1⟩ := ihK ([], []) (endLn p b :: ps) (0, 0) (b :: bs) (g + 2) [] [] (RelW.start ([], []) PgOK.nil)
          rw [e2]
          simp only [enW, if_pos hq]
          have hr2 := (h.endLn).quote hr1.1
          rw [hr1.2.1, List.nil_append] at hr2
          obtain ⟨p', g', e, hg, hr⟩ := ihR _ ps b bs (g1 + 1) X _ hr2
          exact ⟨p', g', e, by rw [costT]; omega, hr⟩
        · rw [if_neg hq]
          simp only [bgW, if_neg hn, if_neg hb, if_neg hq]
          obtain ⟨q, g1, e2, hg1, hr1⟩ := ihK p ps (place p) (b :: bs) (g + 2) (render p) [] (RelW.start p h.1)
          rw [e2]
          simp only [enW, if_neg hq]
          have hr2 : RelW b X q (out ++ textR K []) := by
            obtain ⟨r1, r2, r3⟩ := hr1
            obtain ⟨q1, q2, q3⟩ := h
            refine ⟨r1, by rw [r2, q2, List.append_assoc], ?_⟩
            rcases r3 with ⟨r3, r4⟩ | ⟨r3, r4⟩
            · rw [r3, List.append_nil, r4]; exact q3
            · refine .inr ⟨by simp [r3], ?_⟩
              rcases q3 with ⟨_, q3⟩ | ⟨_, q3⟩
              · rw [← q3]; exact r4
              · exact q3.trans r4
          obtain ⟨p', g', e, hg, hr⟩ := ihR _ ps b bs (g1 + 1) X _ hr2
          exact ⟨p', g', e, by rw [costT]; omega, hr⟩
def plainT (T : Tr) : List UInt8 := textR T []
theorem vis_plain (T : Tr) : ∃ p g, vis bgW enW dvW T ([([], [])], [(0, 0)], 0) = ([p], [(0, 0)], g) ∧ g ≤ costT T ∧ render p = plainT T := by
  obtain ⟨p, g, e, hg, hr⟩ := vis_page T ([], []) [] (0, 0) [] 0 [] [] (RelW.start ([], []) PgOK.nil)
  exact ⟨p, g, e, by omega, hr.2.1⟩
/-! ### sizes -/
def lnsW (ps : List PgL) : Nat := (ps.map fun p => p.1.length).sum
def bytW (ps : List PgL) : Nat := (ps.map fun p => (render p).length).sum
/-- the pages are no larger than what was written allows -/
structure OKW (s : WS) : Prop where
  ok : ∀ p ∈ s.1, PgOK p
  lns : lnsW s.1 ≤ s.2.2
  byt : bytW s.1 ≤ s.2.2 * 2000010
  pgs : s.1.length ≤ s.2.2 + 1
  bgs : s.2.1.length ≤ s.2.2 + 1
theorem render_len_putS (p : PgL) (s : List UInt8) : (render (putS p s)).length = (render p).length + s.length := by rw [render_putS, List.length_append]
theorem OKW.start : OKW ([([], [])], [(0, 0)], 0) := ⟨fun p hp => by obtain rfl := List.mem_singleton.1 hp; exact PgOK.nil, Nat.le_refl _, Nat.le_refl _, Nat.le_refl _, Nat.le_refl _⟩
theorem OKW.bg {s : WS} (h : OKW s) (n : NdH) (K : Tr) (hm : (bgW s n K).2.2 ≤ 1000000) : OKW (bgW s n K) := by
  obtain ⟨ps, bs, g⟩ := s
  obtain ⟨h1, h2, h3, h4, h5⟩ := h
  simp only at h1 h2 h3 h4 h5
  cases ps with
  | nil => exact ⟨h1, by show lnsW [] ≤ g + 2000000; exact Nat.zero_le _, Nat.zero_le _, by show (0 : Nat) ≤ _; exact Nat.zero_le _, by show bs.length ≤ g + 2000000 + 1; omega⟩
  | cons p ps => cases bs with
    | nil => exact absurd hm (by show ¬ g + 2000000 ≤ 1000000; omega)
    | cons b bs =>
      have hp := h1 p (List.mem_cons_self ..)
      have hps : ∀ q ∈ ps, PgOK q := fun q hq => h1 q (List.mem_cons_of_mem _ hq)
      simp only [lnsW, bytW, List.map_cons, List.sum_cons, List.length_cons] at h2 h3 h4 h5
      have key : ∀ (t : List UInt8) (q : Nat × Nat), OKW (putS p t :: ps, q :: b :: bs, g + t.length + 2) := fun t q => by
        have a1 := putS_lines p t
        have a2 := render_len_putS p t
        refine ⟨fun q hq => ?_, ?_, ?_, ?_, ?_⟩
        · rcases List.mem_cons.1 hq with rfl | hq
          · exact putS_ok hp t
          · exact hps q hq
        · simp only [lnsW, List.map_cons, List.sum_cons]; omega
        · simp only [bytW, List.map_cons, List.sum_cons]; omega
        · simp only [List.length_cons]; omega
        · simp only [List.length_cons]; omega
      have key2 : ∀ (p' : PgL) (q : Nat × Nat), PgOK p' → p'.1.length ≤ p.1.length + 1 → (render p').length ≤ (render p).length + 1 → OKW (p' :: ps, q :: b :: bs, g + 2) ∧ OKW (([], []) :: p' :: ps, q :: b :: bs, g + 2) := fun p' q hok a1 a2 => by
        have c1 : ∀ q ∈ p' :: ps, PgOK q := fun q hq => by
          rcases List.mem_cons.1 hq with rfl | hq
          · exact hok
          · exact hps q hq
        refine ⟨⟨c1, ?_, ?_, ?_, ?_⟩, ⟨fun q hq => ?_, ?_, ?_, ?_, ?_⟩⟩
        · simp only [lnsW, List.map_cons, List.sum_cons]; omega
        · simp only [bytW, List.map_cons, List.sum_cons]; omega
        · simp only [List.length_cons]; omega
        · simp only [List.length_cons]; omega
        · rcases List.mem_cons.1 hq with rfl | hq
          · exact PgOK.nil
          · exact c1 q hq
        · simp only [lnsW, List.map_cons, List.sum_cons, List.length_nil]; omega
        · simp only [bytW, List.map_cons, List.sum_cons, render, List.flatMap_nil, List.nil_append, List.length_nil]; simp only [render] at a2 h3; omega
        · simp only [List.length_cons]; omega
        · simp only [List.length_cons]; omega
      show OKW (bgW (p :: ps, b :: bs, g) n K)
      unfold bgW
      simp only
      split
      · exact key n.text _
      · split
        · exact (key2 (putS p [10]) _ (putS_ok hp _) (putS_lines p [10]) (Nat.le_of_eq (render_len_putS p [10]))).1
        · split
          · refine (key2 (Go.Proofs.Ytdeaofnhdbhknaa.endLn p b) (0, 0) ?_ ?_ ?_).2
            · unfold Go.Proofs.Ytdeaofnhdbhknaa.endLn; split
              · exact putS_ok hp _
              · exact hp
            · unfold Go.Proofs.Ytdeaofnhdbhknaa.endLn; split
              · exact putS_lines p [10]
              · exact Nat.le_succ _
            · unfold Go.Proofs.Ytdeaofnhdbhknaa.endLn; split
              · exact Nat.le_of_eq (render_len_putS p [10])
              · exact Nat.le_succ _
          · exact (key2 p _ hp (Nat.le_succ _) (Nat.le_succ _)).1
theorem OKW.en {s : WS} (h : OKW s) (n : NdH) (hm : (enW s n).2.2 ≤ 1000000) : OKW (enW s n) := by
  obtain ⟨ps, bs, g⟩ := s
  obtain ⟨h1, h2, h3, h4, h5⟩ := h
  simp only at h1 h2 h3 h4 h5
  cases ps with
  | nil => exact absurd hm (by show ¬ g + 2000000 ≤ 1000000; omega)
  | cons p ps => cases bs with
    | nil => exact absurd hm (by show ¬ g + 2000000 ≤ 1000000; omega)
    | cons b bs =>
      have hp := h1 p (List.mem_cons_self ..)
      have hps : ∀ q ∈ ps, PgOK q := fun q hq => h1 q (List.mem_cons_of_mem _ hq)
      simp only [lnsW, bytW, List.map_cons, List.sum_cons, List.length_cons] at h2 h3 h4 h5
      by_cases hq : n.name = quoN
      · cases ps with
        | nil =>
          have e : enW ([p], b :: bs, g) n = badW ([p], b :: bs, g) := by simp only [enW, if_pos hq]
          rw [e] at hm
          exact absurd hm (by show ¬ g + 2000000 ≤ 1000000; omega)
        | cons p2 ps =>
          have e : enW (p :: p2 :: ps, b :: bs, g) n = (quoteP p2 p :: ps, bs, g + 1) := by simp only [enW, if_pos hq]
          rw [e] at hm ⊢
          simp only at hm
          have hp2 := hps p2 (List.mem_cons_self ..)
          have a1 := quoteP_lines p2 p hp
          have a2 := quoted_len p hp
          have a3 : (render (quoteP p2 p)).length = (render p2).length + (quotedL (cutL (render p))).length := by rw [quoteP_render p2 p hp, List.length_append]
          simp only [List.map_cons, List.sum_cons, List.length_cons] at h2 h3 h4
          refine ⟨fun q hq => ?_, ?_, ?_, ?_, ?_⟩
          · rcases List.mem_cons.1 hq with rfl | hq
            · exact quoteP_ok hp2 hp
            · exact hps q (List.mem_cons_of_mem _ hq)
          · simp only [lnsW, List.map_cons, List.sum_cons]; omega
          · simp only [bytW, List.map_cons, List.sum_cons]; omega
          · simp only [List.length_cons]; omega
          · simp only; omega
      · have e : enW (p :: ps, b :: bs, g) n = (p :: ps, bs, g + 1) := by simp only [enW, if_neg hq]
        rw [e]
        refine ⟨h1, ?_, ?_, ?_, ?_⟩
        · simp only [lnsW, List.map_cons, List.sum_cons]; omega
        · simp only [bytW, List.map_cons, List.sum_cons]
          have := Nat.mul_le_mul_right 2000010 (Nat.le_succ g)
          exact Nat.le_trans h3 this
        · simp only [List.length_cons]; omega
        · simp only; omega
end Go.Proofs.Ytdeaofnhdbhknaa
