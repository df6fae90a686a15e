/- The writer in memory: a page, a place more; what the walk of a tree asks of it. No statement is proved here. Own work of the verifier. -/
import Derived.Test.YtdeaofnhdbhknaaPnO
import Derived.Test.YtdeaofnhdbhknaaPlnX
namespace Go.Proofs.Ytdeaofnhdbhknaa
open Go.RowKit
set_option linter.unusedVariables false
set_option linter.unusedSimpArgs false
set_option maxRecDepth 100000
theorem info_pg : (Try.prog.info? 74).map (fun i => (i.zero, i.size, i.bytes)) = some (some (.agg #[.slice none 0 0, .slice none 0 0]), 2, 48) := by kernel_rfl
theorem info_pl : (Try.prog.info? 76).map (fun i => (i.zero, i.size, i.bytes)) = some (some (.agg #[.int .i64 0, .int .i64 0]), 2, 16) := by kernel_rfl
/-- append(pages, page{}) -/
theorem wpList_pgs {ops : Array Oper} {rest : List Oper} {o : Oper} {a : Act} {Q : Exit → Act → World → Prop} {w : World} (hgd : o.guard = none) (s x : Operand)
    (ho : o.op = .call { callee := .builtin .append, args := #[s, x], argTypes := #[46, 46] })
    (B : Nat) (v : Value) (l : List PgV) (n : Nat) (hn : l.length = n) (hs : a.eval s = v) (hb : w.ownsRow B 74 2 v n (pgVals l)) (hB : B ≤ w.heap.size) (ad : Addr)
    (hx : a.eval x = .slice (some ad) 1 1) (h0 : w.cell? (ad.add 0) = some (.slice none 0 0)) (h1 : w.cell? (ad.add 1) = some (.slice none 0 0)) (hlen : n + 1 ≤ 1000000001)
    (h : ∀ g' c' w', w'.ownsRow B 74 2 (.slice (some ⟨g', 0, none⟩) (n + 1) c') (n + 1) (pgVals (l ++ [⟨([], []), .slice none 0 0, .slice none 0 0⟩])) → w.grownBy w' v.ownBlock → wpList Try.prog ops Q rest (a.put o.dst (.slice (some ⟨g', 0, none⟩) (n + 1) c')) w') : wpList Try.prog ops Q (o :: rest) a w := by
  subst hn
  obtain ⟨i0, hi, hz0, hz1, hz2⟩ := info_parts info_pg
  refine wpList_append_own2 _ hgd s x 46 ho B 74 i0 (.agg #[.slice none 0 0, .slice none 0 0]) 2 48 Try.underlying46 hi hz0 hz1 hz2 rfl (by decide) v l.length (pgVals l) hs hb ad 1 1 [.slice none 0 0, .slice none 0 0] hx rfl ?_ ?_ (by unfold maxLen; omega) (by omega) hB ?_
  · intro j u hj
    match j, hj with
    | 0, hj => simp at hj; subst hj; exact h0
    | 1, hj => simp at hj; subst hj; exact h1
    | (j + 2), hj => simp at hj
  · intro u hu; simp at hu; subst hu; rfl
  · intro v' w' ho' hg hor
    rcases ho'.2 with ⟨_, h0⟩ | ⟨g', cap', cur, rfl, _⟩
    · cases h0
    · exact h g' cap' w' (by rw [pgVals_append]; exact ho') hg
/-- append(places, a place) at a step of a region that draws its order -/
theorem step_pls {ops : Array Oper} {o : Oper} {a : Act} {w : World} {K : Act → World → Prop} {Q : Exit → Act → World → Prop} {E : Prop} (hgd : o.guard = none) (s x : Operand)
    (ho : o.op = .call { callee := .builtin .append, args := #[s, x], argTypes := #[47, 47] })
    (B : Nat) (v : Value) (l : List PlL) (n : Nat) (hn : l.length = n) (hs : a.eval s = v) (f : PlL) (hb : w.ownsRow B 76 2 v n (plVals l)) (hB : B ≤ w.heap.size) (ad : Addr)
    (hx : a.eval x = .slice (some ad) 1 1) (h0 : w.cell? (ad.add 0) = some (.int .i64 (f.1 : Int))) (h1 : w.cell? (ad.add 1) = some (.int .i64 (f.2 : Int))) (hlen : n + 1 ≤ 1000000001)
    (h : ∀ g' c' w', w'.ownsRow B 76 2 (.slice (some ⟨g', 0, none⟩) (n + 1) c') (n + 1) (plVals (l ++ [f])) → w.grownBy w' v.ownBlock → K (a.put o.dst (.slice (some ⟨g', 0, none⟩) (n + 1) c')) w') :
    if Region.wanted o (yielded ops a.tmps) = true then Oper.wp Try.prog o a w K Q else E := by
  subst hn
  have hw : Region.wanted o (yielded ops a.tmps) = true := by simp [Region.wanted, hgd]
  rw [if_pos hw]
  obtain ⟨i0, hi, hz0, hz1, hz2⟩ := info_parts info_pl
  refine wp_append_own2 _ s x 47 ho B 76 i0 (.agg #[.int .i64 0, .int .i64 0]) 2 16 Try.underlying47 hi hz0 hz1 hz2 rfl (by decide) v l.length (plVals l) hs hb ad 1 1 [.int .i64 (f.1 : Int), .int .i64 (f.2 : Int)] hx rfl ?_ ?_ (by unfold maxLen; omega) (by omega) hB ?_
  · intro j u hj
    match j, hj with
    | 0, hj => simp at hj; subst hj; exact h0
    | 1, hj => simp at hj; subst hj; exact h1
    | (j + 2), hj => simp at hj
  · intro u hu; simp at hu; rcases hu with rfl | rfl <;> rfl
  · intro v' w' ho' hg hor
    rcases ho'.2 with ⟨_, h0⟩ | ⟨g', cap', cur, rfl, _⟩
    · cases h0
    · exact h g' cap' w' (by rw [plVals_append]; exact ho') hg
theorem Apart.none (ev lv : Value) : Apart (.slice none 0 0) (.slice none 0 0) ev lv := fun k h => by rcases h with h | h <;> cases h
/-- a store into the writer's own block -/
theorem wr_cells {w : World} {b : Nat} {pv bv : Value} (i : Nat) (u : Value) (h : w.heap[b]? = some (.cells #[pv, bv] 49 (0, 0))) : (w.setCell ⟨b, i, none⟩ u).heap[b]? = some (.cells ((#[pv, bv] : Array Value).setIfInBounds i u) 49 (0, 0)) := heap_putP u h
theorem WrM.rows {B b : Nat} {pv bv : Value} {qs : List PgV} {bs : List PlL} {w w1 : World} {r : Option Nat} {T : TypeId} (h : WrM B b pv bv qs bs w) (hg : w.grownBy w1 r) (hr : ∀ k, r = some k → ∃ cur, w.heap[k]? = some (Obj.cells cur T (0, 0))) (hT : T ≠ 42 ∧ T ≠ 5) (u : Value) (i : Nat) :
    ∀ q ∈ qs, LnRow B q.ev q.p.1 (w1.setCell ⟨b, i, none⟩ u) ∧ ByRow B q.lv q.p.2 (w1.setCell ⟨b, i, none⟩ u) := fun q hq => by
  obtain ⟨r1, r2⟩ := h.each q hq
  have hne : ∀ {e : TypeId} {sz n : Nat} {v : Value} {xs : List Value}, w.ownsRow B e sz v n xs → e ≠ T → v.ownBlock = Option.none ∨ v.ownBlock ≠ r := fun {e sz n v xs} ho he => by
    cases hr2 : r with
    | none => cases hv : v.ownBlock <;> simp
    | some k =>
      obtain ⟨cur, hc⟩ := hr k hr2
      exact .inr (row_ne_page ho hc he)
  have k1 : LnRow B q.ev q.p.1 w1 := World.ownsRow.kept r1 hg (hne r1 hT.1.symm)
  have k2 : ByRow B q.lv q.p.2 w1 := World.ownsRow.kept r2 hg (hne r2 hT.2.symm)
  have hb1 : ∀ {e : TypeId} {sz n : Nat} {v : Value} {xs : List Value}, w.ownsRow B e sz v n xs → e ≠ 49 → v.ownBlock ≠ some b := fun ho he => row_ne_page ho h.blk he
  exact ⟨ownsRow_setCell_other k1 (hb1 r1 (by decide)) _, ownsRow_setCell_other k2 (hb1 r2 (by decide)) _⟩
theorem own_cells {w : World} {B : Nat} {e : TypeId} {sz n : Nat} {v : Value} {xs : List Value} (h : w.ownsRow B e sz v n xs) : ∀ k, v.ownBlock = some k → ∃ cur, w.heap[k]? = some (Obj.cells cur e (0, 0)) := fun k hk => by
  rcases h.2 with ⟨h0, _⟩ | ⟨g, cap, cur, h0, _, hh, _⟩
  · rw [h0] at hk; cases hk
  · rw [h0] at hk; injection hk with hk; subst hk; exact ⟨cur, hh⟩
theorem frl_grown {B b : Nat} {pv bv : Value} {qs : List PgV} {bs : List PlL} {w w1 : World} {r : Option Nat} {T : TypeId} (h : WrM B b pv bv qs bs w) (hg : w.grownBy w1 r) (hr : ∀ k, r = some k → B ≤ k ∧ ∃ cur, w.heap[k]? = some (Obj.cells cur T (0, 0))) (hT : T ≠ 67 ∧ T ≠ 36) (u : Value) (i : Nat) : FrL B w (w1.setCell ⟨b, i, none⟩ u) := by
  have hbs : ∀ k, k ≠ b → (w1.setCell ⟨b, i, none⟩ u).heap[k]? = w1.heap[k]? := fun k hk => Below.heap_setCell w1 ⟨b, i, none⟩ u k hk
  refine ⟨⟨hg.os, hg.tape, hg.output, by rw [World.size_setCell]; exact hg.size, fun k hk => ?_⟩, fun k cur T' fz hk hT' => ?_⟩
  · refine (hbs k (by have := h.Bb; omega)).trans (hg.block k (by have := h.Bb; have := h.lt; omega) (fun e => ?_))
    have := (hr k e.symm).1; omega
  · have hkb : k ≠ b := by
      rintro rfl
      exact block_ne hk h.blk (by rcases hT' with rfl | rfl <;> decide)
    refine (hbs k hkb).trans (hg.block k (lt_of_block hk) (fun e => ?_))
    obtain ⟨c2, hc2⟩ := (hr k e.symm).2
    exact block_ne hk hc2 (fun e2 => by
      rcases hT' with h0 | h0
      · exact hT.1 (e2.symm.trans h0)
      · exact hT.2 (e2.symm.trans h0))
/-- a place more -/
theorem WrM.setBv {B b : Nat} {pv bv bv' : Value} {qs : List PgV} {bs : List PlL} {w w1 : World} {pl : PlL} (h : WrM B b pv bv qs bs w) (ho : w1.ownsRow B 76 2 bv' (bs.length + 1) (plVals (bs.reverse ++ [pl]))) (hg : w.grownBy w1 bv.ownBlock) :
    WrM B b pv bv' qs (pl :: bs) (w1.setCell ⟨b, 1, none⟩ bv') ∧ FrL B w (w1.setCell ⟨b, 1, none⟩ bv') := by
  have hne := row_ne_page h.pls h.blk (by decide)
  have hb1 : w1.heap[b]? = some (.cells #[pv, bv] 49 (0, 0)) := (hg.block b h.lt (fun e => hne e.symm)).trans h.blk
  have hpg : w1.ownsRow B 74 2 pv qs.length (pgVals qs.reverse) := h.pgs.kept hg (ownsRow_diff (by decide) h.pgs h.pls)
  refine ⟨⟨wr_cells 1 bv' hb1, ownsRow_setCell_other hpg (row_ne_page hpg hb1 (by decide)) _, ?_, h.rows hg (own_cells h.pls) (by decide) _ _, h.apart, h.Bb⟩, frl_grown h hg (fun k e => ⟨(h.pls.lt k e).1, own_cells h.pls k e⟩) (by decide) _ _⟩
  have ho2 := ownsRow_setCell_other ho (a := ⟨b, 1, none⟩) (row_ne_page ho hb1 (by decide)) bv'
  rw [List.reverse_cons]
  exact ho2
/-- a page more -/
theorem WrM.setPv {B b : Nat} {pv bv pv' : Value} {qs : List PgV} {bs : List PlL} {w w1 : World} (h : WrM B b pv bv qs bs w) (ho : w1.ownsRow B 74 2 pv' (qs.length + 1) (pgVals (qs.reverse ++ [⟨([], []), .slice none 0 0, .slice none 0 0⟩]))) (hg : w.grownBy w1 pv.ownBlock) :
    WrM B b pv' bv (⟨([], []), .slice none 0 0, .slice none 0 0⟩ :: qs) bs (w1.setCell ⟨b, 0, none⟩ pv') ∧ FrL B w (w1.setCell ⟨b, 0, none⟩ pv') := by
  have hne := row_ne_page h.pgs h.blk (by decide)
  have hb1 : w1.heap[b]? = some (.cells #[pv, bv] 49 (0, 0)) := (hg.block b h.lt (fun e => hne e.symm)).trans h.blk
  have hpl : w1.ownsRow B 76 2 bv bs.length (plVals bs.reverse) := h.pls.kept hg (ownsRow_diff (by decide) h.pls h.pgs)
  refine ⟨⟨wr_cells 0 pv' hb1, ?_, ownsRow_setCell_other hpl (row_ne_page hpl hb1 (by decide)) _, fun q hq => ?_, List.pairwise_cons.2 ⟨fun q _ => Apart.none _ _, h.apart⟩, h.Bb⟩, frl_grown h hg (fun k e => ⟨(h.pgs.lt k e).1, own_cells h.pgs k e⟩) (by decide) _ _⟩
  · have ho2 := ownsRow_setCell_other ho (a := ⟨b, 0, none⟩) (row_ne_page ho hb1 (by decide)) pv'
    rw [List.reverse_cons]
    exact ho2
  · rcases List.mem_cons.1 hq with rfl | hq
    · exact ⟨World.ownsRow_nil _ _ _ 2, World.ownsRow_nil _ _ _ 1⟩
    · exact h.rows hg (own_cells h.pgs) (by decide) _ _ q hq
/-- one page, one place less: the rows are as they were, but for their lengths -/
theorem row_less {w : World} {B : Nat} {e : TypeId} {g n c : Nat} {xs ys : List Value} (h : w.ownsRow B e 2 (.slice (some ⟨g, 0, none⟩) (n + 1) c) (n + 1) (xs ++ ys)) (hx : xs.length = n * 2) : w.ownsRow B e 2 (.slice (some ⟨g, 0, none⟩) n c) n xs := by
  refine ⟨hx, .inr ?_⟩
  rcases h.2 with ⟨h0, _⟩ | ⟨g', cap, cur, h0, h1, h2, h3, h4, h5, h6⟩
  · cases h0
  · injection h0 with e1 e2 e3
    injection e1 with e1
    injection e1 with e1
    subst e1 e3
    refine ⟨g, c, cur, rfl, h1, h2, by omega, h4, h5, ?_⟩
    have := congrArg (List.take (n * 2)) h6
    rw [List.take_take, Nat.min_eq_left (by omega), List.take_left' hx] at this
    exact this
theorem WrM.popB {B b g c : Nat} {pv : Value} {qs : List PgV} {a : PlL} {bs : List PlL} {w : World} (h : WrM B b pv (.slice (some ⟨g, 0, none⟩) (bs.length + 1) c) qs (a :: bs) w) :
    WrM B b pv (.slice (some ⟨g, 0, none⟩) bs.length c) qs bs (w.setCell ⟨b, 1, none⟩ (.slice (some ⟨g, 0, none⟩) bs.length c)) ∧ FrL B w (w.setCell ⟨b, 1, none⟩ (.slice (some ⟨g, 0, none⟩) bs.length c)) := by
  have hg : w.grownBy w (none : Option Nat) := ⟨rfl, rfl, rfl, Nat.le_refl _, fun _ _ _ => rfl⟩
  have hp := h.pls
  rw [List.reverse_cons, plVals_append] at hp
  have hpl := row_less hp (by rw [plVals_length, List.length_reverse])
  refine ⟨⟨wr_cells 1 _ h.blk, ownsRow_setCell_other h.pgs (row_ne_page h.pgs h.blk (by decide)) _, ownsRow_setCell_other hpl (row_ne_page hpl h.blk (by decide)) _, h.rows (T := 76) hg (fun k e => by cases e) (by decide) _ _, h.apart, h.Bb⟩, frl_grown (T := 76) h hg (fun k e => by cases e) (by decide) _ _⟩
theorem WrM.popP {B b g c : Nat} {bv : Value} {q : PgV} {rest : List PgV} {bs : List PlL} {w : World} (h : WrM B b (.slice (some ⟨g, 0, none⟩) (rest.length + 1) c) bv (q :: rest) bs w) :
    WrM B b (.slice (some ⟨g, 0, none⟩) rest.length c) bv rest bs (w.setCell ⟨b, 0, none⟩ (.slice (some ⟨g, 0, none⟩) rest.length c)) ∧ FrL B w (w.setCell ⟨b, 0, none⟩ (.slice (some ⟨g, 0, none⟩) rest.length c)) := by
  have hg : w.grownBy w (none : Option Nat) := ⟨rfl, rfl, rfl, Nat.le_refl _, fun _ _ _ => rfl⟩
  have hp := h.pgs
  rw [List.reverse_cons, pgVals_append] at hp
  have hpl := row_less hp (by rw [pgVals_length, List.length_reverse])
  refine ⟨⟨wr_cells 0 _ h.blk, ownsRow_setCell_other hpl (row_ne_page hpl h.blk (by decide)) _, ownsRow_setCell_other h.pls (row_ne_page h.pls h.blk (by decide)) _, fun r hr => h.rows (T := 76) hg (fun k e => by cases e) (by decide) _ _ r (List.mem_cons_of_mem _ hr), (List.pairwise_cons.1 h.apart).2, h.Bb⟩, frl_grown (T := 76) h hg (fun k e => by cases e) (by decide) _ _⟩
/-- what the walk of a tree keeps -/
def WrInv (B b : Nat) (s : WS) (w : World) : Prop := ∃ pv bv qs, WrM B b pv bv qs s.2.1 w ∧ qs.map PgV.p = s.1 ∧ OKW s
theorem WrM.level {B b : Nat} {pv bv : Value} {qs : List PgV} {bs : List PlL} {w w' : World} {row : Option Nat} (h : WrM B b pv bv qs bs w) (hg : w.grownBy w' row) (hr : ∀ k, row = some k → B ≤ k ∧ ∃ cur, w.heap[k]? = some (Obj.cells cur 67 (0, 0))) : WrM B b pv bv qs bs w' := by
  have hne : ∀ {e : TypeId} {sz n : Nat} {v : Value} {xs : List Value}, w.ownsRow B e sz v n xs → e ≠ 67 → v.ownBlock = Option.none ∨ v.ownBlock ≠ row := fun {e sz n v xs} ho he => by
    cases hr2 : row with
    | none => cases hv : v.ownBlock <;> simp
    | some k =>
      obtain ⟨cur, hc⟩ := (hr k hr2).2
      exact .inr (row_ne_page ho hc he)
  refine ⟨(hg.block b h.lt (fun e => ?_)).trans h.blk, h.pgs.kept hg (hne h.pgs (by decide)), h.pls.kept hg (hne h.pls (by decide)), fun q hq => ⟨World.ownsRow.kept (h.each q hq).1 hg (hne (h.each q hq).1 (by decide)), World.ownsRow.kept (h.each q hq).2 hg (hne (h.each q hq).2 (by decide))⟩, h.apart, h.Bb⟩
  obtain ⟨cur, hc⟩ := (hr b e.symm).2
  exact block_ne h.blk hc (by decide)
theorem wr_inv (B b : Nat) : InvOK B (WrInv B b) := fun s w w' row ⟨pv, bv, qs, h, hm, ho⟩ hg hr => ⟨pv, bv, qs, h.level hg hr, hm, ho⟩
end Go.Proofs.Ytdeaofnhdbhknaa
