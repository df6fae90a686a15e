/- The writer in memory: its pages, its places; WALK of inner and of a page's String. No statement is proved here. Own work of the verifier. -/
import Derived.Test.YtdeaofnhdbhknaaPnM
import Derived.Test.YtdeaofnhdbhknaaBuilder
namespace Go.Proofs.Ytdeaofnhdbhknaa
open Go.RowKit
set_option linter.unusedVariables false
set_option linter.unusedSimpArgs false
set_option maxRecDepth 100000
structure PgV where
  p : PgL
  ev : Value
  lv : Value
def pgVals (l : List PgV) : List Value := l.flatMap fun q => [q.ev, q.lv]
theorem pgVals_length (l : List PgV) : (pgVals l).length = l.length * 2 := by
  induction l with
  | nil => rfl
  | cons f r ih => unfold pgVals at *; rw [List.flatMap_cons, List.length_append, ih]; simp; omega
theorem pgVals_append (a b : List PgV) : pgVals (a ++ b) = pgVals a ++ pgVals b := by unfold pgVals; rw [List.flatMap_append]
abbrev PlL := Nat × Nat
def plVals (l : List PlL) : List Value := l.flatMap fun q => [.int .i64 (q.1 : Int), .int .i64 (q.2 : Int)]
theorem plVals_length (l : List PlL) : (plVals l).length = l.length * 2 := by
  induction l with
  | nil => rfl
  | cons f r ih => unfold plVals at *; rw [List.flatMap_cons, List.length_append, ih]; simp; omega
theorem plVals_append (a b : List PlL) : plVals (a ++ b) = plVals a ++ plVals b := by unfold plVals; rw [List.flatMap_append]
def apartV (a b : PgV) : Prop := Apart a.ev a.lv b.ev b.lv
/-- the writer at block b: its pages (the innermost one first), its places -/
structure WrM (B b : Nat) (pv bv : Value) (qs : List PgV) (bs : List PlL) (w : World) : Prop where
  blk : w.heap[b]? = some (.cells #[pv, bv] 49 (0, 0))
  pgs : w.ownsRow B 74 2 pv qs.length (pgVals qs.reverse)
  pls : w.ownsRow B 76 2 bv bs.length (plVals bs.reverse)
  each : ∀ q ∈ qs, LnRow B q.ev q.p.1 w ∧ ByRow B q.lv q.p.2 w
  apart : qs.Pairwise apartV
  Bb : B ≤ b
/-- the innermost page -/
theorem WrM.page {B b : Nat} {pv bv : Value} {q : PgV} {rest : List PgV} {bs : List PlL} {w : World} (h : WrM B b pv bv (q :: rest) bs w) : ∃ g c, pv = .slice (some ⟨g, 0, none⟩) (rest.length + 1) c ∧ rest.length + 1 ≤ c ∧ c ≤ maxLen ∧ PgW B g (rest.length * 2) q.p q.ev q.lv w := by
  obtain ⟨h1, h2⟩ := h.each q (List.mem_cons_self ..)
  rcases h.pgs.2 with ⟨_, h0⟩ | ⟨g, cap, cur, rfl, hg, hh, hc, hm, hs, ht⟩
  · cases h0
  · have ha : ∀ j, j < 2 → cur[rest.length * 2 + j]? = [q.ev, q.lv][j]? := fun j hj => by
      have e : (pgVals (q :: rest).reverse)[rest.length * 2 + j]? = [q.ev, q.lv][j]? := by
        rw [List.reverse_cons, pgVals_append, List.getElem?_append_right (by rw [pgVals_length, List.length_reverse]; omega), pgVals_length, List.length_reverse, show rest.length * 2 + j - rest.length * 2 = j by omega]
        rfl
      rw [← e, ← ht, List.getElem?_take, if_pos (by simp only [List.length_cons]; omega), Array.getElem?_toList]
    exact ⟨g, cap, rfl, by simpa using hc, hm, ⟨cur, hh, ha 0 (by decide), ha 1 (by decide)⟩, h1, h2, hg⟩
theorem WrM.cells {B b : Nat} {pv bv : Value} {qs : List PgV} {bs : List PlL} {w : World} (h : WrM B b pv bv qs bs w) : w.cell? ⟨b, 0, none⟩ = some pv ∧ w.cell? ⟨b, 1, none⟩ = some bv ∧ (∀ i, w.frozen? ⟨b, i, none⟩ = false) :=
  ⟨(Lib.cell_of_heap h.blk 0).trans rfl, (Lib.cell_of_heap h.blk 1).trans rfl, fun i => Lib.frozen_of_heap h.blk i⟩
theorem WrM.kept {B b : Nat} {pv bv : Value} {qs : List PgV} {bs : List PlL} {w w' : World} (h : WrM B b pv bv qs bs w) (hb : Below w.heap.size w w') : WrM B b pv bv qs bs w' :=
  ⟨(hb.block b (lt_of_block h.blk)).trans h.blk, h.pgs.kept (grown_none hb) (by cases hv : pv.ownBlock <;> simp), h.pls.kept (grown_none hb) (by cases hv : bv.ownBlock <;> simp),
   fun q hq => ⟨World.ownsRow.kept (h.each q hq).1 (grown_none hb) (by cases hv : q.ev.ownBlock <;> simp), World.ownsRow.kept (h.each q hq).2 (grown_none hb) (by cases hv : q.lv.ownBlock <;> simp)⟩, h.apart, h.Bb⟩
theorem WrM.lt {B b : Nat} {pv bv : Value} {qs : List PgV} {bs : List PlL} {w : World} (h : WrM B b pv bv qs bs w) : b < w.heap.size := lt_of_block h.blk
set_option maxHeartbeats 1000000 in
/-- the page that is written on -/
theorem inner_any (B b : Nat) (pv bv : Value) (q : PgV) (rest : List PgV) (bs : List PlL) (w : World) (h : WrM B b pv bv (q :: rest) bs w) (g c : Nat) (hpv : pv = .slice (some ⟨g, 0, none⟩) (rest.length + 1) c) (hn : rest.length ≤ 1000000000) :
    Calls Try.prog 29 #[.pointer (some ⟨b, 0, none⟩)] w fun e w' => e = .returned (.pointer (some ⟨g, rest.length * 2, none⟩)) ∧ ∃ m, w' = w.drewN m := by
  obtain ⟨c0, -, -⟩ := h.cells
  have c0d : w.drew.cell? ⟨b, 0, none⟩ = some pv := c0
  subst hpv
  have hw1 : IntKind.i64.wrap ((rest.length : Int) + 1 - 1) = (rest.length : Int) := by rw [IntWalk.i64_in _ (by omega)]; omega
  have hw2 : wrap64 ((rest.length : Int) + 1 - 1) = (rest.length : Int) := by unfold wrap64; omega
  have hi : (rest.length : Int) < (rest.length : Int) + 1 := by omega
  clear h
  go_enter Try.func29, Try.ntmps29
  go_wp2_with fail
  go_quiet (fail)
  go_wp2_with fail
  go_ret
  exact ⟨by simp, _, rfl⟩
end Go.Proofs.Ytdeaofnhdbhknaa
