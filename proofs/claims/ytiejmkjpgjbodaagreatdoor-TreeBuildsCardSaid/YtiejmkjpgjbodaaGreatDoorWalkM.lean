import Derived.Test.YtiejmkjpgjbodaaGreatDoorWalkP
import Derived.Test.YtiejmkjpgjbodaaGreatDoorBaseN
import Derived.Laws.OwnMore
namespace Go.Proofs.YtiejmkjpgjbodaaGreatDoor
open Go.RowKit
set_option linter.unusedVariables false
set_option linter.unusedSimpArgs false
set_option maxRecDepth 100000
structure LevV where
  h : NdH
  av : Value
  kv : Value
  lv : Value
  R : Tr
def LevV.toP (p : LevV) : NdH × Tr := (p.h, p.R)
def levVals (ps : List LevV) : List Value := ps.flatMap fun p => [.string (str p.h.name), p.av, .string (str p.h.text), p.kv, p.lv]
theorem levVals_length (ls : List LevV) : (levVals ls).length = ls.length * 5 := by
  induction ls with
  | nil => rfl
  | cons f r ih => unfold levVals at *; rw [List.flatMap_cons, List.length_append, ih]; simp; omega
theorem levVals_append (a b : List LevV) : levVals (a ++ b) = levVals a ++ levVals b := by unfold levVals; rw [List.flatMap_append]
theorem levVals_at (ps : List LevV) (p : LevV) (j : Nat) (hj : j < 5) : (levVals (ps ++ [p]))[ps.length * 5 + j]? = [Value.string (str p.h.name), p.av, .string (str p.h.text), p.kv, p.lv][j]? := by
  rw [levVals_append, List.getElem?_append_right (by rw [levVals_length]; omega), levVals_length, show ps.length * 5 + j - ps.length * 5 = j by omega]
  rfl
theorem levVals_set (ps : List LevV) (p : LevV) (u : Value) (R' : Tr) : (levVals (ps ++ [p])).set (ps.length * 5 + 4) u = levVals (ps ++ [{ p with lv := u, R := R' }]) := by
  rw [levVals_append, List.set_append_right _ _ (by rw [levVals_length]; omega), levVals_length, show ps.length * 5 + 4 - ps.length * 5 = 4 by omega, levVals_append]
  rfl
def NodeOK (B : Nat) (w : World) (p : LevV) : Prop := AttrsC (fun b => b < B) w p.av p.h.attrs ∧ ∃ K, NodesC (fun b => b < B) w p.kv K
structure LS (B : Nat) (r : Value) (st : List LevV) (W0 w : World) : Prop where
  row : w.ownsRow B 115 5 r st.length (levVals st.reverse)
  left : ∀ p ∈ st, NodesC (fun b => b < B) w p.lv p.R
  node : ∀ p ∈ st, NodeOK B w p
  below : Below B W0 w
  size : B ≤ w.heap.size
theorem same_below {B : Nat} {w w' : World} (hb : Below B w w') : ∀ g, g < B → w'.heap[g]? = w.heap[g]? := fun g hg => hb.block g hg
theorem NodeOK.below {B : Nat} {w w' : World} {p : LevV} (h : NodeOK B w p) (hb : Below B w w') : NodeOK B w' p :=
  ⟨h.1.mono (same_below hb) (fun _ x => x), h.2.imp fun K hK => hK.mono (same_below hb) (fun _ x => x)⟩
def FrL (B : Nat) (w w' : World) : Prop := Below B w w' ∧ ∀ (g : Nat) (cur : Array Value) (T : TypeId) (fz : Nat × Nat), w.heap[g]? = some (Obj.cells cur T fz) → T = 115 ∨ T = 33 → w'.heap[g]? = w.heap[g]?
theorem FrL.own {B B' : Nat} {w w' : World} (h : FrL B w w') {v : Value} {n : Nat} {xs : List Value} (ho : w.ownsRow B' 115 5 v n xs) : w'.ownsRow B' 115 5 v n xs := by
  refine ⟨ho.1, ?_⟩
  rcases ho.2 with h0 | ⟨g, cap, cur, rfl, h1, h2, h3⟩
  · exact .inl h0
  · exact .inr ⟨g, cap, cur, rfl, h1, (h.2 g _ _ _ h2 (.inl rfl)).trans h2, h3⟩
theorem LS.frame {B : Nat} {r : Value} {st : List LevV} {W0 w w' : World} (h : LS B r st W0 w) (hf : FrL B w w') : LS B r st W0 w' :=
  ⟨hf.own h.row, fun p hp => (h.left p hp).mono (same_below hf.1) (fun _ x => x), fun p hp => (h.node p hp).below hf.1, h.below.trans hf.1, Nat.le_trans h.size hf.1.size⟩
theorem FrL.kept {B : Nat} {w w' : World} (hb : Below w.heap.size w w') (hB : B ≤ w.heap.size) : FrL B w w' := ⟨hb.mono hB, fun g cur T fz hg _ => hb.block g (lt_of_block hg)⟩
theorem LS.kept {B : Nat} {r : Value} {st : List LevV} {W0 w w' : World} (h : LS B r st W0 w) (hb : Below w.heap.size w w') : LS B r st W0 w' := h.frame (FrL.kept hb h.size)
theorem LS.form {B : Nat} {r : Value} {st : List LevV} {W0 w : World} (h : LS B r st W0 w) (hs : st ≠ []) : ∃ g cap, r = .slice (some ⟨g, 0, none⟩) st.length cap ∧ st.length ≤ cap ∧ cap ≤ maxLen ∧ B ≤ g ∧ g < w.heap.size := by
  rcases h.row.2 with ⟨rfl, h0⟩ | ⟨g, cap, cur, rfl, hg, hh, hc, hm, _⟩
  · exact absurd (List.eq_nil_of_length_eq_zero h0) hs
  · exact ⟨g, cap, rfl, hc, hm, hg, lt_of_block hh⟩
theorem LS.cells {B g cap : Nat} {p : LevV} {rest : List LevV} {W0 w : World} (h : LS B (.slice (some ⟨g, 0, none⟩) (rest.length + 1) cap) (p :: rest) W0 w) :
    w.cell? ⟨g, rest.length * 5, none⟩ = some (.string (str p.h.name)) ∧ w.cell? ⟨g, rest.length * 5 + 1, none⟩ = some p.av ∧ w.cell? ⟨g, rest.length * 5 + 2, none⟩ = some (.string (str p.h.text)) ∧ w.cell? ⟨g, rest.length * 5 + 3, none⟩ = some p.kv ∧ w.cell? ⟨g, rest.length * 5 + 4, none⟩ = some p.lv ∧ (∀ i, w.frozen? ⟨g, i, none⟩ = false) := by
  have hr := h.row
  rw [List.length_cons] at hr
  have hc : ∀ j, j < 5 → w.cell? ⟨g, rest.length * 5 + j, none⟩ = [Value.string (str p.h.name), p.av, .string (str p.h.text), p.kv, p.lv][j]? := fun j hj => by
    rw [hr.cellAt _ (by omega)]
    have := levVals_at rest.reverse p j hj
    rw [List.length_reverse] at this
    rw [List.reverse_cons]; exact this
  exact ⟨hc 0 (by decide), hc 1 (by decide), hc 2 (by decide), hc 3 (by decide), hc 4 (by decide), fun i => hr.frozenAt i⟩
theorem LS.lev {B g m cap : Nat} {st : List LevV} {W0 w : World} (h : LS B (.slice (some ⟨g, 0, none⟩) m cap) st W0 w) : B ≤ g ∧ ∃ cur, w.heap[g]? = some (Obj.cells cur 115 (0, 0)) := by
  rcases h.row.2 with ⟨h0, _⟩ | ⟨g', cap', cur, h0, hg, hh, hc, hm, _⟩
  · cases h0
  · injection h0 with h0 _ _
    injection h0 with h0
    injection h0 with h0
    subst h0
    exact ⟨hg, cur, hh⟩
theorem LS.putLeft {B g cap : Nat} {p : LevV} {rest : List LevV} {W0 w : World} (h : LS B (.slice (some ⟨g, 0, none⟩) (rest.length + 1) cap) (p :: rest) W0 w) (u : Value) (R' : Tr) (hu : NodesC (fun b => b < B) w u R') :
    LS B (.slice (some ⟨g, 0, none⟩) (rest.length + 1) cap) ({ p with lv := u, R := R' } :: rest) W0 (w.setCell ⟨g, rest.length * 5 + 4, none⟩ u) ∧ w.grownBy (w.setCell ⟨g, rest.length * 5 + 4, none⟩ u) (some g) := by
  have hr := h.row
  rw [List.length_cons] at hr
  obtain ⟨r1, r2⟩ := hr.stored (rest.length * 5 + 4) u
  obtain ⟨hBg, cur, hcur⟩ := h.lev
  have hb : Below B w (w.setCell ⟨g, rest.length * 5 + 4, none⟩ u) := (Below.refl B w).setCell (p := ⟨g, rest.length * 5 + 4, none⟩) hBg u
  refine ⟨⟨?_, ?_, ?_, h.below.trans hb, Nat.le_trans h.size hb.size⟩, r2⟩
  · rw [List.reverse_cons] at r1 ⊢
    have e1 := levVals_set rest.reverse p u R'
    rw [List.length_reverse] at e1
    rw [e1] at r1
    exact r1
  · intro x hx
    rcases List.mem_cons.1 hx with rfl | hx
    · exact hu.mono (same_below hb) (fun _ x => x)
    · exact (h.left x (List.mem_cons_of_mem _ hx)).mono (same_below hb) (fun _ x => x)
  · intro x hx
    rcases List.mem_cons.1 hx with rfl | hx
    · exact NodeOK.below (h.node p (List.mem_cons_self ..)) hb
    · exact (h.node x (List.mem_cons_of_mem _ hx)).below hb
theorem LS.pop {B g cap : Nat} {p q : LevV} {rest : List LevV} {W0 w : World} (h : LS B (.slice (some ⟨g, 0, none⟩) (rest.length + 1 + 1) cap) (p :: q :: rest) W0 w) : LS B (.slice (some ⟨g, 0, none⟩) (rest.length + 1) cap) (q :: rest) W0 w := by
  refine ⟨⟨by rw [levVals_length, List.length_reverse], ?_⟩, fun x hx => h.left x (List.mem_cons_of_mem _ hx), fun x hx => h.node x (List.mem_cons_of_mem _ hx), h.below, h.size⟩
  rcases h.row.2 with ⟨h0, _⟩ | ⟨g', cap', cur, h0, hg, hh, h1, h2, h3, h4⟩
  · cases h0
  · injection h0 with e1 e2 e3
    injection e1 with e1
    injection e1 with e1
    subst e1 e3
    refine .inr ⟨g, cap, cur, rfl, hg, hh, by simp only [List.length_cons] at h1 ⊢; omega, h2, h3, ?_⟩
    have e5 := congrArg (List.take ((q :: rest).length * 5)) h4
    rw [List.take_take, Nat.min_eq_left (by simp only [List.length_cons]; omega)] at e5
    rw [e5, List.reverse_cons, levVals_append]
    have hl : (levVals (q :: rest).reverse).length = (q :: rest).length * 5 := by rw [levVals_length, List.length_reverse]
    rw [List.take_append_of_le_length (Nat.le_of_eq hl.symm), ← hl, List.take_length]
theorem LS.push {B : Nat} {r r' : Value} {st : List LevV} {W0 w w2 : World} {p : LevV} (h : LS B r st W0 w) (hp : NodesC (fun b => b < B) w p.lv p.R) (hn : NodeOK B w p)
    (ho : w2.ownsRow B 115 5 r' (st.length + 1) (levVals st.reverse ++ levVals [p])) (hg : w.grownBy w2 r.ownBlock) : LS B r' (p :: st) W0 w2 := by
  have hb : Below B w w2 := (Below.refl B w).grown hg h.size (fun k e => (h.row.lt k e).1)
  refine ⟨?_, ?_, ?_, h.below.trans hb, Nat.le_trans h.size hb.size⟩
  · rw [List.length_cons, List.reverse_cons, levVals_append]; exact ho
  · intro x hx
    rcases List.mem_cons.1 hx with rfl | hx
    · exact hp.mono (same_below hb) (fun _ x => x)
    · exact (h.left x hx).mono (same_below hb) (fun _ x => x)
  · intro x hx
    rcases List.mem_cons.1 hx with rfl | hx
    · exact hn.below hb
    · exact (h.node x hx).below hb
theorem info_level : (Tryz.prog.info? 115).map (fun i => (i.zero, i.size, i.bytes)) = some (some (.agg #[.string ByteArray.empty, .slice none 0 0, .string ByteArray.empty, .slice none 0 0, .slice none 0 0]), 5, 104) := by kernel_rfl
theorem lev_row (W : World) (c0 c1 c2 c3 c4 : Value) : (W.alloc (.cells #[c0, c1, c2, c3, c4] 115)).cell? ((⟨W.heap.size, 0, none⟩ : Addr).add 0) = some c0 ∧ (W.alloc (.cells #[c0, c1, c2, c3, c4] 115)).cell? ((⟨W.heap.size, 0, none⟩ : Addr).add 1) = some c1 ∧ (W.alloc (.cells #[c0, c1, c2, c3, c4] 115)).cell? ((⟨W.heap.size, 0, none⟩ : Addr).add 2) = some c2 ∧ (W.alloc (.cells #[c0, c1, c2, c3, c4] 115)).cell? ((⟨W.heap.size, 0, none⟩ : Addr).add 3) = some c3 ∧ (W.alloc (.cells #[c0, c1, c2, c3, c4] 115)).cell? ((⟨W.heap.size, 0, none⟩ : Addr).add 4) = some c4 := by
  have h : (W.alloc (.cells #[c0, c1, c2, c3, c4] 115)).heap[W.heap.size]? = some (.cells #[c0, c1, c2, c3, c4] 115 (0, 0)) := by
    show (W.heap.push _)[W.heap.size]? = _
    exact Array.getElem?_push_size
  exact ⟨by rw [Addr.add_lit, Lib.cell_of_heap h]; rfl, by rw [Addr.add_lit, Lib.cell_of_heap h]; rfl, by rw [Addr.add_lit, Lib.cell_of_heap h]; rfl, by rw [Addr.add_lit, Lib.cell_of_heap h]; rfl, by rw [Addr.add_lit, Lib.cell_of_heap h]; rfl⟩
theorem step_level {ops : Array Oper} {o : Oper} {a : Act} {w : World} {K : Act → World → Prop} {Q : Exit → Act → World → Prop} {E : Prop} (hgd : o.guard = none) (s x : Operand)
    (ho : o.op = .call { callee := .builtin .append, args := #[s, x], argTypes := #[116, 116] })
    (B : Nat) (v : Value) (st : List LevV) (hs : a.eval s = v) (hb : w.ownsRow B 115 5 v st.length (levVals st.reverse)) (hB : B ≤ w.heap.size) (ad : Addr) (h : NdH) (A A2 A3 : Option Addr) (m c m2 c2 m3 c3 : Nat) (R : Tr)
    (hx : a.eval x = .slice (some ad) 1 1) (h0 : w.cell? (ad.add 0) = some (.string (str h.name))) (h1 : w.cell? (ad.add 1) = some (.slice A m c)) (h2 : w.cell? (ad.add 2) = some (.string (str h.text))) (h3 : w.cell? (ad.add 3) = some (.slice A2 m2 c2)) (h4 : w.cell? (ad.add 4) = some (.slice A3 m3 c3))
    (hlen : st.length + 1 ≤ 1073741824)
    (hk : ∀ v' w', w'.ownsRow B 115 5 v' (st.length + 1) (levVals st.reverse ++ levVals [⟨h, .slice A m c, .slice A2 m2 c2, .slice A3 m3 c3, R⟩]) → w.grownBy w' v.ownBlock → K (a.put o.dst v') w') :
    if Region.wanted o (yielded ops a.tmps) = true then Oper.wp Tryz.prog o a w K Q else E := by
  have hw : Region.wanted o (yielded ops a.tmps) = true := by simp [Region.wanted, hgd]
  rw [if_pos hw]
  obtain ⟨i0, hi, hz0, hz1, hz2⟩ := info_parts info_level
  refine wp_append_own _ s x 116 ho B 115 i0 _ 5 104 Tryz.underlying116 hi hz0 hz1 hz2 rfl (by decide) v st.length (levVals st.reverse) hs hb ad 1 1 (levVals [⟨h, .slice A m c, .slice A2 m2 c2, .slice A3 m3 c3, R⟩]) hx rfl ?_ ?_ (by unfold maxLen; omega) (by omega) hB ?_
  · intro j u hj
    match j, hj with
    | 0, hj => simp [levVals] at hj; subst hj; exact h0
    | 1, hj => simp [levVals] at hj; subst hj; exact h1
    | 2, hj => simp [levVals] at hj; subst hj; exact h2
    | 3, hj => simp [levVals] at hj; subst hj; exact h3
    | 4, hj => simp [levVals] at hj; subst hj; exact h4
    | (j + 5), hj => simp [levVals] at hj
  · intro u hu
    simp [levVals] at hu
    rcases hu with rfl | rfl | rfl | rfl | rfl <;> rfl
  · intro v' w' ho' hg _
    exact hk v' w' ho' hg
end Go.Proofs.YtiejmkjpgjbodaaGreatDoor
