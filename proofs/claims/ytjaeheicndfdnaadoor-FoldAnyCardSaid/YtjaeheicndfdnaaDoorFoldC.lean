/- fold.clone: its list of rows that are still to be gone through, in memory. No statement is proved here. Own work of the verifier. -/
import Derived.Test.YtjaeheicndfdnaaDoorFoldB
import Derived.Test.YtjaeheicndfdnaaDoorFoldK
namespace Go.Proofs.YtjaeheicndfdnaaDoor
open Go.RowKit
set_option linter.unusedVariables false
set_option linter.unusedSimpArgs false
set_option maxRecDepth 100000
/-! ### rows of rows -/
abbrev PendV := Value × List KidV
theorem info_rowN : (Tryd.prog.info? 22).map (fun i => (i.zero, i.size, i.bytes)) = some (some (.slice none 0 0), 1, 24) := by kernel_rfl
/-- append(left, row) -/
theorem wpList_row1 {ops : Array Oper} {rest : List Oper} {o : Oper} {a : Act} {Q : Exit → Act → World → Prop} {w : World} (hgd : o.guard = none) (s x : Operand)
    (ho : o.op = .call { callee := .builtin .append, args := #[s, x], argTypes := #[46, 46] })
    (B : Nat) (v : Value) (vs : List Value) (hs : a.eval s = v) (hown : w.ownsRow B 22 1 v vs.length vs) (hB : B ≤ w.heap.size) (ad : Addr) (u : Value)
    (hx : a.eval x = .slice (some ad) 1 1) (h0 : w.cell? (ad.add 0) = some u) (hu : u.oneCell' = true) (hlen : vs.length + 1 ≤ 1073741824)
    (h : ∀ v' w', w'.ownsRow B 22 1 v' (vs.length + 1) (vs ++ [u]) → w.grownBy w' v.ownBlock → wpList Tryd.prog ops Q rest (a.put o.dst v') w') : wpList Tryd.prog ops Q (o :: rest) a w := by
  obtain ⟨i0, hi, hz0, hz1, hz2⟩ := info_parts info_rowN
  refine wpList_append_own2 _ hgd s x 46 ho B 22 i0 (.slice none 0 0) 1 24 Tryd.underlying46 hi hz0 hz1 hz2 rfl (by decide) v vs.length vs hs hown ad 1 1 [u] hx rfl ?_ ?_ (by unfold maxLen; omega) (by omega) hB ?_
  · intro j y hj
    match j, hj with
    | 0, hj => rw [List.getElem?_cons_zero, Option.some.injEq] at hj; subst hj; exact h0
    | j + 1, hj => simp at hj
  · intro y hy
    rw [List.mem_singleton] at hy
    subst hy; exact hu
  · intro v' w' ho' hg _
    exact h v' w' ho' hg
theorem own_short {w : World} {B g cap n : Nat} {e : TypeId} {xs : List Value} {x : Value} (h : w.ownsRow B e 1 (.slice (some ⟨g, 0, none⟩) (n + 1) cap) (n + 1) (xs ++ [x])) : w.ownsRow B e 1 (.slice (some ⟨g, 0, none⟩) n cap) n xs := by
  have hl := h.1
  rw [List.length_append, List.length_singleton] at hl
  refine ⟨by omega, ?_⟩
  rcases h.2 with ⟨h', _⟩ | ⟨g', cap', cur, h', hb, hg, hnc, hcm, hcs, htake⟩
  · simp at h'
  · simp only [Value.slice.injEq, Option.some.injEq, Addr.mk.injEq, and_true, true_and] at h'
    obtain ⟨rfl, rfl⟩ := h'
    refine .inr ⟨g, cap, cur, rfl, hb, hg, by omega, hcm, hcs, ?_⟩
    have := congrArg (List.take n) htake
    rw [List.take_take, Nat.min_eq_left (by omega), List.take_left' (by omega)] at this
    rw [Nat.mul_one]; exact this
theorem grown_then {w w2 w3 : World} {row : Option Nat} (h1 : Below w.heap.size w w2) (h2 : w2.grownBy w3 row) : w.grownBy w3 row :=
  ⟨h2.os.trans h1.os, h2.tape.trans h1.tape, h2.output.trans h1.output, Nat.le_trans h1.size h2.size, fun k hk hr => (h2.block k (Nat.lt_of_lt_of_le hk h1.size) hr).trans (h1.block k hk)⟩
theorem grown_below {w w2 w3 : World} {row : Option Nat} (h1 : w.grownBy w2 row) (h2 : Below w2.heap.size w2 w3) : w.grownBy w3 row :=
  ⟨h2.os.trans h1.os, h2.tape.trans h1.tape, h2.output.trans h1.output, Nat.le_trans h1.size h2.size, fun k hk hr => (h2.block k (Nat.lt_of_lt_of_le hk h1.size)).trans (h1.block k hk hr)⟩
theorem grown_same {w w2 w3 : World} {row : Option Nat} (h1 : w.grownBy w2 row) (h2 : w2.grownBy w3 row) : w.grownBy w3 row :=
  ⟨h2.os.trans h1.os, h2.tape.trans h1.tape, h2.output.trans h1.output, Nat.le_trans h1.size h2.size, fun k hk hr => (h2.block k (Nat.lt_of_lt_of_le hk h1.size) hr).trans (h1.block k hk hr)⟩
theorem nodeVals_set (a b : List KidV) (q q' : KidV) (j : Nat) (u : Value) (hj : j < 4) (h : [Value.string (str q.1.1.name), q.2.1, .string (str q.1.1.text), q.2.2].set j u = [Value.string (str q'.1.1.name), q'.2.1, .string (str q'.1.1.text), q'.2.2]) :
    (nodeVals (a ++ q :: b)).set (a.length * 4 + j) u = nodeVals (a ++ q' :: b) := by
  rw [nodeVals_append, nodeVals_append, List.set_append_right _ _ (by rw [nodeVals_length]; omega), nodeVals_length, show a.length * 4 + j - a.length * 4 = j by omega]
  have e : ∀ z : KidV, nodeVals (z :: b) = [Value.string (str z.1.1.name), z.2.1, .string (str z.1.1.text), z.2.2] ++ nodeVals b := fun z => rfl
  rw [e, e, List.set_append_left _ _ (by simpa using hj), h]
theorem nodeVals_get (a b : List KidV) (q : KidV) (j : Nat) (hj : j < 4) : (nodeVals (a ++ q :: b))[a.length * 4 + j]? = [Value.string (str q.1.1.name), q.2.1, .string (str q.1.1.text), q.2.2][j]? := by
  rw [nodeVals_append, List.getElem?_append_right (by rw [nodeVals_length]; omega), nodeVals_length, show a.length * 4 + j - a.length * 4 = j by omega]
  have e : nodeVals (q :: b) = [Value.string (str q.1.1.name), q.2.1, .string (str q.1.1.text), q.2.2] ++ nodeVals b := rfl
  rw [e, List.getElem?_append_left (by simpa using hj)]
/-- a row of nodes whose parts are known, as a tree -/
theorem row_nodes {C : Nat → Prop} {B : Nat} {v : Value} {ks : List KidV} {w : World} (hrow : w.ownsRow B 32 4 v ks.length (nodeVals ks)) (heach : ∀ q ∈ ks, AttrsC C w q.2.1 q.1.1.attrs ∧ NodesC C w q.2.2 q.1.2) (hv : ∀ k, v.ownBlock = some k → C k) : NodesC C w v (Tr.of (ks.map Prod.fst)) := by
  rcases hrow.2 with ⟨rfl, h0⟩ | ⟨g, cap, cur, rfl, hg, hh, h1, h2, h3, h4⟩
  · have := List.eq_nil_of_length_eq_zero h0
    subst this
    exact .inl ⟨rfl, rfl⟩
  · have hl : (Tr.of (ks.map Prod.fst)).len = ks.length := by rw [Tr.len_of, List.length_map]
    refine .inr ⟨⟨g, 0, none⟩, cap, by rw [hl], by rw [hl]; exact h1, h2, ?_⟩
    have hcell : ∀ j u, (nodeVals ks)[j]? = some u → w.cell? ((⟨g, 0, none⟩ : Addr).add j) = some u := hrow.cells (g := g) rfl
    have hCg : C g := hv g rfl
    have main : ∀ (l pre : List KidV), ks = pre ++ l → NodesAt C w (Tr.of (l.map Prod.fst)) ((⟨g, 0, none⟩ : Addr).add (pre.length * 4)) := by
      intro l
      induction l with
      | nil => intro pre _; exact trivial
      | cons q l ih =>
        intro pre hpre
        obtain ⟨⟨hd, T⟩, va, vk⟩ := q
        have hat : ∀ j, j < 4 → (nodeVals ks)[pre.length * 4 + j]? = [Value.string (str hd.name), va, .string (str hd.text), vk][j]? := fun j hj => by
          rw [hpre]; exact nodeVals_get pre l ((hd, T), (va, vk)) j hj
        have hm := heach ((hd, T), (va, vk)) (by rw [hpre]; exact List.mem_append.2 (.inr (List.mem_cons_self ..)))
        have c0 := hcell _ _ (hat 0 (by decide))
        have c1 := hcell _ _ (hat 1 (by decide))
        have c2 := hcell _ _ (hat 2 (by decide))
        have c3 := hcell _ _ (hat 3 (by decide))
        rw [← Addr.add_add] at c1 c2 c3
        refine ⟨by rw [addr_add_block]; exact hCg, c0, c2, ⟨va, c1, hm.1⟩, ⟨vk, c3, hm.2⟩, ?_⟩
        have := ih (pre ++ [((hd, T), (va, vk))]) (by rw [hpre]; simp)
        rw [List.length_append, Nat.add_mul] at this
        rw [Addr.add_add]
        exact this
    have := main ks [] rfl
    rw [List.length_nil, Nat.zero_mul, Addr.add_zero'] at this
    exact this
/-! ### what is still to be gone through -/
def OldB (B : Nat) : Nat → Prop := fun b => b < B
def NewB (B : Nat) (w : World) : Nat → Prop := fun b => B ≤ b ∧ b < w.heap.size
def apartP (p q : PendV) : Prop := p.1.ownBlock = none ∨ p.1.ownBlock ≠ q.1.ownBlock
/-- the row v with the nodes l is done in w: what its nodes hold lies in blocks from S on -/
def RowDone (B S : Nat) (v : Value) (l : List (NdH × Tr)) (w : World) : Prop :=
  ∃ ks : List KidV, w.ownsRow B 32 4 v ks.length (nodeVals ks) ∧ ks.map Prod.fst = l ∧ ∀ q ∈ ks, AttrsC (NewB S w) w q.2.1 q.1.1.attrs ∧ NodesC (NewB S w) w q.2.2 q.1.2
theorem RowDone.mono {B S S' : Nat} {v : Value} {l : List (NdH × Tr)} {w : World} (h : RowDone B S v l w) (hS : S' ≤ S) : RowDone B S' v l w := by
  obtain ⟨ks, h1, h2, h3⟩ := h
  exact ⟨ks, h1, h2, fun q hq => ⟨(h3 q hq).1.mono (fun _ _ => rfl) (fun b hb => ⟨Nat.le_trans hS hb.1, hb.2⟩), (h3 q hq).2.mono (fun _ _ => rfl) (fun b hb => ⟨Nat.le_trans hS hb.1, hb.2⟩)⟩⟩
/-- where all rows of P are done, the whole is -/
def Wand (B S0 : Nat) (vo : Value) (T : Tr) (P : List PendV) (w : World) : Prop :=
  ∀ w', w.heap.size ≤ w'.heap.size → (∀ k, B ≤ k → k < w.heap.size → (∀ p ∈ P, p.1.ownBlock ≠ some k) → (∀ cur, w.heap[k]? ≠ some (.cells cur 22 (0, 0))) → w'.heap[k]? = w.heap[k]?) →
    (∀ p ∈ P, RowDone B w.heap.size p.1 (p.2.map Prod.fst) w') → RowDone B S0 vo T.list w'
def cntP : List PendV → Nat
  | [] => 0
  | p :: r => cntL (p.2.map Prod.fst) + 1 + cntP r
theorem cntP_append (a b : List PendV) : cntP (a ++ b) = cntP a + cntP b := by induction a with
  | nil => simp [cntP]
  | cons p r ih => simp only [List.cons_append, cntP, ih]; omega
/-- between two rounds of clone's outer loop -/
structure CO (B S0 : Nat) (vo : Value) (T : Tr) (lv : Value) (P : List PendV) (w0 w : World) : Prop where
  left : w.ownsRow B 22 1 lv P.length (P.map Prod.fst)
  pend : ∀ p ∈ P, KRow (OldB B) B p.1 p.2 w
  apart : P.Pairwise apartP
  wand : Wand B S0 vo T P w
  below : Below B w0 w
  size : B ≤ w.heap.size
/-- between two rounds of its inner loop: the row u with the nodes ks is gone through, done are its first ones as they are now, N their rows -/
structure CI (B : Nat) (u : Value) (P0 : List PendV) (ks : List KidV) (lv : Value) (done : List KidV) (N : List PendV) (w1 w : World) : Prop where
  left : w.ownsRow B 22 1 lv (P0 ++ N).length ((P0 ++ N).map Prod.fst)
  row : w.ownsRow B 32 4 u ks.length (nodeVals (done ++ ks.drop done.length))
  fst : done.map Prod.fst = (ks.take done.length).map Prod.fst
  dlen : done.length ≤ ks.length
  nlen : N.length = done.length
  rest : ∀ q ∈ ks.drop done.length, AttrsC (OldB B) w q.2.1 q.1.1.attrs ∧ NodesC (OldB B) w q.2.2 q.1.2
  attrs : ∀ q ∈ done, w.ownsRow w1.heap.size 41 2 q.2.1 q.1.1.attrs.length (atVals q.1.1.attrs)
  kids : ∀ q ∈ done, ∃ p ∈ N, p.1 = q.2.2 ∧ p.2.map Prod.fst = q.1.2.list
  cnt : cntP N = cntL (done.map Prod.fst)
  pend : ∀ p ∈ P0 ++ N, KRow (OldB B) B p.1 p.2 w
  apart : ((u, ks) :: (P0 ++ N)).Pairwise apartP
  fresh : ∀ p ∈ N, ∀ k, p.1.ownBlock = some k → w1.heap.size ≤ k
  frame : ∀ k, B ≤ k → k < w1.heap.size → u.ownBlock ≠ some k → (∀ p ∈ P0, p.1.ownBlock ≠ some k) → (∀ cur, w1.heap[k]? ≠ some (.cells cur 22 (0, 0))) → w.heap[k]? = w1.heap[k]?
  base : B ≤ w1.heap.size
  below : Below B w1 w
  size : w1.heap.size ≤ w.heap.size
theorem apartP_symm {p q : PendV} (h : apartP p q) : apartP q p := by
  unfold apartP at *
  rcases h with h | h
  · cases hq : q.1.ownBlock with
    | none => exact .inl rfl
    | some k => exact .inr (by rw [h]; simp)
  · exact .inr fun e => h e.symm
/-- the last row is taken off -/
theorem CO.pop {B S0 : Nat} {vo : Value} {T : Tr} {g cap : Nat} {P0 : List PendV} {u : Value} {ks : List KidV} {w0 w : World} (h : CO B S0 vo T (.slice (some ⟨g, 0, none⟩) (P0.length + 1) cap) (P0 ++ [(u, ks)]) w0 w) :
    CI B u P0 ks (.slice (some ⟨g, 0, none⟩) P0.length cap) [] [] w w := by
  have hl := h.left
  rw [List.map_append, List.length_append] at hl
  have hk := h.pend (u, ks) (by simp)
  refine ⟨by rw [List.append_nil]; exact own_short hl, hk.row, rfl, Nat.zero_le _, rfl, hk.each, fun q hq => (by cases hq), fun q hq => (by cases hq), rfl, fun p hp => h.pend p (by rw [List.append_nil] at hp; exact List.mem_append.2 (.inl hp)), ?_, fun p hp => (by cases hp), fun k _ _ _ _ _ => rfl, h.size, Below.refl _ _, Nat.le_refl _⟩
  rw [List.append_nil]
  obtain ⟨h1, _, h3⟩ := List.pairwise_append.1 h.apart
  exact List.pairwise_cons.2 ⟨fun q hq => apartP_symm (h3 q hq (u, ks) (List.mem_singleton.2 rfl)), h1⟩
/-- all nodes of the row are done -/
theorem CI.shut {B S0 : Nat} {vo : Value} {T : Tr} {u lv : Value} {P0 N : List PendV} {ks done : List KidV} {w0 w1 w : World} (h : CI B u P0 ks lv done N w1 w) (hd : done.length = ks.length) (hw : Wand B S0 vo T (P0 ++ [(u, ks)]) w1) (hb : Below B w0 w1) :
    CO B S0 vo T lv (P0 ++ N) w0 w := by
  have hfst := h.fst
  rw [hd, List.take_length] at hfst
  have hrow := h.row
  rw [hd, List.drop_length, List.append_nil] at hrow
  obtain ⟨ha1, ha2⟩ := List.pairwise_cons.1 h.apart
  refine ⟨h.left, h.pend, ha2, ?_, hb.trans h.below, Nat.le_trans h.base h.size⟩
  intro w' hs hf hp
  refine hw w' (Nat.le_trans h.size hs) ?_ ?_
  · intro k hB hk hne hty
    have e1 : w.heap[k]? = w1.heap[k]? := h.frame k hB hk (hne (u, ks) (by simp)) (fun p hp => hne p (List.mem_append.2 (.inl hp))) hty
    rw [hf k hB (Nat.lt_of_lt_of_le hk h.size) ?_ (by rw [e1]; exact hty), e1]
    intro p hp
    rcases List.mem_append.1 hp with hp | hp
    · exact hne p (List.mem_append.2 (.inl hp))
    · intro e
      have := h.fresh p hp k e
      omega
  · intro p hp0
    rcases List.mem_append.1 hp0 with hp0 | hp0
    · exact (hp p (List.mem_append.2 (.inl hp0))).mono h.size
    · rw [List.mem_singleton] at hp0
      subst hp0
      have hkeep : ∀ k, B ≤ k → (∃ cur T', w.heap[k]? = some (.cells cur T' (0, 0)) ∧ T' ≠ 22) → (∀ p ∈ P0 ++ N, p.1.ownBlock ≠ some k) → w'.heap[k]? = w.heap[k]? := fun k hB ⟨cur, T', h1, h2⟩ h3 => hf k hB (lt_of_block h1) h3 (fun cur' e => by
        rw [h1] at e
        injection e with e
        injection e with _ e
        exact h2 e)
      have hrow' : w'.ownsRow B 32 4 u done.length (nodeVals done) := by
        rw [← hd] at hrow
        refine ⟨hrow.1, ?_⟩
        rcases hrow.2 with h0 | ⟨g, cap, cur, e0, hg, hh, hr⟩
        · exact .inl h0
        · refine .inr ⟨g, cap, cur, e0, hg, (hkeep g hg ⟨cur, _, hh, by decide⟩ fun p hp e => ?_).trans hh, hr⟩
          rcases ha1 p hp with hx | hx
          · rw [e0] at hx; cases hx
          · rw [e0] at hx; exact hx e.symm
      refine ⟨done, hrow', hfst, fun q hq => ⟨?_, ?_⟩⟩
      · have hat := h.attrs q hq
        have hat' : w'.ownsRow w1.heap.size 41 2 q.2.1 q.1.1.attrs.length (atVals q.1.1.attrs) := by
          refine ⟨hat.1, ?_⟩
          rcases hat.2 with h0 | ⟨g, cap, cur, e0, hg, hh, hr⟩
          · exact .inl h0
          · refine .inr ⟨g, cap, cur, e0, hg, (hkeep g (Nat.le_trans h.base hg) ⟨cur, _, hh, by decide⟩ fun p hp e => ?_).trans hh, hr⟩
            exact ownsRow_other (h.pend p hp).row (r := g) (fun cur' e2 => by
              rw [hh] at e2
              injection e2 with e2
              injection e2 with _ e2
              exact absurd e2 (by decide)) e
        refine ⟨attrs_of_row hat', fun a n c e hl => ?_⟩
        rcases hat'.2 with ⟨h0, _⟩ | ⟨g, cap, cur, e0, hg, hh, hr⟩
        · rw [h0] at e; cases e
        · rw [e0] at e
          injection e with e _ _
          injection e with e
          subst e
          exact ⟨hg, lt_of_block hh⟩
      · obtain ⟨p, hpN, e1, e2⟩ := h.kids q hq
        obtain ⟨kk, r1, r2, r3⟩ := hp p (List.mem_append.2 (.inr hpN))
        have := row_nodes (C := NewB w1.heap.size w') r1 (fun z hz => ⟨(r3 z hz).1.mono (fun _ _ => rfl) (fun b hb => ⟨Nat.le_trans h.size hb.1, hb.2⟩), (r3 z hz).2.mono (fun _ _ => rfl) (fun b hb => ⟨Nat.le_trans h.size hb.1, hb.2⟩)⟩) (fun k e => ⟨h.fresh p hpN k e, (r1.lt k e).2⟩)
        rw [r2, e1, e2, Tr.of_list] at this
        exact this
end Go.Proofs.YtjaeheicndfdnaaDoor
