/- Append of a bare node, and its cells written; a longer tail. No statement is proved here. Own work of the verifier. -/
import Derived.Test.YtjaeheicndfdnaaGreatDoorTreeW
import Derived.Test.YtjaeheicndfdnaaGreatDoorBaseN
namespace Go.Proofs.YtjaeheicndfdnaaGreatDoor
open Go.RowKit
set_option linter.unusedVariables false
set_option linter.unusedSimpArgs false
set_option maxRecDepth 100000
def zeroKid : KidV := ((⟨[], [], []⟩, .nil), (.slice none 0 0, .slice none 0 0))
theorem info_nd14 : (Tryz.prog.info? 33).map (fun i => (i.zero, i.size, i.bytes)) = some (some (.agg #[.string ByteArray.empty, .slice none 0 0, .string ByteArray.empty, .slice none 0 0]), 4, 80) := by kernel_rfl
/-- append(l, a bare node) at a step of a region that draws its order -/
theorem step_node0 {ops : Array Oper} {o : Oper} {a : Act} {w : World} {K : Act → World → Prop} {Q : Exit → Act → World → Prop} {E : Prop} (hgd : o.guard = none) (s x : Operand)
    (ho : o.op = .call { callee := .builtin .append, args := #[s, x], argTypes := #[23, 23] })
    (B : Nat) (v : Value) (ks : List KidV) (hs : a.eval s = v) (hb : w.ownsRow B 33 4 v ks.length (nodeVals ks)) (hB : B ≤ w.heap.size) (ad : Addr)
    (hx : a.eval x = .slice (some ad) 1 1) (h0 : w.cell? (ad.add 0) = some (.string ⟨#[]⟩)) (h1 : w.cell? (ad.add 1) = some (.slice none 0 0)) (h2 : w.cell? (ad.add 2) = some (.string ⟨#[]⟩)) (h3 : w.cell? (ad.add 3) = some (.slice none 0 0))
    (hlen : ks.length + 1 ≤ 1073741824)
    (h : ∀ g' cap' w', w'.ownsRow B 33 4 (.slice (some ⟨g', 0, none⟩) (ks.length + 1) cap') (ks.length + 1) (nodeVals (ks ++ [zeroKid])) → w.grownBy w' v.ownBlock → (some g' = v.ownBlock ∨ g' = w.heap.size) → ks.length + 1 ≤ cap' → cap' ≤ maxLen →
      K (a.put o.dst (.slice (some ⟨g', 0, none⟩) (ks.length + 1) cap')) w') :
    if Region.wanted o (yielded ops a.tmps) = true then Oper.wp Tryz.prog o a w K Q else E := by
  have hw : Region.wanted o (yielded ops a.tmps) = true := by simp [Region.wanted, hgd]
  rw [if_pos hw]
  obtain ⟨i0, hi, hz0, hz1, hz2⟩ := info_parts info_nd14
  refine wp_append_own2 _ s x 23 ho B 33 i0 (.agg #[.string ByteArray.empty, .slice none 0 0, .string ByteArray.empty, .slice none 0 0]) 4 80 Tryz.underlying23 hi hz0 hz1 hz2 rfl (by decide) v ks.length (nodeVals ks) hs hb ad 1 1 (nodeVals [zeroKid]) hx rfl ?_ ?_ (by unfold maxLen; omega) (by omega) hB ?_
  · intro j u hj
    match j, hj with
    | 0, hj => simp [nodeVals, zeroKid] at hj; subst hj; exact h0
    | 1, hj => simp [nodeVals, zeroKid] at hj; subst hj; exact h1
    | 2, hj => simp [nodeVals, zeroKid] at hj; subst hj; exact h2
    | 3, hj => simp [nodeVals, zeroKid] at hj; subst hj; exact h3
    | (j + 4), hj => simp [nodeVals, zeroKid] at hj
  · intro u hu
    simp [nodeVals, zeroKid] at hu
    rcases hu with rfl | rfl | rfl | rfl <;> rfl
  · intro v' w' ho' hg hor
    rcases ho'.2 with ⟨_, h0⟩ | ⟨g', cap', cur, rfl, _, hh, c1, c2, _⟩
    · cases h0
    · refine h g' cap' w' (by rw [nodeVals_append]; exact ho') hg ?_ c1 c2
      rcases hor with e | e
      · exact .inl e
      · exact .inr (by simpa [Value.ownBlock] using e)
/-- the last node of a row is written, cell by cell -/
theorem node_stored {w : World} {B g cap : Nat} {ks : List KidV} (h : w.ownsRow B 33 4 (.slice (some ⟨g, 0, none⟩) (ks.length + 1) cap) (ks.length + 1) (nodeVals (ks ++ [zeroKid]))) (q : KidV) :
    (((((w.setCell ⟨g, ks.length * 4, none⟩ (.string (str q.1.1.name))).setCell ⟨g, ks.length * 4 + 1, none⟩ q.2.1).setCell ⟨g, ks.length * 4 + 2, none⟩ (.string (str q.1.1.text))).setCell ⟨g, ks.length * 4 + 3, none⟩ q.2.2)).ownsRow B 33 4 (.slice (some ⟨g, 0, none⟩) (ks.length + 1) cap) (ks.length + 1) (nodeVals (ks ++ [q])) ∧
    (∀ k, k ≠ g → ((((w.setCell ⟨g, ks.length * 4, none⟩ (.string (str q.1.1.name))).setCell ⟨g, ks.length * 4 + 1, none⟩ q.2.1).setCell ⟨g, ks.length * 4 + 2, none⟩ (.string (str q.1.1.text))).setCell ⟨g, ks.length * 4 + 3, none⟩ q.2.2).heap[k]? = w.heap[k]?) := by
  obtain ⟨a1, b1⟩ := h.stored (ks.length * 4) (.string (str q.1.1.name))
  obtain ⟨a2, b2⟩ := a1.stored (ks.length * 4 + 1) q.2.1
  obtain ⟨a3, b3⟩ := a2.stored (ks.length * 4 + 2) (.string (str q.1.1.text))
  obtain ⟨a4, b4⟩ := a3.stored (ks.length * 4 + 3) q.2.2
  refine ⟨?_, fun k hk => ?_⟩
  · have e : ((((nodeVals (ks ++ [zeroKid])).set (ks.length * 4) (.string (str q.1.1.name))).set (ks.length * 4 + 1) q.2.1).set (ks.length * 4 + 2) (.string (str q.1.1.text))).set (ks.length * 4 + 3) q.2.2 = nodeVals (ks ++ [q]) := by
      have hs : ∀ (j : Nat) (zs : List Value) (u : Value), (nodeVals ks ++ zs).set (ks.length * 4 + j) u = nodeVals ks ++ zs.set j u := fun j zs u => by
        rw [List.set_append_right _ _ (by rw [nodeVals_length]; omega), nodeVals_length, show ks.length * 4 + j - ks.length * 4 = j by omega]
      have h0 := hs 0
      rw [Nat.add_zero] at h0
      rw [nodeVals_append, nodeVals_append, h0, hs, hs, hs]
      rfl
    rw [e] at a4
    exact a4
  · have hne : ∀ (W : World) (i : Nat) (u : Value), (W.setCell ⟨g, i, none⟩ u).heap[k]? = W.heap[k]? := fun W i u => Below.heap_setCell W ⟨g, i, none⟩ u k hk
    rw [hne, hne, hne, hne]
theorem node_row (W : World) (c0 c1 c2 c3 : Value) : (W.alloc (.cells #[c0, c1, c2, c3] 33)).cell? ((⟨W.heap.size, 0, none⟩ : Addr).add 0) = some c0 ∧ (W.alloc (.cells #[c0, c1, c2, c3] 33)).cell? ((⟨W.heap.size, 0, none⟩ : Addr).add 1) = some c1 ∧ (W.alloc (.cells #[c0, c1, c2, c3] 33)).cell? ((⟨W.heap.size, 0, none⟩ : Addr).add 2) = some c2 ∧ (W.alloc (.cells #[c0, c1, c2, c3] 33)).cell? ((⟨W.heap.size, 0, none⟩ : Addr).add 3) = some c3 := by
  have h : (W.alloc (.cells #[c0, c1, c2, c3] 33)).heap[W.heap.size]? = some (.cells #[c0, c1, c2, c3] 33 (0, 0)) := by
    show (W.heap.push _)[W.heap.size]? = _
    exact Array.getElem?_push_size
  exact ⟨by rw [Addr.add_lit, Lib.cell_of_heap h]; rfl, by rw [Addr.add_lit, Lib.cell_of_heap h]; rfl, by rw [Addr.add_lit, Lib.cell_of_heap h]; rfl, by rw [Addr.add_lit, Lib.cell_of_heap h]; rfl⟩
/-- what is known behind the append of a bare node: of the row's new place, and of the row of parts -/
theorem app_facts {C : Nat → Prop} {B b g cap : Nat} {p : PartV} {rest : List PartV} {n : Nat} {W0 W : World} (h : BS C B b (.slice (some ⟨g, 0, none⟩) (rest.length + 1) cap) (p :: rest) n W0 W) {g' cap' : Nat} {w2 : World}
    (ho : w2.ownsRow B 33 4 (.slice (some ⟨g', 0, none⟩) (p.kids.length + 1) cap') (p.kids.length + 1) (nodeVals (p.kids ++ [zeroKid]))) (hg : W.grownBy w2 p.kv.ownBlock) (hor : some g' = p.kv.ownBlock ∨ g' = W.heap.size) :
    g' ≠ g ∧ (∀ i, w2.frozen? ⟨g', i, none⟩ = false) ∧ (w2.cell? ⟨g', p.kids.length * 4, none⟩ = some (.string ⟨#[]⟩) ∧ w2.cell? ⟨g', p.kids.length * 4 + 1, none⟩ = some (.slice none 0 0) ∧ w2.cell? ⟨g', p.kids.length * 4 + 2, none⟩ = some (.string ⟨#[]⟩) ∧ w2.cell? ⟨g', p.kids.length * 4 + 3, none⟩ = some (.slice none 0 0)) ∧
    (∀ i, w2.frozen? ⟨g, i, none⟩ = false) ∧ (∀ i, w2.cell? ⟨g, i, none⟩ = W.cell? ⟨g, i, none⟩) := by
  have hk := (h.kids p (List.mem_cons_self ..)).row
  obtain ⟨q1, q2, q3, q4⟩ := h.rowOut
  have hlt : g < W.heap.size := by
    obtain ⟨g0, c0, e, _, _, _, hl⟩ := h.form (by simp)
    injection e with e _ _
    injection e with e
    injection e with e
    rw [e]; exact hl
  have hnk : p.kv.ownBlock ≠ some g := ownsRow_other hk (fun cur => q4 cur _ (by decide))
  have hgg : w2.heap[g]? = W.heap[g]? := hg.block g hlt (fun e => hnk e.symm)
  have hc : ∀ j, j < 4 → w2.cell? ⟨g', p.kids.length * 4 + j, none⟩ = [Value.string ⟨#[]⟩, .slice none 0 0, .string ⟨#[]⟩, .slice none 0 0][j]? := fun j hj => by
    rw [ho.cellAt _ (by omega), nodeVals_append, List.getElem?_append_right (by rw [nodeVals_length]; omega), nodeVals_length, show p.kids.length * 4 + j - p.kids.length * 4 = j by omega]
    rfl
  refine ⟨fun e => ?_, fun i => ho.frozenAt i, ⟨hc 0 (by decide), hc 1 (by decide), hc 2 (by decide), hc 3 (by decide)⟩, fun i => ?_, fun i => World.cell?_of_block hgg⟩
  · rcases hor with e1 | e1
    · exact hnk (by rw [← e1, e])
    · omega
  · rw [World.frozen?_of_block (a := ⟨g, i, none⟩) hgg]
    exact h.cells.2.2.2.2.2 i
/-- the node that was appended bare, written, and the new row put in its place -/
theorem BS.kidWritten {C : Nat → Prop} {B b g cap : Nat} {p : PartV} {rest : List PartV} {n : Nat} {W0 W : World} (h : BS C B b (.slice (some ⟨g, 0, none⟩) (rest.length + 1) cap) (p :: rest) n W0 W) {g' cap' : Nat} {w2 : World} {q : KidV}
    (ho : w2.ownsRow B 33 4 (.slice (some ⟨g', 0, none⟩) (p.kids.length + 1) cap') (p.kids.length + 1) (nodeVals (p.kids ++ [zeroKid]))) (hg : W.grownBy w2 p.kv.ownBlock) (hor : some g' = p.kv.ownBlock ∨ g' = W.heap.size)
    (hq : AttrsC C W q.2.1 q.1.1.attrs ∧ NodesC C W q.2.2 q.1.2) :
    BS C B b (.slice (some ⟨g, 0, none⟩) (rest.length + 1) cap) ({ p with kids := p.kids ++ [q], kv := .slice (some ⟨g', 0, none⟩) (p.kids.length + 1) cap' } :: rest) n W0
      (((((w2.setCell ⟨g', p.kids.length * 4, none⟩ (.string (str q.1.1.name))).setCell ⟨g', p.kids.length * 4 + 1, none⟩ q.2.1).setCell ⟨g', p.kids.length * 4 + 2, none⟩ (.string (str q.1.1.text))).setCell ⟨g', p.kids.length * 4 + 3, none⟩ q.2.2).setCell ⟨g, rest.length * 5 + 3, none⟩ (.slice (some ⟨g', 0, none⟩) (p.kids.length + 1) cap')) := by
  obtain ⟨s1, s2⟩ := node_stored ho q
  refine h.pushKid s1 ⟨hg.os, hg.tape, hg.output, by have := hg.size; simpa [World.setCell] using this, fun k hk hne => ?_⟩ (by
    rcases hor with e | e
    · exact .inl e
    · exact .inr (by rw [← e]; rfl)) hq
  rw [s2 k ?_]
  · exact hg.block k hk hne
  · rintro rfl
    rcases hor with e | e
    · exact hne e
    · omega
theorem setCell_comm (w : World) (a b : Addr) (u v : Value) (h : a.block ≠ b.block) : (w.setCell a u).setCell b v = (w.setCell b v).setCell a u := by
  unfold World.setCell
  congr 1
  apply Array.ext_getElem?
  intro i
  simp only [Array.getElem?_modify]
  by_cases h1 : b.block = i
  · have h2 : ¬ a.block = i := fun e => h (e.trans h1.symm)
    simp [h1, h2]
  · simp [h1]
/-- the store into the row of parts ahead of the node's cells is the same as behind them -/
theorem kid_comm (w : World) {g g' : Nat} (h : g ≠ g') (i j0 j1 j2 j3 : Nat) (r v0 v1 v2 v3 : Value) :
    (((((w.setCell ⟨g, i, none⟩ r).setCell ⟨g', j0, none⟩ v0).setCell ⟨g', j1, none⟩ v1).setCell ⟨g', j2, none⟩ v2).setCell ⟨g', j3, none⟩ v3) = (((((w.setCell ⟨g', j0, none⟩ v0).setCell ⟨g', j1, none⟩ v1).setCell ⟨g', j2, none⟩ v2).setCell ⟨g', j3, none⟩ v3).setCell ⟨g, i, none⟩ r) := by
  rw [setCell_comm w ⟨g, i, none⟩ ⟨g', j0, none⟩ r v0 h, setCell_comm _ ⟨g, i, none⟩ ⟨g', j1, none⟩ r v1 h, setCell_comm _ ⟨g, i, none⟩ ⟨g', j2, none⟩ r v2 h, setCell_comm _ ⟨g, i, none⟩ ⟨g', j3, none⟩ r v3 h]
/-- the innermost one's tail is put away -/
theorem BS.noTail {C : Nat → Prop} {B b g cap : Nat} {p : PartV} {rest : List PartV} {n : Nat} {W0 w : World} (h : BS C B b (.slice (some ⟨g, 0, none⟩) (rest.length + 1) cap) (p :: rest) n W0 w) :
    BS C B b (.slice (some ⟨g, 0, none⟩) (rest.length + 1) cap) ({ p with tail := [], tv := .slice none 0 0 } :: rest) n W0 (w.setCell ⟨g, rest.length * 5 + 4, none⟩ (.slice none 0 0)) := by
  have hk := h.kids _ (List.mem_cons_self ..)
  exact h.putP { p with tail := [], tv := .slice none 0 0 } 4 (.slice none 0 0) (by decide) rfl rfl rfl hk ((List.pairwise_cons.1 h.apart).1) ⟨World.ownsRow_nil _ B _ 1, fun _ => rfl⟩
/-- the innermost one's tail is longer in w2 -/
theorem BS.moreTail {C : Nat → Prop} {B b g cap : Nat} {p : PartV} {rest : List PartV} {n : Nat} {W0 w w2 : World} {tv' : Value} {tl' : List UInt8} (h : BS C B b (.slice (some ⟨g, 0, none⟩) (rest.length + 1) cap) (p :: rest) n W0 w)
    (ho : w2.ownsRow B 5 1 tv' tl'.length (cellsOf tl')) (hg : w.grownBy w2 p.tv.ownBlock) (hn : tl' = [] → tv' = .slice none 0 0) :
    BS C B b (.slice (some ⟨g, 0, none⟩) (rest.length + 1) cap) ({ p with tail := tl', tv := tv' } :: rest) n W0 (w2.setCell ⟨g, rest.length * 5 + 4, none⟩ tv') := by
  have ht := h.tails p (List.mem_cons_self ..)
  have hrest : ∀ q ∈ rest, q.tv = .slice none 0 0 := fun q hq => (h.tails q (List.mem_cons_of_mem _ hq)).2 (h.quiet q hq)
  have hC : ∀ k, C k → k < w.heap.size := fun k hk => (h.typ k hk).1
  have htC : ∀ k, p.tv.ownBlock = some k → ¬ C k := fun k e hc => by
    rcases ht.1.2 with ⟨e0, _⟩ | ⟨g0, c0, cur, e0, _, hh, _⟩
    · rw [e0] at e; cases e
    · rw [e0] at e
      obtain rfl : g0 = k := by simpa [Value.ownBlock] using e
      rcases (h.typ g0 hc).2 _ _ _ hh with e | e
      · exact absurd e (by decide)
      · exact absurd e (by decide)
  have hk : ∀ x, C x → w2.heap[x]? = w.heap[x]? := fun x hx => hg.block x (hC x hx) (fun e => htC x e.symm hx)
  have hown : ∀ {e : TypeId} {sz m : Nat} {v : Value} {xs : List Value}, e ≠ 5 → w.ownsRow B e sz v m xs → w2.ownsRow B e sz v m xs := fun {e sz m v xs} h1 hx => hx.kept hg (ownsRow_diff h1 hx ht.1)
  have hblk : w2.heap[b]? = some (.cells #[.slice (some ⟨g, 0, none⟩) (rest.length + 1) cap, .int .i64 n] 39 (0, 0)) := by
    rw [hg.block b (lt_of_block h.blk) (fun e => (ownsRow_other ht.1 (r := b) (fun cur hb => h.out.2 cur _ (by decide) hb)) e.symm)]
    exact h.blk
  have hrow := hown (by decide) h.row
  have hK : ∀ x ∈ p :: rest, KRow C B x.kv x.kids w2 := fun x hx => ⟨hown (by decide) (h.kids x hx).row, fun y hy => ⟨((h.kids x hx).each y hy).1.mono hk (fun _ x => x), ((h.kids x hx).each y hy).2.mono hk (fun _ x => x)⟩, (h.kids x hx).out⟩
  obtain ⟨r1, hgp⟩ := (show w2.ownsRow B 50 5 (.slice (some ⟨g, 0, none⟩) (rest.length + 1) cap) (rest.length + 1) (partVals (p :: rest).reverse) from hrow).stored (rest.length * 5 + 4) tv'
  have q4 : ∀ (cur : Array Value) (e : TypeId), e ≠ 50 → w2.heap[g]? ≠ some (Obj.cells cur e (0, 0)) := fun cur e h1 hx => by
    rcases hrow.2 with ⟨h0, _⟩ | ⟨g', cap', cur', h0, _, hh, _⟩
    · cases h0
    · injection h0 with h0 _ _
      injection h0 with h0
      injection h0 with h0
      subst h0
      rw [hh] at hx
      injection hx with hx
      injection hx with _ hx
      exact h1 hx.symm
  obtain ⟨q1, q2, q3, _⟩ := h.rowOut
  have hown4 : ∀ {e : TypeId} {sz m : Nat} {v : Value} {xs : List Value}, e ≠ 50 → w2.ownsRow B e sz v m xs → (w2.setCell ⟨g, rest.length * 5 + 4, none⟩ tv').ownsRow B e sz v m xs := fun {e sz m v xs} h1 hx => own_type hx hgp (fun cur => q4 cur e h1)
  have hk4 := same_put (w := w2) (i := rest.length * 5 + 4) (u := tv') q2
  have hk5 : ∀ x, C x → (w2.setCell ⟨g, rest.length * 5 + 4, none⟩ tv').heap[x]? = w.heap[x]? := fun x hx => (hk4 x hx).trans (hk x hx)
  have hrm : ∀ x ∈ rest, x ∈ p :: rest := fun x hx => List.mem_cons_of_mem _ hx
  refine ⟨?_, ?_, ?_, ?_, ?_, ?_, h.quiet, fun x hx => ⟨by have := Nat.lt_of_lt_of_le (hC x hx) hg.size; simpa [World.setCell] using this, by rw [hk5 x hx]; exact (h.typ x hx).2⟩, h.base, (h.below.grown hg h.size (fun k e => (ht.1.lt k e).1)).setCell (p := ⟨g, rest.length * 5 + 4, none⟩) q3 tv', by have := Nat.le_trans h.size hg.size; simpa [World.setCell] using this, (h.since.own ht.1 hg (.inr (.inr (.inr rfl)))).own hrow hgp (.inr (.inl rfl))⟩
  · rw [hgp.block b (lt_of_block hblk) (fun e => q1 (Option.some.inj e).symm)]
    exact hblk
  · rw [List.reverse_cons] at r1 ⊢
    have e1 := partVals_set rest.reverse p 4 (by decide) tv'
    rw [List.length_reverse] at e1
    rw [e1] at r1
    rw [partVals_append]
    exact r1
  · intro x hx
    rcases List.mem_cons.1 hx with rfl | hx
    · exact (h.attrs p (List.mem_cons_self ..)).mono hk5 (fun _ x => x)
    · exact (h.attrs x (hrm x hx)).mono hk5 (fun _ x => x)
  · intro x hx
    have hx2 : ∀ y : PartV, KRow C B y.kv y.kids w2 → KRow C B y.kv y.kids (w2.setCell ⟨g, rest.length * 5 + 4, none⟩ tv') := fun y hy => ⟨hown4 (by decide) hy.row, fun z hz => ⟨(hy.each z hz).1.mono hk4 (fun _ x => x), (hy.each z hz).2.mono hk4 (fun _ x => x)⟩, hy.out⟩
    rcases List.mem_cons.1 hx with rfl | hx
    · exact hx2 p (hK p (List.mem_cons_self ..))
    · exact hx2 x (hK x (hrm x hx))
  · exact List.pairwise_cons.2 ⟨(List.pairwise_cons.1 h.apart).1, (List.pairwise_cons.1 h.apart).2⟩
  · intro x hx
    rcases List.mem_cons.1 hx with rfl | hx
    · exact ⟨hown4 (by decide) ho, hn⟩
    · rw [hrest x hx, h.quiet x hx]
      exact ⟨World.ownsRow_nil _ B _ 1, fun _ => rfl⟩
end Go.Proofs.YtjaeheicndfdnaaGreatDoor
