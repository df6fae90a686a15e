/- WALK of plain.nodes and plain.Tree. No statement is proved here. Own work of the verifier. -/
import Derived.Test.YtdeaofnhdbhknaaPnD
import Derived.Deep.RegionLaw
namespace Go.Proofs.Ytdeaofnhdbhknaa
open Go.RowKit
set_option linter.unusedVariables false
set_option linter.unusedSimpArgs false
set_option maxRecDepth 100000
theorem pn_readyW {B : Nat} {v u2 : Value} {ks : List KidV} {wr w5 W : World} (n t : List UInt8) {K : Tr} (hk : KRow (RowC B v wr) B v ks wr) (hb : Below wr.heap.size wr w5) (hB : B ≤ wr.heap.size) (hn : NodesC (FreshB wr.heap.size w5) w5 u2 K)
    (hbW : Below w5.heap.size w5 W) (hzW : W.heap.size = w5.heap.size + 1) (hblk : W.heap[w5.heap.size]? = some (.cells #[.string (str n), .slice none 0 0, .string (str t), u2] 36 (0, 0))) :
    KRow (RowC B v W) B v ks W ∧ NodesC (RowC B v W) W (.slice (some ⟨w5.heap.size, 0, none⟩) 1 1) (.cons ⟨n, [], t⟩ K .nil) := by
  have hs := hb.size
  have hown : ∀ k, v.ownBlock = some k → k < wr.heap.size := fun k e => (hk.row.lt k e).2
  constructor
  · exact (hk.kept (fun k hk2 => hk2.2.1) (bl_two hb hbW)).widen (fun b hb2 => ⟨hb2.1, by have := hb2.2.1; omega, hb2.2.2⟩) (fun g e hg2 => hg2.2.2 e)
  · have hN : NodesC (RowC B v W) W u2 K := hn.mono (fun b hb2 => hbW.block b hb2.2) (fun b hb2 => ⟨Nat.le_trans hB hb2.1, by have := hb2.2; omega, fun e => by have h1 := hown b e; have h2 := hb2.1; omega⟩)
    exact .inr ⟨⟨w5.heap.size, 0, none⟩, 1, rfl, Nat.le_refl _, by decide, ⟨⟨by show B ≤ w5.heap.size; omega, by show w5.heap.size < _; omega, fun e => by have h1 := hown _ e; simp only at h1; omega⟩, (Lib.cell_of_heap hblk 0).trans rfl, (Lib.cell_of_heap hblk 2).trans rfl, ⟨_, (Lib.cell_of_heap hblk 1).trans rfl, attrsC_none _ _⟩, ⟨_, (Lib.cell_of_heap hblk 3).trans rfl, hN⟩, trivial⟩⟩
/-- append(out, a node) at a step of a region that draws its order -/
theorem step_out {ops : Array Oper} {o : Oper} {a : Act} {W : World} {Kc : Act → World → Prop} {Q : Exit → Act → World → Prop} {E : Prop} (hgd : o.guard = none) (s x : Operand)
    (ho : o.op = .call { callee := .builtin .append, args := #[s, x], argTypes := #[26, 26] })
    (B : Nat) (v : Value) (T : Tr) (w0 wr w5 : World) (hs : a.eval s = v) (n t : List UInt8) (u2 : Value) (K : Tr) (hk : OutT B v T w0 wr) (hb : Below wr.heap.size wr w5) (hn : NodesC (FreshB wr.heap.size w5) w5 u2 K)
    (hbW : Below w5.heap.size w5 W) (hzW : W.heap.size = w5.heap.size + 1) (hblk : W.heap[w5.heap.size]? = some (.cells #[.string (str n), .slice none 0 0, .string (str t), u2] 36 (0, 0)))
    (z : Nat) (hz : z = w5.heap.size) (hx : a.eval x = .slice (some ⟨z, 0, none⟩) 1 1) (hlen : T.len + 1 ≤ 1073741824)
    (h : ∀ v' w', OutT B v' (T.app (.cons ⟨n, [], t⟩ K .nil)) w0 w' → W.grownBy w' v.ownBlock → (∀ k, v.ownBlock = some k → k < wr.heap.size) → Kc (a.put o.dst v') w') :
    if Region.wanted o (yielded ops a.tmps) = true then Oper.wp Try.prog o a W Kc Q else E := by
  have hw : Region.wanted o (yielded ops a.tmps) = true := by simp [Region.wanted, hgd]
  rw [if_pos hw]
  obtain ⟨⟨ks, h1, h2⟩, h3, h4⟩ := hk
  obtain ⟨r1, r2⟩ := pn_readyW n t h1 hb h4 hn hbW hzW hblk
  have hW : Below B w0 W := (h3.trans (hb.mono h4)).trans (hbW.mono (Nat.le_trans h4 hb.size))
  have hWs : B ≤ W.heap.size := Nat.le_trans h4 (bl_two hb hbW).size
  have hkl : ks.length = T.len := by rw [← h2, Tr.len_of, List.length_map]
  subst hz
  obtain ⟨i0, hi, hz0, hz1, hz2⟩ := info_parts info_nd14
  rcases r2 with ⟨h0, _⟩ | ⟨ad, cap, hv, hl1, hl2, hat⟩
  · cases h0
  · injection hv with e1 e2 e3
    injection e1 with e1
    subst e1 e3
    obtain ⟨qs, f1, f2, f3⟩ := nodesAt_vals hat
    have hql : qs.length = 1 := by rw [← List.length_map (f := Prod.fst), f1]; rfl
    refine wp_append_own2 _ s x 26 ho B 36 i0 (.agg #[.string ByteArray.empty, .slice none 0 0, .string ByteArray.empty, .slice none 0 0]) 4 80 Try.underlying26 hi hz0 hz1 hz2 rfl (by decide) v ks.length (nodeVals ks) hs r1.row _ 1 1 (nodeVals qs) hx (by rw [nodeVals_length, hql]) f2 (nodeVals_one qs fun q hq => ⟨attrsC_one (f3 q hq).1, nodesC_one (f3 q hq).2⟩) (by unfold maxLen; omega) (by omega) hWs ?_
    intro v' w7 ho' hg' hor'
    have hk' : KRow (RowC B v W) B v' (ks ++ qs) w7 := by
      refine ⟨by rw [nodeVals_append, List.length_append, hql]; exact ho', fun q hq => ?_, fun g hg2 hCg => ?_⟩
      · have hkk : ∀ b, RowC B v W b → w7.heap[b]? = W.heap[b]? := fun b hb => hg'.block b hb.2.1 (fun e => r1.out b e.symm hb)
        rcases List.mem_append.1 hq with hq | hq
        · exact ⟨(r1.each q hq).1.mono hkk (fun _ x => x), (r1.each q hq).2.mono hkk (fun _ x => x)⟩
        · exact ⟨(f3 q hq).1.mono hkk (fun _ x => x), (f3 q hq).2.mono hkk (fun _ x => x)⟩
      · rcases hor' with e | e
        · exact r1.out g (by rw [← e]; exact hg2) hCg
        · rw [e] at hg2
          injection hg2 with hg2
          exact absurd hCg.2.1 (by omega)
    refine h v' w7 ⟨⟨ks ++ qs, hk'.widen (fun b hb => ⟨hb.1, Nat.lt_of_lt_of_le hb.2.1 hg'.size, fun e => hk'.out b e hb⟩) (fun g e hg => hg.2.2 e), ?_⟩, hW.grown hg' hWs (fun k e => (r1.row.lt k e).1), Nat.le_trans hWs hg'.size⟩ hg' (fun k e => (h1.row.lt k e).2)
    rw [List.map_append, f1, Tr.of_app, h2, Tr.of_list]
/-! ### one round, pure -/
def isAt (lv : Nat) (p : LnL) : Bool := p.1 == lv
def isIn (lv : Nat) (p : LnL) : Bool := decide (lv < p.1)
theorem takeWhile_len {α : Type} (f : α → Bool) (l : List α) : (l.takeWhile f).length ≤ l.length := (List.takeWhile_sublist f).length_le
theorem take_while {α : Type} (f : α → Bool) (l : List α) : l.take (l.takeWhile f).length = l.takeWhile f ∧ l.drop (l.takeWhile f).length = l.dropWhile f := by
  have h := List.takeWhile_append_dropWhile (p := f) (l := l)
  constructor
  · conv => lhs; arg 2; rw [← h]
    rw [List.take_left]
  · conv => lhs; arg 2; rw [← h]
    rw [List.drop_left]
theorem dropWhile_next (f : LnL → Bool) (l : List LnL) (p : LnL) (h : (l.dropWhile f).head? = some p) : f p = false := by
  induction l with
  | nil => cases h
  | cons q r ih =>
    rw [List.dropWhile_cons] at h
    split at h
    · exact ih h
    · rename_i hq
      obtain rfl : q = p := by simpa using h
      simpa using hq
theorem while_all {α : Type} (f : α → Bool) (l : List α) : ∀ p ∈ l.takeWhile f, f p = true := fun p hp => by
  induction l with
  | nil => cases hp
  | cons q r ih =>
    rw [List.takeWhile_cons] at hp
    split at hp
    · rename_i hq
      rcases List.mem_cons.1 hp with rfl | hp
      · exact hq
      · exact ih hp
    · cases hp
/-- the tree of lines of level lv and more: those of lv, then those of more, then the rest -/
theorem round_tree (lv : Nat) (r : List LnL) (hr : ∀ p ∈ r, lv ≤ p.1) :
    treeP (r.map (lowBy lv)) = ((saidP ((r.takeWhile (isAt lv)).map (·.2))).app (if (r.dropWhile (isAt lv)).takeWhile (isIn lv) = [] then .nil else .cons quH (treeP (((r.dropWhile (isAt lv)).takeWhile (isIn lv)).map (lowBy (lv + 1)))) .nil)).app (treeP (((r.dropWhile (isAt lv)).dropWhile (isIn lv)).map (lowBy lv))) ∧
    (r ≠ [] → ((r.dropWhile (isAt lv)).dropWhile (isIn lv)).length < r.length) := by
  obtain ⟨x, hx⟩ : ∃ x, x = r.dropWhile (isAt lv) := ⟨_, rfl⟩
  obtain ⟨y, hy⟩ : ∃ y, y = x.dropWhile (isIn lv) := ⟨_, rfl⟩
  have e1 : r = r.takeWhile (isAt lv) ++ x := by rw [hx, List.takeWhile_append_dropWhile]
  have e2 : x = x.takeWhile (isIn lv) ++ y := by rw [hy, List.takeWhile_append_dropWhile]
  have hxr : ∀ p ∈ x, lv ≤ p.1 := fun p hp => hr p (by rw [e1]; exact List.mem_append.2 (.inr hp))
  have hyr : ∀ p ∈ y, lv ≤ p.1 := fun p hp => hxr p (by rw [e2]; exact List.mem_append.2 (.inr hp))
  have hxn : ∀ p, x.head? = some p → lv < p.1 := fun p hp => by
    have h1 := dropWhile_next (isAt lv) r p (by rw [← hx]; exact hp)
    have h2 := hxr p (List.mem_of_head? hp)
    unfold isAt at h1
    rw [beq_eq_false_iff_ne] at h1
    omega
  have hyn : ∀ p, y.head? = some p → p.1 = lv := fun p hp => by
    have h1 := dropWhile_next (isIn lv) x p (by rw [← hy]; exact hp)
    have h2 := hyr p (List.mem_of_head? hp)
    unfold isIn at h1
    have := of_decide_eq_false h1
    omega
  rw [← hx, ← hy]
  have t1 : treeP (r.map (lowBy lv)) = (saidP ((r.takeWhile (isAt lv)).map (·.2))).app (treeP (x.map (lowBy lv))) := by
    have h0 : (r.takeWhile (isAt lv)).map (·.2) = ((r.takeWhile (isAt lv)).map (lowBy lv)).map (·.2) := by rw [List.map_map]; rfl
    conv => lhs; rw [e1]
    rw [List.map_append, treeP_said, h0]
    · intro p hp
      obtain ⟨q, hq, rfl⟩ := List.mem_map.1 hp
      have := while_all (isAt lv) r q hq
      unfold isAt at this
      rw [beq_iff_eq] at this
      show q.1 - lv = 0
      omega
    · intro h
      unfold nextL at h
      rw [List.head?_map] at h
      cases hh : x.head? with
      | none => rw [hh] at h; cases h
      | some p =>
        rw [hh] at h
        have h1 := hxn p hh
        have h2 : p.1 - lv = 0 := by simpa [lowBy] using h
        omega
  have t2 : treeP (x.map (lowBy lv)) = (if x.takeWhile (isIn lv) = [] then .nil else .cons quH (treeP ((x.takeWhile (isIn lv)).map (lowBy (lv + 1)))) .nil : Tr).app (treeP (y.map (lowBy lv))) := by
    by_cases hb : x.takeWhile (isIn lv) = []
    · rw [if_pos hb]
      have : x = y := by rw [e2, hb]; rfl
      rw [← this]; rfl
    · rw [if_neg hb]
      conv => lhs; rw [e2]
      rw [List.map_append, treeP_quoted _ _ (by simpa using hb), lowBy_down]
      · rfl
      · intro p hp
        obtain ⟨q, hq, rfl⟩ := List.mem_map.1 hp
        have := of_decide_eq_true (while_all (isIn lv) x q hq)
        show 0 < q.1 - lv
        omega
      · cases hh : y with
        | nil => exact .inl rfl
        | cons p q =>
          refine .inr ?_
          have := hyn p (by rw [hh]; rfl)
          show some (p.1 - lv) = _
          rw [this, Nat.sub_self]
  refine ⟨by rw [t1, t2, Tr.app_assoc], fun hne => ?_⟩
  have l1 := congrArg List.length e1
  have l2 := congrArg List.length e2
  rw [List.length_append] at l1 l2
  obtain ⟨p, q, rfl⟩ := List.exists_cons_of_ne_nil hne
  have hp := hr p (List.mem_cons_self ..)
  by_cases h : p.1 = lv
  · have : ((p :: q).takeWhile (isAt lv)).length ≠ 0 := by
      rw [List.takeWhile_cons, show isAt lv p = true from beq_iff_eq.2 h]; simp
    omega
  · have hx2 : x = p :: q := by
      rw [hx, List.dropWhile_cons, show isAt lv p = false from beq_eq_false_iff_ne.2 h]; rfl
    have : (x.takeWhile (isIn lv)).length ≠ 0 := by
      rw [hx2, List.takeWhile_cons, show isIn lv p = true from decide_eq_true (by omega)]; simp
    omega
end Go.Proofs.Ytdeaofnhdbhknaa
