/- Rows of structs that the call owns: a place written; a []api.Field: append of one, its cells, kept by calls. No statement is proved here. -/
import Derived.Test.YtcndklegoadjcaaDoorFields
import Derived.Test.YtcndklegoadjcaaDoorLinesR
import Derived.Laws.AppendOwnNone
namespace Go.Proofs.YtcndklegoadjcaaDoor
open Go.RowKit
set_option linter.unusedVariables false
set_option linter.unusedSimpArgs false

theorem heap_setCell_row {w : World} {g j : Nat} {cur : Array Value} {e : TypeId} {fr : Nat × Nat} (u : Value) (h : w.heap[g]? = some (.cells cur e fr)) : (w.setCell ⟨g, j, none⟩ u).heap[g]? = some (.cells (cur.setIfInBounds j u) e fr) := by
  have hlt := lt_of_block h
  have h' : w.heap[g] = .cells cur e fr := by simpa [Array.getElem?_eq_getElem hlt] using h
  show (w.heap.modify g _)[g]? = _
  rw [Array.getElem?_eq_getElem (by simpa using hlt), Array.getElem_modify_self, h']
  rfl
/-- a place of a row that the call owns, written -/
theorem ownsRow_set {w : World} {B : Nat} {e : TypeId} {sz g n cap : Nat} {xs : List Value} (h : w.ownsRow B e sz (.slice (some ⟨g, 0, none⟩) n cap) n xs) (j : Nat) (u : Value) :
    (w.setCell ⟨g, j, none⟩ u).ownsRow B e sz (.slice (some ⟨g, 0, none⟩) n cap) n (xs.set j u) := by
  obtain ⟨h1, h2⟩ := h
  refine ⟨by rw [List.length_set]; exact h1, ?_⟩
  rcases h2 with ⟨h2, _⟩ | ⟨g', cap', cur, hv, hg, hh, hc, hm, hs, ht⟩
  · cases h2
  · injection hv with e1 e2 e3
    injection e1 with e1
    injection e1 with e1
    subst e1
    refine .inr ⟨g, cap', cur.setIfInBounds j u, by rw [e3], hg, heap_setCell_row u hh, hc, hm, by rw [Array.size_setIfInBounds]; exact hs, ?_⟩
    rw [Array.toList_setIfInBounds, List.take_set, ht]
theorem ownsRow_free {w : World} {B : Nat} {e : TypeId} {sz g n cap : Nat} {xs : List Value} (h : w.ownsRow B e sz (.slice (some ⟨g, 0, none⟩) n cap) n xs) (j : Nat) : w.frozen? ⟨g, j, none⟩ = false := by
  rcases h.2 with ⟨h2, _⟩ | ⟨g', cap', cur, hv, hg, hh, hc, hm, hs, ht⟩
  · cases h2
  · injection hv with e1 e2 e3
    injection e1 with e1
    injection e1 with e1
    subst e1
    unfold World.frozen?
    rw [hh]; simp

/-! ### rows of fields -/
def fieldVals (l : List FieldL) : List Value := l.flatMap fun f => [Value.string (str f.1), Value.string (str f.2)]
theorem fieldVals_length (l : List FieldL) : (fieldVals l).length = l.length * 2 := by
  induction l with
  | nil => rfl
  | cons f r ih => unfold fieldVals at *; rw [List.flatMap_cons, List.length_append, ih]; simp; omega
theorem fieldVals_at {l : List FieldL} {j : Nat} {f : FieldL} (h : l[j]? = some f) : (fieldVals l)[j * 2]? = some (.string (str f.1)) ∧ (fieldVals l)[j * 2 + 1]? = some (.string (str f.2)) := by
  induction l generalizing j with
  | nil => simp at h
  | cons g r ih =>
    cases j with
    | zero => simp at h; subst h; exact ⟨rfl, rfl⟩
    | succ j =>
      have := ih (j := j) (by simpa using h)
      have e : fieldVals (g :: r) = Value.string (str g.1) :: Value.string (str g.2) :: fieldVals r := rfl
      rw [e, show (j + 1) * 2 = j * 2 + 1 + 1 by omega]
      simpa using this
theorem fieldVals_append (a b : List FieldL) : fieldVals (a ++ b) = fieldVals a ++ fieldVals b := by unfold fieldVals; rw [List.flatMap_append]
theorem fieldVals_set {l : List FieldL} {j : Nat} {f : FieldL} (x : List UInt8) (h : l[j]? = some f) : (fieldVals l).set (j * 2 + 1) (.string (str x)) = fieldVals (l.set j (f.1, x)) := by
  induction l generalizing j with
  | nil => simp at h
  | cons g r ih =>
    cases j with
    | zero => simp at h; subst h; rfl
    | succ j =>
      have := ih (j := j) (by simpa using h)
      have e : ∀ g r, fieldVals (g :: r) = Value.string (str g.1) :: Value.string (str g.2) :: fieldVals r := fun _ _ => rfl
      rw [e, show (j + 1) * 2 + 1 = (j * 2 + 1) + 1 + 1 by omega, List.set_cons_succ, List.set_cons_succ, this, List.set_cons_succ, e]
/-- in w the []api.Field value v owns the fields l, in a block from B on; below B all is as in W0 -/
def FBuf (B : Nat) (v : Value) (l : List FieldL) (W0 w : World) : Prop :=
  w.ownsRow B 40 2 v l.length (fieldVals l) ∧ Below B W0 w ∧ B ≤ w.heap.size
theorem info_field : (Tryd.prog.info? 40).map (fun i => (i.zero, i.size, i.bytes)) = some (some (.agg #[.string ByteArray.empty, .string ByteArray.empty]), 2, 32) := by kernel_rfl
theorem FBuf.nil {B : Nat} {W0 w : World} (hb : Below B W0 w) (hB : B ≤ w.heap.size) : FBuf B (.slice none 0 0) [] W0 w := ⟨World.ownsRow_nil w B _ 2, hb, hB⟩
theorem FBuf.below {B : Nat} {v : Value} {l : List FieldL} {W0 w : World} (h : FBuf B v l W0 w) : Below B W0 w := h.2.1
theorem FBuf.grown {B : Nat} {v v' : Value} {l l' : List FieldL} {W0 w w' : World} (h : FBuf B v l W0 w) (ho : w'.ownsRow B 40 2 v' l'.length (fieldVals l')) (hg : w.grownBy w' v.ownBlock) : FBuf B v' l' W0 w' :=
  ⟨ho, h.2.1.grown hg h.2.2 (fun k hk => (h.1.lt k hk).1), Nat.le_trans h.2.2 hg.size⟩
theorem FBuf.alloc {B : Nat} {v : Value} {l : List FieldL} {W0 w : World} (h : FBuf B v l W0 w) (o : Obj) : FBuf B v l W0 (w.alloc o) :=
  ⟨h.1.alloc o, h.2.1.alloc h.2.2 o, Nat.le_trans h.2.2 ((Below.refl 0 w).alloc (Nat.zero_le _) o).size⟩
theorem FBuf.drew {B : Nat} {v : Value} {l : List FieldL} {W0 w : World} (h : FBuf B v l W0 w) : FBuf B v l W0 w.drew := ⟨h.1, h.2.1.drew, h.2.2⟩
theorem FBuf.kept {B : Nat} {v : Value} {l : List FieldL} {W0 w w' : World} (h : FBuf B v l W0 w) (hb : Below w.heap.size w w') : FBuf B v l W0 w' :=
  ⟨h.1.kept (row := none) ⟨hb.os, hb.tape, hb.output, hb.size, fun k hk _ => hb.block k hk⟩ (by cases hv : v.ownBlock <;> simp), h.2.1.trans (hb.mono h.2.2), Nat.le_trans h.2.2 hb.size⟩
theorem FBuf.slice_len {B : Nat} {v : Value} {l : List FieldL} {W0 w : World} (h : FBuf B v l W0 w) : ∃ A c, v = .slice A l.length c := by
  rcases h.1.2 with ⟨rfl, h0⟩ | ⟨g, cap, cur, rfl, _⟩
  · rw [h0]; exact ⟨_, _, rfl⟩
  · exact ⟨_, _, rfl⟩
theorem FBuf.form {B : Nat} {v : Value} {l : List FieldL} {W0 w : World} (h : FBuf B v l W0 w) (hl : l ≠ []) : ∃ g cap, v = .slice (some ⟨g, 0, none⟩) l.length cap ∧ B ≤ g := by
  rcases h.1.2 with ⟨rfl, h0⟩ | ⟨g, cap, cur, rfl, hg, _⟩
  · exact absurd (List.eq_nil_of_length_eq_zero h0) hl
  · exact ⟨g, cap, rfl, hg⟩
theorem FBuf.in {B : Nat} {v : Value} {l : List FieldL} {W0 w : World} (h : FBuf B v l W0 w) : FieldsIn w v l := by
  have h1 := h.1
  rcases h.1.2 with ⟨rfl, h0⟩ | ⟨g, cap, cur, rfl, hg, hh, hc, hm, _⟩
  · exact .inl ⟨rfl, List.eq_nil_of_length_eq_zero h0⟩
  · refine .inr ⟨⟨g, 0, none⟩, cap, rfl, hc, hm, fun j hj => ?_⟩
    obtain ⟨a1, a2⟩ := fieldVals_at (l := l) (j := j) (List.getElem?_eq_getElem hj)
    exact ⟨h1.cells (g := g) rfl _ _ a1, h1.cells (g := g) rfl _ _ a2⟩
/-- l[j].Value = x -/
theorem FBuf.setValue {B g cap : Nat} {l : List FieldL} {W0 w : World} (h : FBuf B (.slice (some ⟨g, 0, none⟩) l.length cap) l W0 w) {j : Nat} {f : FieldL} (hj : l[j]? = some f) (x : List UInt8) :
    FBuf B (.slice (some ⟨g, 0, none⟩) (l.set j (f.1, x)).length cap) (l.set j (f.1, x)) W0 (w.setCell ⟨g, j * 2 + 1, none⟩ (.string (str x))) := by
  have hs := ownsRow_set h.1 (j * 2 + 1) (.string (str x))
  have hlt : B ≤ g := by
    rcases h.1.2 with ⟨h0, _⟩ | ⟨g', cap', cur, hv, hg, _⟩
    · cases h0
    · injection hv with e1 _ _
      injection e1 with e1
      injection e1 with e1
      subst e1; exact hg
  refine ⟨?_, h.2.1.setCell hlt _, by simpa [World.setCell] using h.2.2⟩
  rw [List.length_set, ← fieldVals_set x hj]; exact hs
theorem two_new (w : World) (x y : Value) (t : TypeId) : (w.alloc (.cells #[x, y] t)).cell? ((⟨w.heap.size, 0, none⟩ : Addr).add 0) = some x ∧ (w.alloc (.cells #[x, y] t)).cell? ((⟨w.heap.size, 0, none⟩ : Addr).add 1) = some y := by
  have e0 : (⟨w.heap.size, 0, none⟩ : Addr).add 0 = ⟨w.heap.size, 0, none⟩ := by rw [Addr.add_lit]
  have e1 : (⟨w.heap.size, 0, none⟩ : Addr).add 1 = ⟨w.heap.size, 1, none⟩ := by rw [Addr.add_lit]
  rw [e0, e1, World.cell?_alloc_at _ _ _ _ rfl, World.cell?_alloc_at _ _ _ _ rfl]
  exact ⟨rfl, rfl⟩
/-- append(l, f): the one field lies at ad -/
theorem wpList_fields {ops : Array Oper} {rest : List Oper} {o : Oper} {a : Act} {Q : Exit → Act → World → Prop} {w : World} (hgd : o.guard = none) (s x : Operand)
    (ho : o.op = .call { callee := .builtin .append, args := #[s, x], argTypes := #[24, 24] })
    (B : Nat) (v : Value) (l : List FieldL) (hs : a.eval s = v) (W0 : World) (f : FieldL) (hb : FBuf B v l W0 w) (ad : Addr)
    (hx : a.eval x = .slice (some ad) 1 1) (h0 : w.cell? (ad.add 0) = some (.string (str f.1))) (h1 : w.cell? (ad.add 1) = some (.string (str f.2))) (hlen : l.length + 1 ≤ 4398046511104)
    (h : ∀ v' w', FBuf B v' (l ++ [f]) W0 w' → wpList Tryd.prog ops Q rest (a.put o.dst v') w') : wpList Tryd.prog ops Q (o :: rest) a w := by
  obtain ⟨i0, hi, hz0, hz1, hz2⟩ := info_parts info_field
  refine wpList_append_own _ hgd s x 24 ho B 40 i0 (.agg #[.string ByteArray.empty, .string ByteArray.empty]) 2 32 Tryd.underlying24 hi hz0 hz1 hz2 rfl (by decide) v l.length (fieldVals l) hs hb.1 ad 1 1 [.string (str f.1), .string (str f.2)] hx rfl ?_ ?_ (by unfold maxLen; omega) (by omega) hb.2.2 ?_
  · intro j u hj
    match j, hj with
    | 0, hj => simp at hj; subst hj; exact h0
    | 1, hj => simp at hj; subst hj; exact h1
    | (j + 2), hj => simp at hj
  · intro u hu
    simp at hu
    rcases hu with rfl | rfl
    · rfl
    · rfl
  · intro v' w' ho' hg _
    exact h v' w' (hb.grown (l' := l ++ [f]) (by rw [fieldVals_append, List.length_append]; exact ho') hg)
theorem fieldVals_of {l : List FieldL} {j : Nat} {u : Value} (h : (fieldVals l)[j]? = some u) : ∃ k f, l[k]? = some f ∧ ((j = k * 2 ∧ u = .string (str f.1)) ∨ (j = k * 2 + 1 ∧ u = .string (str f.2))) := by
  have hlt : j < l.length * 2 := by have := (List.getElem?_eq_some_iff.1 h).1; rwa [fieldVals_length] at this
  obtain ⟨f, hf⟩ : ∃ f, l[j / 2]? = some f := ⟨_, List.getElem?_eq_getElem (by omega)⟩
  obtain ⟨h1, h2⟩ := fieldVals_at hf
  refine ⟨j / 2, f, hf, ?_⟩
  rcases Nat.mod_two_eq_zero_or_one j with hm | hm
  · have e : j / 2 * 2 = j := by omega
    rw [e, h] at h1
    exact .inl ⟨e.symm, Option.some.inj h1⟩
  · have e : j / 2 * 2 + 1 = j := by omega
    rw [e, h] at h2
    exact .inr ⟨e.symm, Option.some.inj h2⟩
/-- append(l, more...) -/
theorem wpList_fieldsAll {ops : Array Oper} {rest : List Oper} {o : Oper} {a : Act} {Q : Exit → Act → World → Prop} {w : World} (hgd : o.guard = none) (s x : Operand)
    (ho : o.op = .call { callee := .builtin .append, args := #[s, x], argTypes := #[24, 24] })
    (B : Nat) (v : Value) (l : List FieldL) (hs : a.eval s = v) (W0 : World) (hb : FBuf B v l W0 w) (vx : Value) (l2 : List FieldL)
    (hx : a.eval x = vx) (hin : FieldsIn w vx l2) (hlen : l.length + l2.length ≤ 4398046511104)
    (h : ∀ v' w', FBuf B v' (l ++ l2) W0 w' → wpList Tryd.prog ops Q rest (a.put o.dst v') w') : wpList Tryd.prog ops Q (o :: rest) a w := by
  obtain ⟨i0, hi, hz0, hz1, hz2⟩ := info_parts info_field
  rcases hin with ⟨rfl, rfl⟩ | ⟨ad, cap, rfl, hc, hm, hcells⟩
  · refine wpList_append_own_none hgd s x 24 ho B 40 i0 2 Tryd.underlying24 hi v l.length (fieldVals l) hs hb.1 hx ?_
    exact h v w (by rw [List.append_nil]; exact hb)
  · refine wpList_append_own _ hgd s x 24 ho B 40 i0 (.agg #[.string ByteArray.empty, .string ByteArray.empty]) 2 32 Tryd.underlying24 hi hz0 hz1 hz2 rfl (by decide) v l.length (fieldVals l) hs hb.1 ad l2.length cap (fieldVals l2) hx (fieldVals_length l2) ?_ ?_ (by unfold maxLen; omega) (by omega) hb.2.2 ?_
    · intro j u hj
      obtain ⟨k, f, hk, (⟨rfl, rfl⟩ | ⟨rfl, rfl⟩)⟩ := fieldVals_of hj
      · have hlt := (List.getElem?_eq_some_iff.1 hk).1
        have := (hcells k hlt).1
        rwa [(List.getElem?_eq_some_iff.1 hk).2] at this
      · have hlt := (List.getElem?_eq_some_iff.1 hk).1
        have := (hcells k hlt).2
        rwa [(List.getElem?_eq_some_iff.1 hk).2] at this
    · intro u hu
      obtain ⟨j, hj⟩ := List.getElem?_of_mem hu
      obtain ⟨k, f, hk, (⟨rfl, rfl⟩ | ⟨rfl, rfl⟩)⟩ := fieldVals_of hj
      · rfl
      · rfl
    · intro v' w' ho' hg _
      exact h v' w' (hb.grown (l' := l ++ l2) (by rw [fieldVals_append, List.length_append]; exact ho') hg)
theorem FBuf.parts {B : Nat} {v : Value} {f : FieldL} {l : List FieldL} {W0 w : World} (h : FBuf B v (f :: l) W0 w) :
    ∃ g c n, v = .slice (some ⟨g, 0, none⟩) n c ∧ n = (f :: l).length ∧ 1 ≤ c ∧ FieldsIn w v (f :: l) ∧ FieldsIn w (.slice (some ⟨g, 0, none⟩) 1 c) [f] := by
  have hin := h.in
  rcases h.1.2 with ⟨rfl, h0⟩ | ⟨g, cap, cur, rfl, hg, hh, hc, hm, _⟩
  · cases h0
  · have h1 : 1 ≤ cap := by rw [List.length_cons] at hc; omega
    refine ⟨g, cap, _, rfl, rfl, h1, hin, .inr ⟨⟨g, 0, none⟩, cap, rfl, h1, hm, fun j hj => ?_⟩⟩
    obtain rfl : j = 0 := by simp at hj; exact hj
    obtain ⟨a, ha, c1, c2⟩ := hin.cells 0 f rfl
    injection ha with ha
    subst ha
    exact ⟨c1, c2⟩
/-- append(nil, f), as the walk runs it by itself -/
theorem fbuf_first (W1 W2 : World) (f : FieldL) (X Y : ByteArray) (hX : X = str f.1) (hY : Y = str f.2) (cap : Nat) (h1 : 1 ≤ cap) (hm : cap ≤ maxLen) (hb : Below W1.heap.size W1 W2) :
    FBuf W1.heap.size (.slice (some ⟨W2.heap.size, 0, none⟩) 1 cap) [f] W1 (W2.alloc (.cells (#[.string X, .string Y] ++ Builtin.zeroCells #[.string ⟨#[]⟩, .string ⟨#[]⟩] (cap - 1)) 40)).drew := by
  subst hX hY
  refine ⟨⟨rfl, .inr ⟨W2.heap.size, cap, _, rfl, hb.size, heap_alloc_new W2 _, h1, hm, ?_, ?_⟩⟩, (hb.alloc hb.size _).drew, ?_⟩
  · rw [Array.size_append, size_zeroCells]
    show 2 + (cap - 1) * 2 = cap * 2
    omega
  · rw [Array.toList_append]; rfl
  · show W1.heap.size ≤ (W2.alloc _).heap.size
    rw [World.size_alloc]; have := hb.size; omega
theorem cap_one (w : World) (T : TypeId) : 1 ≤ (Question.appendCap 1 0 T).cut (w.tape w.drawn (Question.appendCap 1 0 T)) ∧ (Question.appendCap 1 0 T).cut (w.tape w.drawn (Question.appendCap 1 0 T)) ≤ maxLen :=
  ⟨grownCap_ge w 1 0 T, grownCap_le_maxLen w 1 0 T (by decide)⟩
end Go.Proofs.YtcndklegoadjcaaDoor
