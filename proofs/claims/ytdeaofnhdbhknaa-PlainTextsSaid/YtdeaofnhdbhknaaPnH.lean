/- A page in memory: its two rows behind two cells; append of bytes that tells in which block the row lies. No statement is proved here. Own work of the verifier. -/
import Derived.Test.YtdeaofnhdbhknaaPnB
import Derived.Laws.OwnMore
namespace Go.Proofs.Ytdeaofnhdbhknaa
open Go.RowKit
set_option linter.unusedVariables false
set_option linter.unusedSimpArgs false
set_option maxRecDepth 100000
section
variable {P : Program} (w : World)
theorem run_append_text2 (base : Nat) (t u ty e : TypeId) (i : TypeInfo) (ht : P.underlying t = some (.slice e)) (hu : P.underlying u = some .string) (hi : P.info? e = some i) (hz : i.zero = some (.int .u8 0))
    (hsize : i.size = 1) (hby : i.bytes = 1) (v : Value) (n : Nat) (xs : List Value) (hown : w.ownsRow base e 1 v n xs) (s : ByteArray)
    (h63 : n + s.size ≤ maxLen) (hbytes : n + s.size ≤ 140737488355328) (hbase : base ≤ w.heap.size) :
    ∃ v' w', (Builtin.append_ #[t, u] ty #[v, .string s]).run P w = .ok v' w' ∧ w'.ownsRow base e 1 v' (n + s.size) (xs ++ Lib.strCells s) ∧ w.grownBy w' v.ownBlock ∧
      (v'.ownBlock = v.ownBlock ∨ v'.ownBlock = some w.heap.size) := by
  obtain ⟨v', w', hr, h2, h3, h4⟩ := Lib.run_append_own_string (P := P) w base t u ty e i ht hu hi hz hsize hby v n xs hown s h63 hbytes hbase
  refine ⟨v', w', hr, h2, h3, ?_⟩
  have hsmall : n + s.size ≤ 9223372036854775807 := by simp only [maxLen] at h63; omega
  have hxl : xs.length = n := by simpa using hown.1
  rcases hown.2 with ⟨rfl, rfl⟩ | ⟨g, cap, cur, rfl, hbg, hg, hnc, hcm, hcs, htake⟩
  · by_cases hm : s.size = 0
    · left; rw [h4.2 ⟨rfl, hm⟩]
    · have hr2 := run_append_nil_string (P := P) w t u ty e i (.int .u8 0) ht hu hi hz s (by omega) (by omega) (by rw [hby]; omega)
      rw [hr] at hr2
      injection hr2 with e1 e2
      subst e1
      exact .inr rfl
  · by_cases hroom : n + s.size ≤ cap
    · have hcs' : cur.size = cap := by simpa using hcs
      have hr2 := Lib.run_append_room_string (P := P) w t u ty e i ht hu hi hsize g n cap cur hg s hroom (by omega)
      rw [hr] at hr2
      injection hr2 with e1 e2
      subst e1
      exact .inl rfl
    · have holds : ∀ j u, xs[j]? = some u → w.cell? ((⟨g, 0, none⟩ : Addr).add j) = some u := hown.cells (g := g) rfl
      have hr2 := Lib.run_append_grow_string (P := P) w t u ty e i (.int .u8 0) ht hu hi hz ⟨g, 0, none⟩ n cap xs (by rw [hsize]; simpa using hxl) holds s (by omega) (by omega) (by rw [hby]; exact growslice_fits (by omega) (by omega))
      rw [hr] at hr2
      injection hr2 with e1 e2
      subst e1
      exact .inr rfl
end
/-- a row of bytes that the call owns -/
def ByRow (B : Nat) (v : Value) (l : List UInt8) (w : World) : Prop := w.ownsRow B 5 1 v l.length (cellsOf l)
/-- append(l, s...) -/
theorem wpList_text2 {ops : Array Oper} {rest : List Oper} {o : Oper} {a : Act} {Q : Exit → Act → World → Prop} {w : World} (hgd : o.guard = none) (sl x : Operand)
    (ho : o.op = .call { callee := .builtin .append, args := #[sl, x], argTypes := #[72, 9] })
    (B : Nat) (v : Value) (l : List UInt8) (hs : a.eval sl = v) (hb : ByRow B v l w) (hB : B ≤ w.heap.size) (s : ByteArray) (hx : a.eval x = .string s) (hlen : l.length + s.size ≤ 140737488355328)
    (h : ∀ v' w', ByRow B v' (l ++ s.data.toList) w' → w.grownBy w' v.ownBlock → (v'.ownBlock = v.ownBlock ∨ v'.ownBlock = some w.heap.size) → wpList Try.prog ops Q rest (a.put o.dst v') w') : wpList Try.prog ops Q (o :: rest) a w := by
  obtain ⟨i0, hi, hz0, hz1, hz2⟩ := info_parts info_u8
  refine wpList_plain hgd fun K hK => ?_
  obtain ⟨v', w', hr, h2, h3, h4⟩ := run_append_text2 (P := Try.prog) w B 72 9 o.type 5 i0 Try.underlying72 Try.underlying9 hi hz0 hz1 hz2 v l.length (cellsOf l) hb s (by unfold maxLen; omega) hlen hB
  unfold Oper.wp execOp
  simp only [ho, resolve, invoke, builtin, Sem.run_bind, Sem.run_pure, Result.andThen_ok, List.map_toArray, List.map_cons, List.map_nil, hs, hx, hr]
  refine hK _ _ (h v' w' ?_ h3 h4)
  unfold ByRow
  rw [List.length_append, toList_length, cellsOf, List.map_append]
  exact h2
/-- a page at cells j and j + 1 of the row in block g -/
structure PgW (B g j : Nat) (p : PgL) (ev lv : Value) (w : World) : Prop where
  blk : ∃ cur : Array Value, w.heap[g]? = some (.cells cur 74 (0, 0)) ∧ cur[j]? = some ev ∧ cur[j + 1]? = some lv
  ln : LnRow B ev p.1 w
  bt : ByRow B lv p.2 w
  Bg : B ≤ g
/-- what a call on a page leaves as it was -/
structure PgF (g j : Nat) (ev lv ev' lv' : Value) (w w' : World) : Prop where
  os : w'.os = w.os
  tape : w'.tape = w.tape
  output : w'.output = w.output
  size : w.heap.size ≤ w'.heap.size
  far : ∀ k, k < w.heap.size → k ≠ g → ev.ownBlock ≠ some k → lv.ownBlock ≠ some k → w'.heap[k]? = w.heap[k]?
  row : ∀ cur, w.heap[g]? = some (.cells cur 74 (0, 0)) → ∃ cur' : Array Value, w'.heap[g]? = some (.cells cur' 74 (0, 0)) ∧ cur'.size = cur.size ∧ ∀ i, i ≠ j → i ≠ j + 1 → cur'[i]? = cur[i]?
  en : ∀ k, ev'.ownBlock = some k → ev.ownBlock = some k ∨ w.heap.size ≤ k
  ln : ∀ k, lv'.ownBlock = some k → lv.ownBlock = some k ∨ w.heap.size ≤ k
theorem PgF.refl (g j : Nat) (ev lv : Value) (w : World) : PgF g j ev lv ev lv w w :=
  ⟨rfl, rfl, rfl, Nat.le_refl _, fun _ _ _ _ _ => rfl, fun cur h => ⟨cur, h, rfl, fun _ _ _ => rfl⟩, fun _ h => .inl h, fun _ h => .inl h⟩
theorem PgF.trans {g j : Nat} {ev lv ev1 lv1 ev2 lv2 : Value} {w w1 w2 : World} (h : PgF g j ev lv ev1 lv1 w w1) (k : PgF g j ev1 lv1 ev2 lv2 w1 w2) : PgF g j ev lv ev2 lv2 w w2 := by
  refine ⟨k.os.trans h.os, k.tape.trans h.tape, k.output.trans h.output, Nat.le_trans h.size k.size, fun b h1 h2 h3 h4 => ?_, fun cur hc => ?_, fun b hb => ?_, fun b hb => ?_⟩
  · refine (k.far b (Nat.lt_of_lt_of_le h1 h.size) h2 (fun e => ?_) (fun e => ?_)).trans (h.far b h1 h2 h3 h4)
    · rcases h.en b e with e | e
      · exact h3 e
      · omega
    · rcases h.ln b e with e | e
      · exact h4 e
      · omega
  · obtain ⟨c1, a1, a2, a3⟩ := h.row cur hc
    obtain ⟨c2, b1, b2, b3⟩ := k.row c1 a1
    exact ⟨c2, b1, b2.trans a2, fun i hi hj => (b3 i hi hj).trans (a3 i hi hj)⟩
  · rcases k.en b hb with e | e
    · exact h.en b e
    · exact .inr (Nat.le_trans h.size e)
  · rcases k.ln b hb with e | e
    · exact h.ln b e
    · exact .inr (Nat.le_trans h.size e)
theorem PgW.lt {B g j : Nat} {p : PgL} {ev lv : Value} {w : World} (h : PgW B g j p ev lv w) : g < w.heap.size := by
  obtain ⟨cur, h1, _⟩ := h.blk; exact lt_of_block h1
theorem PgF.ofBelow {g j : Nat} {w w' : World} (ev lv : Value) (hb : Below w.heap.size w w') (hg : g < w.heap.size) : PgF g j ev lv ev lv w w' :=
  ⟨hb.os, hb.tape, hb.output, hb.size, fun k hk _ _ _ => hb.block k hk, fun cur h => ⟨cur, (hb.block g hg).trans h, rfl, fun _ _ _ => rfl⟩, fun _ h => .inl h, fun _ h => .inl h⟩
theorem PgW.kept {B g j : Nat} {p : PgL} {ev lv : Value} {w w' : World} (h : PgW B g j p ev lv w) (hb : Below w.heap.size w w') : PgW B g j p ev lv w' := by
  obtain ⟨cur, h1, h2, h3⟩ := h.blk
  exact ⟨⟨cur, (hb.block g (lt_of_block h1)).trans h1, h2, h3⟩, World.ownsRow.kept h.ln (grown_none hb) (by cases hv : ev.ownBlock <;> simp), World.ownsRow.kept h.bt (grown_none hb) (by cases hv : lv.ownBlock <;> simp), h.Bg⟩
theorem PgW.cells {B g j : Nat} {p : PgL} {ev lv : Value} {w : World} (h : PgW B g j p ev lv w) : w.cell? ⟨g, j, none⟩ = some ev ∧ w.cell? ⟨g, j + 1, none⟩ = some lv ∧ w.frozen? ⟨g, j, none⟩ = false ∧ w.frozen? ⟨g, j + 1, none⟩ = false := by
  obtain ⟨cur, h1, h2, h3⟩ := h.blk
  exact ⟨(Lib.cell_of_heap h1 j).trans h2, (Lib.cell_of_heap h1 (j + 1)).trans h3, Lib.frozen_of_heap h1 j, Lib.frozen_of_heap h1 (j + 1)⟩
theorem row_ne_page {w : World} {B : Nat} {e : TypeId} {sz n g : Nat} {v : Value} {xs : List Value} (h : w.ownsRow B e sz v n xs) {cur : Array Value} {T : TypeId} {fz : Nat × Nat} (hg : w.heap[g]? = some (.cells cur T fz)) (hT : e ≠ T) : v.ownBlock ≠ some g :=
  ownsRow_other h (r := g) (fun c2 e2 => by rw [hg] at e2; injection e2 with e2; injection e2 with _ e2; exact hT e2.symm)
theorem PgW.low {B g j : Nat} {p : PgL} {ev lv : Value} {w : World} (h : PgW B g j p ev lv w) : (∀ k, ev.ownBlock = some k → B ≤ k ∧ k < w.heap.size) ∧ (∀ k, lv.ownBlock = some k → B ≤ k ∧ k < w.heap.size) :=
  ⟨fun k e => World.ownsRow.lt h.ln k e, fun k e => World.ownsRow.lt h.bt k e⟩
theorem PgF.below {B g j : Nat} {p : PgL} {ev lv ev' lv' : Value} {w w' : World} (h : PgF g j ev lv ev' lv' w w') (hw : PgW B g j p ev lv w) : Below B w w' :=
  ⟨h.os, h.tape, h.output, h.size, fun k hk => h.far k (by have := hw.lt; have := hw.Bg; omega) (by have := hw.Bg; omega) (fun e => by have := (hw.low.1 k e).1; omega) (fun e => by have := (hw.low.2 k e).1; omega)⟩
theorem heap_putP {w : World} {g j : Nat} {cur : Array Value} {e : TypeId} {fr : Nat × Nat} (u : Value) (h : w.heap[g]? = some (.cells cur e fr)) : (w.setCell ⟨g, j, none⟩ u).heap[g]? = some (.cells (cur.setIfInBounds j u) e fr) := by
  have hlt := lt_of_block h
  have h' : w.heap[g] = .cells cur e fr := by simpa [Array.getElem?_eq_getElem hlt] using h
  show (w.heap.modify g _)[g]? = _
  rw [Array.getElem?_eq_getElem (by simpa using hlt), Array.getElem_modify_self, h']
  rfl
theorem putP_same {cur : Array Value} {j : Nat} {x : Value} (u : Value) (h : cur[j]? = some x) : (cur.setIfInBounds j u)[j]? = some u := by
  rw [Array.getElem?_setIfInBounds_self_of_lt]; exact (Array.getElem?_eq_some_iff.1 h).1
/-- the row of lines has grown, and is stored -/
theorem PgW.setEv {B g j : Nat} {p : PgL} {ev lv ev' : Value} {l' : List LnL} {w w1 : World} (h : PgW B g j p ev lv w) (hr : LnRow B ev' l' w1) (hg : w.grownBy w1 ev.ownBlock) (hor : ∀ k, ev'.ownBlock = some k → ev.ownBlock = some k ∨ w.heap.size ≤ k) :
    PgW B g j (l', p.2) ev' lv (w1.setCell ⟨g, j, none⟩ ev') ∧ PgF g j ev lv ev' lv w (w1.setCell ⟨g, j, none⟩ ev') := by
  obtain ⟨cur, h1, h2, h3⟩ := h.blk
  have hne := row_ne_page h.ln h1 (by decide)
  have hg1 : w1.heap[g]? = some (.cells cur 74 (0, 0)) := (hg.block g (lt_of_block h1) (fun e => hne e.symm)).trans h1
  have hp := heap_putP (j := j) ev' hg1
  have hby : ByRow B lv p.2 w1 := World.ownsRow.kept h.bt hg (ownsRow_diff (by decide) h.bt h.ln)
  have hset : ∀ k, k ≠ g → (w1.setCell ⟨g, j, none⟩ ev').heap[k]? = w1.heap[k]? := fun k hk => Below.heap_setCell w1 ⟨g, j, none⟩ ev' k hk
  refine ⟨⟨⟨_, hp, putP_same ev' h2, by rw [Array.getElem?_setIfInBounds_ne (by omega)]; exact h3⟩, ownsRow_setCell_other hr (row_ne_page hr hg1 (by decide)) _, ownsRow_setCell_other hby (row_ne_page hby hg1 (by decide)) _, h.Bg⟩, ?_⟩
  refine ⟨hg.os, hg.tape, hg.output, by rw [World.size_setCell]; exact hg.size, fun k k1 k2 k3 k4 => (hset k k2).trans (hg.block k k1 (fun e => k3 e.symm)), fun c hc => ?_, hor, fun k e => .inl e⟩
  rw [h1] at hc
  injection hc with hc
  injection hc with hc _ _
  subst hc
  exact ⟨_, hp, by rw [Array.size_setIfInBounds], fun i hi _ => by rw [Array.getElem?_setIfInBounds_ne (fun e => hi e.symm)]⟩
theorem PgW.setLv {B g j : Nat} {p : PgL} {ev lv lv' : Value} {l' : List UInt8} {w w1 : World} (h : PgW B g j p ev lv w) (hr : ByRow B lv' l' w1) (hg : w.grownBy w1 lv.ownBlock) (hor : ∀ k, lv'.ownBlock = some k → lv.ownBlock = some k ∨ w.heap.size ≤ k) :
    PgW B g j (p.1, l') ev lv' (w1.setCell ⟨g, j + 1, none⟩ lv') ∧ PgF g j ev lv ev lv' w (w1.setCell ⟨g, j + 1, none⟩ lv') := by
  obtain ⟨cur, h1, h2, h3⟩ := h.blk
  have hne := row_ne_page h.bt h1 (by decide)
  have hg1 : w1.heap[g]? = some (.cells cur 74 (0, 0)) := (hg.block g (lt_of_block h1) (fun e => hne e.symm)).trans h1
  have hp := heap_putP (j := j + 1) lv' hg1
  have hln : LnRow B ev p.1 w1 := World.ownsRow.kept h.ln hg (ownsRow_diff (by decide) h.ln h.bt)
  have hset : ∀ k, k ≠ g → (w1.setCell ⟨g, j + 1, none⟩ lv').heap[k]? = w1.heap[k]? := fun k hk => Below.heap_setCell w1 ⟨g, j + 1, none⟩ lv' k hk
  refine ⟨⟨⟨_, hp, by rw [Array.getElem?_setIfInBounds_ne (by omega)]; exact h2, putP_same lv' h3⟩, ownsRow_setCell_other hln (row_ne_page hln hg1 (by decide)) _, ownsRow_setCell_other hr (row_ne_page hr hg1 (by decide)) _, h.Bg⟩, ?_⟩
  refine ⟨hg.os, hg.tape, hg.output, by rw [World.size_setCell]; exact hg.size, fun k k1 k2 k3 k4 => (hset k k2).trans (hg.block k k1 (fun e => k4 e.symm)), fun c hc => ?_, fun k e => .inl e, hor⟩
  rw [h1] at hc
  injection hc with hc
  injection hc with hc _ _
  subst hc
  exact ⟨_, hp, by rw [Array.size_setIfInBounds], fun i _ hi => by rw [Array.getElem?_setIfInBounds_ne (fun e => hi e.symm)]⟩
/-- the last line is emptied, its row kept -/
theorem PgW.clearLv {B g j : Nat} {p : PgL} {ev : Value} {A : Option Addr} {c : Nat} {w : World} (h : PgW B g j p ev (.slice A p.2.length c) w) :
    PgW B g j (p.1, []) ev (.slice A 0 c) (w.setCell ⟨g, j + 1, none⟩ (.slice A 0 c)) ∧ PgF g j ev (.slice A p.2.length c) ev (.slice A 0 c) w (w.setCell ⟨g, j + 1, none⟩ (.slice A 0 c)) := by
  refine h.setLv (l' := []) ?_ (grown_none (Below.refl _ _) |> fun g => ⟨g.os, g.tape, g.output, g.size, fun k hk _ => rfl⟩) (fun k e => .inl (by cases A with | none => cases e | some a => exact e))
  rcases h.bt.2 with ⟨h0, h1⟩ | ⟨g', cap, cur, h0, h1, h2, h3, h4, h5, h6⟩
  · injection h0 with e1 e2 e3
    subst e1 e3
    exact World.ownsRow_nil _ _ _ _
  · injection h0 with e1 e2 e3
    subst e1 e3
    exact ⟨rfl, .inr ⟨g', c, cur, rfl, h1, h2, Nat.zero_le _, h4, h5, rfl⟩⟩
end Go.Proofs.Ytdeaofnhdbhknaa
