/- Rows of nodes that the call owns: append of a given tree's nodes. No statement is proved here. Own work of the verifier. -/
import Derived.Test.YtjaeheicndfdnaaGreatDoorTreeE
import Derived.Test.YtjaeheicndfdnaaGreatDoorBaseQ
namespace Go.Proofs.YtjaeheicndfdnaaGreatDoor
open Go.RowKit
set_option linter.unusedVariables false
set_option linter.unusedSimpArgs false
set_option maxRecDepth 100000
/-- the nodes of a tree in memory, with the values by which their rows are held -/
theorem nodesAt_vals {C : Nat → Prop} {w : World} {T : Tr} {a : Addr} (h : NodesAt C w T a) : ∃ qs : List KidV, qs.map Prod.fst = T.list ∧ (∀ (j : Nat) u, (nodeVals qs)[j]? = some u → w.cell? (a.add j) = some u) ∧ ∀ q ∈ qs, AttrsC C w q.2.1 q.1.1.attrs ∧ NodesC C w q.2.2 q.1.2 := by
  induction T generalizing a with
  | nil => exact ⟨[], rfl, fun j u hj => (by simp [nodeVals] at hj), fun q hq => (by cases hq)⟩
  | cons f K R ihk ihr =>
    obtain ⟨h0, h1, h2, ⟨u, h3, h4⟩, ⟨v, h5, h6⟩, h7⟩ := h
    obtain ⟨qs, e1, e2, e3⟩ := ihr h7
    refine ⟨((f, K), (u, v)) :: qs, by rw [List.map_cons, e1]; rfl, fun j x hj => ?_, fun q hq => ?_⟩
    · have e : nodeVals (((f, K), (u, v)) :: qs) = .string (str f.name) :: u :: .string (str f.text) :: v :: nodeVals qs := rfl
      rw [e] at hj
      match j, hj with
      | 0, hj => rw [List.getElem?_cons_zero, Option.some.injEq] at hj; subst hj; rw [Addr.add_zero']; exact h1
      | 1, hj => simp only [List.getElem?_cons_succ, List.getElem?_cons_zero, Option.some.injEq] at hj; subst hj; exact h3
      | 2, hj => simp only [List.getElem?_cons_succ, List.getElem?_cons_zero, Option.some.injEq] at hj; subst hj; exact h2
      | 3, hj => simp only [List.getElem?_cons_succ, List.getElem?_cons_zero, Option.some.injEq] at hj; subst hj; exact h5
      | (j + 4), hj =>
        simp only [List.getElem?_cons_succ] at hj
        have := e2 j x hj
        rw [Addr.add_add] at this
        rw [Nat.add_comm j 4]; exact this
    · rcases List.mem_cons.1 hq with rfl | hq
      · exact ⟨h4, h6⟩
      · exact e3 q hq
theorem nodeVals_one (qs : List KidV) (h : ∀ q ∈ qs, q.2.1.oneCell' = true ∧ q.2.2.oneCell' = true) : ∀ u ∈ nodeVals qs, u.oneCell' = true := by
  intro u hu
  unfold nodeVals at hu
  obtain ⟨q, hq, hu⟩ := List.mem_flatMap.1 hu
  obtain ⟨h1, h2⟩ := h q hq
  simp only [List.mem_cons, List.not_mem_nil, or_false] at hu
  rcases hu with rfl | rfl | rfl | rfl
  · rfl
  · exact h1
  · rfl
  · exact h2
theorem KRow.nil (C : Nat → Prop) (B : Nat) (w : World) : KRow C B (.slice none 0 0) [] w := ⟨World.ownsRow_nil w B _ 4, fun q h => (by cases h), fun g e => (by cases e)⟩
theorem KRow.kept {C : Nat → Prop} {B : Nat} {v : Value} {ks : List KidV} {w w' : World} (h : KRow C B v ks w) (hC : ∀ k, C k → k < w.heap.size) (hb : Below w.heap.size w w') : KRow C B v ks w' :=
  h.turned (row := none) (grown_none hb) hC (fun k e => by cases e) (by cases hv : v.ownBlock <;> simp)
theorem KRow.widen {C C' : Nat → Prop} {B : Nat} {v : Value} {ks : List KidV} {w : World} (h : KRow C B v ks w) (hC : ∀ b, C b → C' b) (ho : ∀ g, v.ownBlock = some g → ¬ C' g) : KRow C' B v ks w :=
  ⟨h.row, fun q hq => ⟨(h.each q hq).1.mono (fun _ _ => rfl) hC, (h.each q hq).2.mono (fun _ _ => rfl) hC⟩, ho⟩
theorem KRow.slice {C : Nat → Prop} {B : Nat} {v : Value} {ks : List KidV} {w : World} (h : KRow C B v ks w) : ∃ A c, v = .slice A ks.length c ∧ ks.length ≤ c := by
  rcases h.row.2 with ⟨rfl, h0⟩ | ⟨g, cap, cur, rfl, _, _, h1, _⟩
  · rw [h0]; exact ⟨_, _, rfl, Nat.zero_le _⟩
  · exact ⟨_, _, rfl, h1⟩
theorem attrsC_one {C : Nat → Prop} {w : World} {v : Value} {l : List AtL} (h : AttrsC C w v l) : v.oneCell' = true := by
  obtain ⟨A, c, rfl⟩ := h.1.form; rfl
theorem nodesC_one {C : Nat → Prop} {w : World} {v : Value} {T : Tr} (h : NodesC C w v T) : v.oneCell' = true := by
  obtain ⟨A, c, rfl⟩ := h.form; rfl
theorem run_append_none (w : World) (ty : TypeId) (A : Option Addr) (n c : Nat) (hn : n ≤ c) :
    (Builtin.append_ #[23, 23] ty #[.slice A n c, .slice none 0 0]).run Tryz.prog w = .ok (.slice A n c) w := by
  obtain ⟨i0, hi, hz0, hz1, hz2⟩ := info_parts info_nd14
  cases A with
  | none => simp [Builtin.append_, run_underlying Tryz.underlying23, sizeOf, typeInfo, hi, Builtin.lenOf, Builtin.firstCells, hn]
  | some a => simp [Builtin.append_, run_underlying Tryz.underlying23, sizeOf, typeInfo, hi, Builtin.lenOf, Builtin.firstCells, hn, storeCells]
/-- append(l, t...) where t is given -/
theorem wpList_nodes {ops : Array Oper} {rest : List Oper} {o : Oper} {a : Act} {Q : Exit → Act → World → Prop} {w : World} (hgd : o.guard = none) (s x : Operand)
    (ho : o.op = .call { callee := .builtin .append, args := #[s, x], argTypes := #[23, 23] })
    (C : Nat → Prop) (B : Nat) (v : Value) (ks : List KidV) (hs : a.eval s = v) (hk : KRow C B v ks w) (hC : ∀ k, C k → k < w.heap.size) (hB : B ≤ w.heap.size)
    (u : Value) (hx : a.eval x = u) (T : Tr) (hu : NodesC C w u T) (hlen : ks.length + T.len ≤ 1073741824)
    (h : ∀ v' qs w', KRow C B v' (ks ++ qs) w' → qs.map Prod.fst = T.list → w.grownBy w' v.ownBlock → (v'.ownBlock = v.ownBlock ∨ v'.ownBlock = some w.heap.size) → wpList Tryz.prog ops Q rest (a.put o.dst v') w') : wpList Tryz.prog ops Q (o :: rest) a w := by
  obtain ⟨i0, hi, hz0, hz1, hz2⟩ := info_parts info_nd14
  rcases hu with ⟨rfl, rfl⟩ | ⟨ad, cap, rfl, hl1, hl2, hat⟩
  · refine wpList_plain hgd fun K hK => ?_
    obtain ⟨A, c, hv, hnc⟩ := hk.slice
    have hr := run_append_none w o.type A ks.length c hnc
    rw [← hv] at hr
    unfold Oper.wp execOp
    simp only [ho, resolve, invoke, builtin, Sem.run_bind, Sem.run_pure, Result.andThen_ok, List.map_toArray, List.map_cons, List.map_nil, hs, hx, hr]
    exact hK _ _ (h v [] w (by rw [List.append_nil]; exact hk) rfl ⟨rfl, rfl, rfl, Nat.le_refl _, fun _ _ _ => rfl⟩ (.inl rfl))
  · obtain ⟨qs, e1, e2, e3⟩ := nodesAt_vals hat
    have hql : qs.length = T.len := by rw [← Tr.len_list, ← e1, List.length_map]
    refine wpList_append_own2 _ hgd s x 23 ho B 33 i0 (.agg #[.string ByteArray.empty, .slice none 0 0, .string ByteArray.empty, .slice none 0 0]) 4 80 Tryz.underlying23 hi hz0 hz1 hz2 rfl (by decide) v ks.length (nodeVals ks) hs hk.row ad T.len cap (nodeVals qs) hx (by rw [nodeVals_length, hql]) e2 (nodeVals_one qs fun q hq => ⟨attrsC_one (e3 q hq).1, nodesC_one (e3 q hq).2⟩) (by unfold maxLen; omega) (by omega) hB ?_
    intro v' w' ho' hg hor
    refine h v' qs w' ⟨by rw [nodeVals_append, List.length_append, hql]; exact ho', fun q hq => ?_, fun g hg2 hCg => ?_⟩ e1 hg hor
    · have hkk : ∀ b, C b → w'.heap[b]? = w.heap[b]? := fun b hb => hg.block b (hC b hb) (fun e => hk.out b e.symm hb)
      rcases List.mem_append.1 hq with hq | hq
      · exact ⟨(hk.each q hq).1.mono hkk (fun _ x => x), (hk.each q hq).2.mono hkk (fun _ x => x)⟩
      · exact ⟨(e3 q hq).1.mono hkk (fun _ x => x), (e3 q hq).2.mono hkk (fun _ x => x)⟩
    · rcases hor with e | e
      · exact hk.out g (by rw [← e]; exact hg2) hCg
      · rw [e] at hg2
        injection hg2 with hg2
        exact absurd (hC g hCg) (by omega)
theorem Tr.of_app (a b : List (NdH × Tr)) : Tr.of (a ++ b) = (Tr.of a).app (Tr.of b) := by
  apply Tr.list_inj
  rw [Tr.list_app, Tr.list_of, Tr.list_of, Tr.list_of]
end Go.Proofs.YtjaeheicndfdnaaGreatDoor
