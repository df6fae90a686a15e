/- WALKS of slices.Clone of nodes and of attributes. No statement is proved here. Own work of the verifier. -/
import Derived.Test.YtjaeheicndfdnaaDoorFoldM
import Derived.Lib.SliceRun
namespace Go.Proofs.YtjaeheicndfdnaaDoor
open Go.RowKit
set_option linter.unusedVariables false
set_option linter.unusedSimpArgs false
set_option maxRecDepth 100000
theorem attrs_cells {w : World} {A : Option Addr} {n c : Nat} {l : List AtL} (h : AttrsIn w (.slice A n c) l) : (A = none ∧ n = 0 ∧ c = 0 ∧ l = []) ∨ ∃ a, A = some a ∧ n = l.length ∧ ∀ (j : Nat) u, (atVals l)[j]? = some u → w.cell? (a.add j) = some u := by
  rcases h with ⟨h1, h2⟩ | ⟨a, cap, h1, _, _, h4⟩
  · injection h1 with e1 e2 e3
    exact .inl ⟨e1, e2, e3, h2⟩
  · injection h1 with e1 e2 e3
    refine .inr ⟨a, e1, e2, fun j u hj => ?_⟩
    have hl := atVals_length l
    have hjl : j < l.length * 2 := by
      rw [← hl]
      exact (List.getElem?_eq_some_iff.1 hj).1
    obtain ⟨f, hf⟩ : ∃ f, l[j / 2]? = some f := ⟨_, List.getElem?_eq_getElem (by omega)⟩
    obtain ⟨c0, c1⟩ := h4 (j / 2) f hf
    obtain ⟨v0, v1⟩ := atVals_at hf
    rcases Nat.mod_two_eq_zero_or_one j with hm | hm
    · rw [show j = j / 2 * 2 by omega] at hj ⊢
      rw [v0] at hj
      injection hj with hj
      subst hj
      exact c0
    · rw [show j = j / 2 * 2 + 1 by omega] at hj ⊢
      rw [v1] at hj
      injection hj with hj
      subst hj
      exact c1
theorem atVals_one (l : List AtL) : ∀ u ∈ atVals l, u.oneCell' = true := by
  intro u hu
  unfold atVals at hu
  obtain ⟨q, hq, hu⟩ := List.mem_flatMap.1 hu
  simp only [List.mem_cons, List.not_mem_nil, or_false] at hu
  rcases hu with rfl | rfl <;> rfl
theorem run_append_noneA (w : World) (ty : TypeId) (A : Option Addr) (n c : Nat) (hn : n ≤ c) :
    (Builtin.append_ #[30, 30] ty #[.slice A n c, .slice none 0 0]).run Tryd.prog w = .ok (.slice A n c) w := by
  obtain ⟨i0, hi, hz0, hz1, hz2⟩ := info_parts info_at
  cases A with
  | none => simp [Builtin.append_, run_underlying Tryd.underlying30, sizeOf, typeInfo, hi, Builtin.lenOf, Builtin.firstCells, hn]
  | some a => simp [Builtin.append_, run_underlying Tryd.underlying30, sizeOf, typeInfo, hi, Builtin.lenOf, Builtin.firstCells, hn, storeCells]
/-- append(l, A...) onto a row of attributes that has nothing, where A is given -/
theorem wpList_attrs0 {ops : Array Oper} {rest : List Oper} {o : Oper} {a : Act} {Q : Exit → Act → World → Prop} {w : World} (hgd : o.guard = none) (s x : Operand)
    (ho : o.op = .call { callee := .builtin .append, args := #[s, x], argTypes := #[30, 30] })
    (B : Nat) (A0 : Option Addr) (hs : a.eval s = .slice A0 0 0) (hown : w.ownsRow B 41 2 (.slice A0 0 0) 0 []) (hB : B ≤ w.heap.size)
    (u : Value) (hx : a.eval x = u) (l : List AtL) (hu : AttrsIn w u l) (hlen : l.length ≤ 1073741824)
    (h : ∀ v' w', w'.ownsRow B 41 2 v' l.length (atVals l) → w.grownBy w' (Value.slice A0 0 0).ownBlock → (v'.ownBlock = (Value.slice A0 0 0).ownBlock ∨ v'.ownBlock = some w.heap.size) → wpList Tryd.prog ops Q rest (a.put o.dst v') w') : wpList Tryd.prog ops Q (o :: rest) a w := by
  obtain ⟨i0, hi, hz0, hz1, hz2⟩ := info_parts info_at
  obtain ⟨A, c, rfl⟩ := hu.form
  rcases attrs_cells hu with ⟨rfl, e2, rfl, rfl⟩ | ⟨ad, rfl, e2, hc⟩
  · refine wpList_plain hgd fun K hK => ?_
    have hr := run_append_noneA w o.type A0 0 0 (Nat.le_refl _)
    unfold Oper.wp execOp
    simp only [ho, resolve, invoke, builtin, Sem.run_bind, Sem.run_pure, Result.andThen_ok, List.map_toArray, List.map_cons, List.map_nil, hs, hx, List.length_nil, hr]
    exact hK _ _ (h _ w hown ⟨rfl, rfl, rfl, Nat.le_refl _, fun _ _ _ => rfl⟩ (.inl rfl))
  · refine wpList_append_own2 _ hgd s x 30 ho B 41 i0 (.agg #[.string ByteArray.empty, .string ByteArray.empty]) 2 32 Tryd.underlying30 hi hz0 hz1 hz2 rfl (by decide) (.slice A0 0 0) 0 [] hs hown ad l.length c (atVals l) hx (atVals_length l) hc (atVals_one l) (by unfold maxLen; omega) (by omega) hB ?_
    intro v' w' ho' hg hor
    refine h v' w' ?_ hg hor
    rw [Nat.zero_add, List.nil_append] at ho'
    exact ho'
/-- a row that was made with no place -/
theorem own_empty (w : World) (T : TypeId) (sz : Nat) : (w.alloc (.cells #[] T)).ownsRow w.heap.size T sz (.slice (some ⟨w.heap.size, 0, none⟩) 0 0) 0 [] := by
  refine ⟨by simp, .inr ⟨w.heap.size, 0, #[], rfl, Nat.le_refl _, ?_, Nat.le_refl _, Nat.zero_le _, by simp, by simp⟩⟩
  show (w.heap.push _)[w.heap.size]? = _
  exact Array.getElem?_push_size
set_option maxHeartbeats 4000000 in
theorem cloneA_any (v : Value) (l : List AtL) (w : World) (h : AttrsIn w v l) (hl : l.length ≤ 1048576) :
    Calls Tryd.prog 33 #[v] w fun e w' => ∃ v', e = .returned v' ∧ w'.ownsRow w.heap.size 41 2 v' l.length (atVals l) ∧ Below w.heap.size w w' := by
  obtain ⟨A, c, rfl⟩ := h.form
  rcases attrs_cells h with ⟨rfl, e2, rfl, rfl⟩ | ⟨ad, rfl, e2, hc⟩
  · clear h
    have hz : ([] : List AtL).length = 0 := rfl
    rw [hz]
    have hnil : ∀ w1, (binOp .eql 30 (.slice none 0 0) (.slice none 0 0)).run Tryd.prog w1 = .ok (.bool true) w1 := fun w1 => Go.Lib.run_eql_slice_nil w1 30 41 none 0 0 0 0 Tryd.underlying30
    go_enter Tryd.func33, Tryd.ntmps33
    go_wp2_with fail
    go_ret
    exact ⟨_, rfl, World.ownsRow_nil w _ _ 2, Below.refl _ _⟩
  · have HI := hide (h.kept (below_one w (.cells #[] 41)))
    clear h hc
    have hnil : ∀ w1, (binOp .eql 30 (.slice (some ad) l.length c) (.slice none 0 0)).run Tryd.prog w1 = .ok (.bool false) w1 := fun w1 => Go.Lib.run_eql_slice_nil w1 30 41 (some ad) l.length c 0 0 Tryd.underlying30
    go_enter Tryd.func33, Tryd.ntmps33
    go_wp2_with (refine wpList_attrs0 rfl _ _ rfl w.heap.size (some ⟨w.heap.size, 0, none⟩) rfl (own_empty w _ 2) (by rw [World.size_alloc]; omega) _ rfl l HI.out (by omega) ?_
                 intro v' w' ho' hg' hor'
                 have HO := hide ho'
                 have HB : Hid (Below w.heap.size w w') := hide ((below_one w (.cells #[] 41)).grown hg' (by rw [World.size_alloc]; omega) (fun k e => by simp [Value.ownBlock] at e; omega))
                 clear ho' hg' hor')
    go_ret
    exact ⟨_, rfl, HO.out, HB.out⟩
set_option maxHeartbeats 4000000 in
theorem cloneN_any (C : Nat → Prop) (v : Value) (T : Tr) (w : World) (h : NodesC C w v T) (hC : ∀ b, C b → b < w.heap.size) (hl : T.len ≤ 1048576) :
    Calls Tryd.prog 32 #[v] w fun e w' => ∃ v', e = .returned v' ∧ ∃ qs, KRow C w.heap.size v' qs w' ∧ qs.map Prod.fst = T.list ∧ Below w.heap.size w w' := by
  obtain ⟨A, c, rfl⟩ := h.form
  cases A with
  | none =>
    rcases h with ⟨h1, rfl⟩ | ⟨a, cap, h1, _⟩
    · injection h1 with _ e2 e3
      subst e3
      have hz : Tr.len .nil = 0 := rfl
      rw [hz]
      have hnil : ∀ w1, (binOp .eql 22 (.slice none 0 0) (.slice none 0 0)).run Tryd.prog w1 = .ok (.bool true) w1 := fun w1 => Go.Lib.run_eql_slice_nil w1 22 32 none 0 0 0 0 Tryd.underlying22
      go_enter Tryd.func32, Tryd.ntmps32
      go_wp2_with fail
      go_ret
      exact ⟨_, rfl, [], KRow.nil C _ w, rfl, Below.refl _ _⟩
    · cases h1
  | some ad =>
    have hb1 := below_one w (Obj.cells #[] 32)
    have HN : Hid (NodesC C (w.alloc (.cells #[] 32)) (.slice (some ad) T.len c) T) := hide (NodesC.mono h (fun b hb => hb1.block b (hC b hb)) (fun _ x => x))
    have HK : Hid (KRow C w.heap.size (.slice (some ⟨w.heap.size, 0, none⟩) 0 0) [] (w.alloc (.cells #[] 32))) := hide ⟨own_empty w _ 4, fun q hq => (by cases hq), fun g e => by simp [Value.ownBlock] at e; subst e; intro hg; exact absurd (hC _ hg) (Nat.lt_irrefl _)⟩
    have HC := hide hC
    clear h hC hb1
    have hnil : ∀ w1, (binOp .eql 22 (.slice (some ad) T.len c) (.slice none 0 0)).run Tryd.prog w1 = .ok (.bool false) w1 := fun w1 => Go.Lib.run_eql_slice_nil w1 22 32 (some ad) T.len c 0 0 Tryd.underlying22
    go_enter Tryd.func32, Tryd.ntmps32
    go_wp2_with (refine wpList_nodes rfl _ _ rfl C w.heap.size (.slice (some ⟨w.heap.size, 0, none⟩) 0 0) [] rfl HK.out (fun k hk => by rw [World.size_alloc]; exact Nat.lt_succ_of_lt (HC.out k hk)) (by rw [World.size_alloc]; omega) _ rfl T HN.out (by simp only [List.length_nil]; omega) ?_
                 intro v' qs w' hk' he' hg' hor'
                 rw [List.nil_append] at hk'
                 have HK' := hide hk'
                 have HE := hide he'
                 have HB : Hid (Below w.heap.size w w') := hide ((below_one w (.cells #[] 32)).grown hg' (by rw [World.size_alloc]; omega) (fun k e => by simp [Value.ownBlock] at e; omega))
                 clear hk' he' hg' hor')
    go_ret
    exact ⟨_, rfl, qs, HK'.out, HE.out, HB.out⟩
end Go.Proofs.YtjaeheicndfdnaaDoor
