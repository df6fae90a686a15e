/- WALK of a builder's Write, and of a page's String. No statement is proved here. Own work of the verifier. -/
import Derived.Test.YtdeaofnhdbhknaaPnI
import Derived.Test.YtdeaofnhdbhknaaBuilder
namespace Go.Proofs.Ytdeaofnhdbhknaa
open Go.RowKit
set_option linter.unusedVariables false
set_option linter.unusedSimpArgs false
set_option maxRecDepth 100000
theorem run_append_noneB (w : World) (ty : TypeId) (A : Option Addr) (n c : Nat) (hn : n ≤ c) :
    (Builtin.append_ #[72, 72] ty #[.slice A n c, .slice none 0 0]).run Try.prog w = .ok (.slice A n c) w := by
  obtain ⟨i0, hi, hz0, hz1, hz2⟩ := info_parts info_u8
  cases A with
  | none => simp [Builtin.append_, run_underlying Try.underlying72, sizeOf, typeInfo, hi, Builtin.lenOf, Builtin.firstCells, hn]
  | some a => simp [Builtin.append_, run_underlying Try.underlying72, sizeOf, typeInfo, hi, Builtin.lenOf, Builtin.firstCells, hn, storeCells]
/-- append(l, q...) where q is given -/
theorem wpList_byts {ops : Array Oper} {rest : List Oper} {o : Oper} {a : Act} {Q : Exit → Act → World → Prop} {w : World} (hgd : o.guard = none) (s x : Operand)
    (ho : o.op = .call { callee := .builtin .append, args := #[s, x], argTypes := #[72, 72] })
    (B : Nat) (v : Value) (l : List UInt8) (hs : a.eval s = v) (hb : w.ownsRow B 5 1 v (cellsOf l).length (cellsOf l)) (hB : B ≤ w.heap.size) (B2 : Nat) (u : Value) (q : List UInt8) (hx : a.eval x = u) (hu : ByRow B2 u q w) (hlen : l.length + q.length ≤ 140737488355328)
    (h : ∀ v' w', w'.ownsRow B 5 1 v' (cellsOf (l ++ q)).length (cellsOf (l ++ q)) → w.grownBy w' v.ownBlock → wpList Try.prog ops Q rest (a.put o.dst v') w') : wpList Try.prog ops Q (o :: rest) a w := by
  obtain ⟨i0, hi, hz0, hz1, hz2⟩ := info_parts info_u8
  rw [cellsOf_length] at hb
  rcases hu.2 with ⟨rfl, h0⟩ | ⟨g, cap, cur, rfl, _⟩
  · have hq : q = [] := List.eq_nil_of_length_eq_zero h0
    subst hq
    refine wpList_plain hgd fun K hK => ?_
    obtain ⟨A, c, hv, hnc⟩ : ∃ A c, v = .slice A l.length c ∧ l.length ≤ c := by
      rcases hb.2 with ⟨rfl, h0⟩ | ⟨g, cap, cur, rfl, _, _, h1, _⟩
      · exact ⟨_, _, by rw [h0], by rw [h0]; exact Nat.le_refl _⟩
      · exact ⟨_, _, rfl, h1⟩
    have hr := run_append_noneB w o.type A l.length c hnc
    rw [← hv] at hr
    unfold Oper.wp execOp
    simp only [ho, resolve, invoke, builtin, Sem.run_bind, Sem.run_pure, Result.andThen_ok, List.map_toArray, List.map_cons, List.map_nil, hs, hx, hr]
    exact hK _ _ (h v w (by rw [List.append_nil, cellsOf_length]; exact hb) ⟨rfl, rfl, rfl, Nat.le_refl _, fun _ _ _ => rfl⟩)
  · refine wpList_append_own2 _ hgd s x 72 ho B 5 i0 (.int .u8 0) 1 1 Try.underlying72 hi hz0 hz1 hz2 rfl (by decide) v l.length (cellsOf l) hs hb ⟨g, 0, none⟩ q.length cap (cellsOf q) hx (by rw [cellsOf_length]; omega) (World.ownsRow.cells hu (g := g) rfl) (fun u hu => by obtain ⟨b, _, rfl⟩ := List.mem_map.1 hu; rfl) (by unfold maxLen; omega) (by omega) hB ?_
    intro v' w' ho' hg _
    refine h v' w' ?_ hg
    rw [cellsOf_length, List.length_append, cellsOf, List.map_append]
    exact ho'
set_option maxHeartbeats 1000000 in
theorem writeBytes_any (B b : Nat) (l : List UInt8) (B2 : Nat) (u : Value) (q : List UInt8) (W0 w : World) (h : Bld B b l W0 w) (hu : ByRow B2 u q w) (hub : ∀ k, u.ownBlock = some k → k < B) (hlen : l.length + q.length ≤ 140737488355328) :
    Calls Try.prog 45 #[.pointer (some ⟨b, 0, none⟩), u] w fun e w' => e = .returned (.tuple #[.int .i64 q.length, .nilIface]) ∧ Bld B b (l ++ q) W0 w' := by
  obtain ⟨h, hbel, hBw⟩ := h
  obtain ⟨Au, cu, rfl⟩ := hu.form
  have HBL := hide hbel
  have HU := hide hu
  have HUB := hide hub
  clear hbel hu hub
  go_enter Try.func45, Try.ntmps45
  go_wp2_with fail
  refine (copyCheck_any B b (cellsOf l) _ h).mono ?_
  rintro e w1 ⟨rfl, h1, hb1⟩
  obtain ⟨hB, v, hbk, hown, hne⟩ := h1
  have c1 : w1.cell? ⟨b, 1, none⟩ = some v := by rw [Lib.cell_of_heap hbk]; rfl
  have hlt : b < w1.heap.size := lt_of_block hbk
  have hu1 : ByRow B2 (.slice Au q.length cu) q w1 := by
    refine ⟨HU.out.1, ?_⟩
    rcases HU.out.2 with h0 | ⟨g, cap, cur, e1, e2, e3, e4⟩
    · exact .inl h0
    · refine .inr ⟨g, cap, cur, e1, e2, (hb1.block g (HUB.out g (by rw [e1]; rfl))).trans e3, e4⟩
  have HU1 := hide hu1
  have HBK := hide hbk
  have HOWN := hide hown
  have HNE := hide hne
  have HB1 := hide hb1
  have hsz1 := hb1.size
  clear hbk hown hne hb1 h hu1
  go_wp2_with (refine wpList_byts rfl _ _ rfl B v l rfl HOWN.out (by omega) B2 (.slice Au q.length cu) q rfl HU1.out hlen ?_
               intro v' w2 hown' hgrow
               obtain ⟨ao, n', cap, rfl⟩ : ∃ ao n' cap, v' = .slice ao n' cap := by
                 rcases hown'.2 with ⟨hv, _⟩ | ⟨g, cap, cur, hv, _⟩
                 · exact ⟨_, _, _, hv⟩
                 · exact ⟨_, _, _, hv⟩
               have hb2 : w2.heap[b]? = some (.cells #[.pointer (some ⟨b, 0, none⟩), v] 81 (0, 0)) := by
                 rw [hgrow.block b hlt (fun e => HNE.out e.symm)]
                 exact HBK.out
               have d1 : w2.cell? ⟨b, 1, none⟩ = some v := by rw [Lib.cell_of_heap hb2]; rfl
               have f1 : w2.frozen? ⟨b, 1, none⟩ = false := Lib.frozen_of_heap hb2 1
               have HO2 := hide hown'
               have HG2 := hide hgrow
               have HB2 := hide hb2
               clear hown' hgrow hb2)
  go_ret2
  have hb3 : Below B w w2 := HB1.out.grown HG2.out (by omega) (fun k hk => (HOWN.out.lt k hk).1)
  refine ⟨rfl, .inr ?_, (HBL.out.trans hb3).setCell (p := ⟨b, 1, none⟩) hB _, ?_⟩
  · exact Lib.BuilderAt.put (T := 81) (e := 5) hB HB2.out (bs' := cellsOf (l ++ q)) HO2.out (by decide)
  · rw [World.size_setCell]; exact Nat.le_trans hBw hb3.size
end Go.Proofs.Ytdeaofnhdbhknaa
