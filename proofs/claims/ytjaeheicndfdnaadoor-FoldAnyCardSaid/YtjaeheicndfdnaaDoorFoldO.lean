/- WALKS of slices.Grow of no nodes, slices.Concat of two rows of nodes. No statement is proved here. Own work of the verifier. -/
import Derived.Test.YtjaeheicndfdnaaDoorFoldB
import Derived.LoopN
import Derived.Lib.AppendZerosOnto
namespace Go.Proofs.YtjaeheicndfdnaaDoor
open Go.RowKit
set_option linter.unusedVariables false
set_option linter.unusedSimpArgs false
set_option maxRecDepth 100000
theorem growNone_any (w : World) : Calls Tryd.prog 34 #[.slice none 0 0, .int .i64 0] w fun e w' => e = .returned (.slice none 0 0) ∧ w' = w := by
  go_enter Tryd.func34, Tryd.ntmps34
  go_wp2_with fail
  go_ret
  exact ⟨rfl, rfl⟩
theorem own_bare (w : World) (G : Nat) (cs : Array Value) (hG : G ≤ maxLen) (hs : cs.size = G * 4) : (w.alloc (.cells cs 32)).ownsRow w.heap.size 32 4 (.slice (some ⟨w.heap.size, 0, none⟩) 0 G) 0 [] := by
  refine ⟨by simp, .inr ⟨w.heap.size, G, cs, rfl, Nat.le_refl _, heap_alloc_new w _, Nat.zero_le _, hG, hs, by simp⟩⟩
set_option maxHeartbeats 4000000 in
theorem growSome_any (n : Nat) (w : World) (hn : 0 < n) (hb : n ≤ 1073741824) :
    Calls Tryd.prog 34 #[.slice none 0 0, .int .i64 n] w fun e w' => ∃ G, e = .returned (.slice (some ⟨w.heap.size, 0, none⟩) 0 G) ∧ w'.ownsRow w.heap.size 32 4 (.slice (some ⟨w.heap.size, 0, none⟩) 0 G) 0 [] ∧ Below w.heap.size w w' := by
  obtain ⟨i0, hi, hz0, hz1, hz2⟩ := info_parts info_nd14
  have hold : (Builtin.firstCells i0.size 0 (.slice none 0 0)).run Tryd.prog w.drew = .ok #[] w.drew := run_firstCells_none w.drew i0.size 0 0 0
  have hrz := fun ty => Lib.run_append_grow_zeros (P := Tryd.prog) w 22 3 ty 32 i0 _ .i64 .i64 Tryd.underlying22 Tryd.underlying3 hi hz0 none 0 0 [] hold n (by omega) (by rw [hz1]; decide) (by omega) (by omega) (by rw [hz2]; omega) (by rw [hz2]; exact growslice_fits (by omega) (by omega))
  rw [Nat.zero_add] at hrz
  have hGn : n ≤ grownCap w n 0 32 := grownCap_ge w _ _ _
  have hG63 := grownCap_le_maxLen w n 0 32 (by unfold maxLen; omega)
  obtain ⟨G, hG⟩ : ∃ G, G = grownCap w n 0 32 := ⟨_, rfl⟩
  rw [← hG] at hrz hGn hG63
  obtain ⟨cs, hcs⟩ : ∃ cs, cs = (([] : List Value).toArray ++ Builtin.zeroCells (Value.agg #[Value.string ByteArray.empty, Value.slice none 0 0, Value.string ByteArray.empty, Value.slice none 0 0]).cells n ++ Builtin.zeroCells (Value.agg #[Value.string ByteArray.empty, Value.slice none 0 0, Value.string ByteArray.empty, Value.slice none 0 0]).cells (G - n)) := ⟨_, rfl⟩
  have hcz : cs.size = G * 4 := by
    rw [hcs, Array.size_append, Array.size_append, size_zeroCells, size_zeroCells]
    have : (Value.agg #[Value.string ByteArray.empty, Value.slice none 0 0, Value.string ByteArray.empty, Value.slice none 0 0]).cells.size = 4 := rfl
    rw [this]
    simp
    omega
  rw [← hcs] at hrz
  have HOWN := hide (own_bare w.drew G cs hG63 hcz)
  have HBW : Hid (Below w.heap.size w (w.drew.alloc (.cells cs 32))) := hide (bl_two (Below.refl _ _).drew (below_one w.drew _))
  unfold maxLen at hG63
  clear hG hcs hcz hold hi hz0 hz1 hz2
  have h1 : ¬ ((n : Int) < 0) := by omega
  have h2 : wrap64 ((0 : Int) - 0) = 0 := by unfold wrap64; omega
  have h3 : wrap64 ((n : Int) - 0) = (n : Int) := by unfold wrap64; omega
  have h4 : (n : Int) > 0 := by omega
  go_enter Tryd.func34, Tryd.ntmps34
  go_wp2_with (at_builtin; refine Lib.wpList_append_run _ rfl _ _ _ _ rfl _ _ rfl rfl _ _ (hrz _) ?_)
  go_ret
  exact ⟨G, rfl, HOWN.out, HBW.out⟩
theorem grow_any (n : Nat) (w : World) (hb : n ≤ 1073741824) :
    Calls Tryd.prog 34 #[.slice none 0 0, .int .i64 n] w fun e w' => ∃ A G, e = .returned (.slice A 0 G) ∧ KRow (fun b => b < w.heap.size) w.heap.size (.slice A 0 G) [] w' ∧ Below w.heap.size w w' := by
  by_cases h0 : n = 0
  · subst h0
    refine (growNone_any w).mono ?_
    rintro e w' ⟨rfl, rfl⟩
    exact ⟨none, 0, rfl, KRow.nil _ _ _, Below.refl _ _⟩
  · refine (growSome_any n w (by omega) hb).mono ?_
    rintro e w' ⟨G, rfl, ho, hbl⟩
    exact ⟨_, G, rfl, ⟨ho, fun q hq => (by cases hq), fun g e hg => by simp [Value.ownBlock] at e; omega⟩, hbl⟩
set_option maxHeartbeats 400000 in
theorem concat_any (g : Nat) (v1 v2 : Value) (T1 T2 : Tr) (w : World) (hrow : w.cell? ⟨g, 0, none⟩ = some v1) (hrow1 : w.cell? ⟨g, 1, none⟩ = some v2) (h1 : NodesIn w v1 T1) (h2 : NodesIn w v2 T2) (hc : T1.len + T2.len ≤ 1000000) :
    Calls Tryd.prog 28 #[.slice (some ⟨g, 0, none⟩) 2 2] w fun e w' => ∃ u, e = .returned u ∧ NodesIn w' u (T1.app T2) ∧ Below w.heap.size w w' := by
  obtain ⟨A1, c1, rfl⟩ := NodesC.form h1
  obtain ⟨A2, c2, rfl⟩ := NodesC.form h2
  have H1 := hide h1
  have H2 := hide h2
  have HG : Hid (Calls Tryd.prog 34 #[.slice none 0 0, .int .i64 ((T1.len : Int) + T2.len)] w fun e w' => ∃ A G, e = .returned (.slice A 0 G) ∧ KRow (fun b => b < w.heap.size) w.heap.size (.slice A 0 G) [] w' ∧ Below w.heap.size w w') := hide (by
    have := grow_any (T1.len + T2.len) w (by omega)
    rw [show ((T1.len + T2.len : Nat) : Int) = (T1.len : Int) + T2.len by omega] at this
    exact this)
  have HGL : Hid (g < w.heap.size) := hide (World.block_lt_of_cell? _ _ hrow)
  have K1 := hide hrow1
  clear h1 h2
  go_enter Tryd.func28, Tryd.ntmps28
  go_wp2_with fail
  refine wp_loop_rounds 3 ?_
  rw [rounds_succ]
  go_wp2_with fail
  rw [rounds_succ]
  go_wp2_with fail
  rw [rounds_succ]
  go_wp2_with fail
  refine HG.out.mono ?_
  rintro e w1 ⟨A0, G, rfl, hk0, hb0⟩
  have k0' : w1.cell? ⟨g, 0, none⟩ = some (.slice A1 T1.len c1) := (hb0.cell HGL.out).trans hrow
  have k1' : w1.cell? ⟨g, 1, none⟩ = some (.slice A2 T2.len c2) := (hb0.cell HGL.out).trans hrow1
  have HK0 := hide hk0
  have N1 : Hid (NodesC (fun b => b < w.heap.size) w1 (.slice A1 T1.len c1) T1) := hide (NodesC.mono H1.out (fun b hb => hb0.block b hb) (fun _ x => x))
  have HB0 := hide hb0
  clear hrow hrow1 hk0 hb0
  go_wp2_with fail
  refine wp_loop_rounds 3 ?_
  rw [rounds_succ]
  go_wp2_with (refine wpList_nodes rfl _ _ rfl (fun b => b < w.heap.size) w.heap.size (.slice A0 0 G) [] rfl HK0.out (fun k hk => Nat.lt_of_lt_of_le hk HB0.out.size) HB0.out.size _ rfl T1 N1.out (by simp only [List.length_nil]; omega) ?_
               intro v' qs w' hk' he' hg' hor'
               rw [List.nil_append] at hk'
               obtain ⟨A3, c3, hv3, _⟩ := hk'.slice
               subst hv3
               have k1'' : w'.cell? ⟨g, 1, none⟩ = some (.slice A2 T2.len c2) := ((HB0.out.grown hg' HB0.out.size (fun k e => (HK0.out.row.lt k e).1)).cell HGL.out).trans K1.out
               have HK' := hide hk'
               have HE := hide he'
               have HB : Hid (Below w.heap.size w w') := hide (HB0.out.grown hg' HB0.out.size (fun k e => (HK0.out.row.lt k e).1))
               clear hk' he' hg' hor')
  clear k0' k1'
  have N2 : Hid (NodesC (fun b => b < w.heap.size) w' (.slice A2 T2.len c2) T2) := hide (NodesC.mono H2.out (fun b hb => HB.out.block b hb) (fun _ x => x))
  have HQL : Hid (qs.length = T1.len) := hide (by rw [← Tr.len_list, ← HE.out, List.length_map])
  have hql2 : qs.length + T2.len ≤ 1073741824 := by have := HQL.out; omega
  rw [rounds_succ]
  go_wp2_with (refine wpList_nodes rfl _ _ rfl (fun b => b < w.heap.size) w.heap.size (.slice A3 qs.length c3) qs rfl HK'.out (fun k hk => Nat.lt_of_lt_of_le hk HB.out.size) HB.out.size _ rfl T2 N2.out hql2 ?_
               intro v'' qs2 w'' hk' he' hg' hor'
               obtain ⟨A4, c4, hv4, _⟩ := hk'.slice
               subst hv4
               have HK2 := hide hk'
               have HE2 := hide he'
               have HB2 : Hid (Below w.heap.size w w'') := hide (HB.out.grown hg' HB.out.size (fun k e => (HK'.out.row.lt k e).1))
               clear hk' he' hg' hor')
  rw [rounds_succ]
  go_wp2_with fail
  go_ret
  refine ⟨_, rfl, ?_, HB2.out⟩
  have h := KRow.nodes (C' := fun b => b < w''.heap.size) HK2.out (fun b hb => Nat.lt_of_lt_of_le hb HB2.out.size) (fun k e => (HK2.out.row.lt k e).2)
  have e : Tr.of ((qs ++ qs2).map Prod.fst) = T1.app T2 := by
    apply Tr.list_inj
    rw [Tr.list_of, List.map_append, HE.out, HE2.out, Tr.list_app]
  rw [e] at h
  rw [List.length_append] at h
  exact h
end Go.Proofs.YtjaeheicndfdnaaDoor
