/- WALK of fold.Open. No statement is proved here. Own work of the verifier. -/
import Derived.Test.YtjaeheicndfdnaaDoorFoldP
namespace Go.Proofs.YtjaeheicndfdnaaDoor
open Go.RowKit
set_option linter.unusedVariables false
set_option linter.unusedSimpArgs false
set_option maxRecDepth 100000
/-- Open -/
def openT (T : Tr) : Tr := match T.list.getLast? with
  | none => T
  | some (h, K) => if isFoldN h = true then (Tr.of T.list.dropLast).app K else T
set_option maxHeartbeats 8000000 in
theorem open_any (v : Value) (T : Tr) (w : World) (hT : NodesIn w v T) (hc : T.count ≤ 1000000) (ha : T.all attrsFew = true) :
    Calls Tryd.prog 16 #[v] w fun e w' => ∃ u, e = .returned u ∧ NodesIn w' u (openT T) ∧ Below w.heap.size w w' := by
  have hlen := Tr.len_count T
  have HCL : Hid (∀ u U w1, NodesIn w1 u U → Below w.heap.size w w1 → U.count ≤ T.count → U.all attrsFew = true → Calls Tryd.prog 25 #[u] w1 fun e w' => ∃ u', e = .returned u' ∧ NodesIn w' u' U ∧ Below w.heap.size w w') := hide (fun u U w1 hu hb h1 h2 => by
    refine (clone_any u U w1 hu (by omega) h2).mono ?_
    rintro e w2 ⟨u', rfl, ks, S, hk, hm, hS, hb2⟩
    refine ⟨u', rfl, ?_, bl_two hb hb2⟩
    have := hk.nodes (C' := fun b => b < w2.heap.size) (fun b hb => hb.2) (fun k e => (hk.row.lt k e).2)
    rw [hm, Tr.of_list] at this
    exact this)
  obtain ⟨A, c, rfl⟩ := NodesC.form hT
  have hcap := NodesC.cap hT
  unfold maxLen at hcap
  by_cases h0 : T.len = 0
  · have hz : T = .nil := by cases T with | nil => rfl | cons _ _ _ => simp [Tr.len] at h0
    subst hz
    have HC1 := hide (HCL.out _ _ w hT (Below.refl _ _) (Nat.le_refl _) rfl)
    have hkl : Tr.len .nil = 0 := rfl
    rw [hkl] at HC1 ⊢
    clear HCL hT
    go_enter Tryd.func16, Tryd.ntmps16
    go_wp2_with fail
    refine HC1.out.mono ?_
    rintro e w1 ⟨u, rfl, hn, hb⟩
    have HN := hide hn
    have HB := hide hb
    clear hn hb
    go_wp2_with fail
    go_ret
    exact ⟨_, rfl, HN.out, HB.out⟩
  · obtain ⟨k, hk⟩ : ∃ k, T.len = k + 1 := ⟨T.len - 1, by omega⟩
    obtain ⟨⟨f, K⟩, hf⟩ : ∃ f, T.list[k]? = some f := ⟨_, List.getElem?_eq_getElem (by rw [Tr.len_list]; omega)⟩
    have HO : Hid (openT T = if isFoldN f = true then (Tr.of (T.list.take k)).app K else T) := hide (by
      unfold openT
      rw [List.getLast?_eq_getElem?, Tr.len_list, hk, Nat.add_sub_cancel, hf, List.dropLast_eq_take, Tr.len_list, hk, Nat.add_sub_cancel])
    obtain ⟨a, dd, x, y, zz, mm, hA, -, p1, p2, hAt, p3, p4, hmm, hK⟩ := NodesC.at hT k f K hf
    subst hA hmm
    have hKc := Tr.at_count hf
    obtain ⟨fa1, fa2⟩ := Tr.all_at ha hf
    have hfl : f.attrs.length ≤ 1048576 := by unfold attrsFew at fa1; exact of_decide_eq_true fa1
    have HIS := hide (isFold_any f _ x K.len zz w hAt.1 hfl)
    have HTK : Hid (NodesIn w (.slice (some a) k c) (Tr.of (T.list.take k))) := hide (nodes_take hT (by omega))
    have HKN : Hid (NodesIn w (.slice x K.len zz) K) := hide hK
    have HT := hide hT
    have HCA : Hid (((Tr.of (T.list.take k)).app K).count ≤ T.count ∧ ((Tr.of (T.list.take k)).app K).all attrsFew = true ∧ (Tr.of (T.list.take k)).len + K.len ≤ 1000000) := hide (by
      have h1 := cut_app k T
      have h2 := app_count (Tr.of (T.list.take k)) (Tr.drop k T)
      have h3 := app_all attrsFew (Tr.of (T.list.take k)) (Tr.drop k T)
      rw [h1] at h2 h3
      obtain ⟨p, K2, hd, hd2⟩ := Tr.drop_cons k T (by omega)
      rw [hf] at hd2
      injection hd2 with hd2
      injection hd2 with e1 e2
      subst e1 e2
      rw [hd] at h2 h3
      rw [ha] at h3
      simp only [Tr.count] at h2
      have h4 := (Bool.and_eq_true_iff.1 h3.symm).1
      refine ⟨by rw [app_count]; omega, by rw [app_all, h4, fa2]; rfl, ?_⟩
      have h5 := Tr.len_count K
      have h6 := Tr.len_count (Tr.of (T.list.take k))
      omega)
    have HAL := hide ha
    have hk1 : k < 1000000 := by omega
    rw [hk] at HT hcap ⊢
    have hck : ¬ c = k := by omega
    have hck2 : k < c := by omega
    have hkc : k ≤ c := by omega
    clear hT ha hK hAt hf hfl fa1 fa2 hKc hk h0 hlen
    cases hb : isFoldN f with
    | false =>
      rw [hb] at HIS HO
      go_enter Tryd.func16, Tryd.ntmps16
      go_wp2_with fail
      refine HIS.out.mono ?_
      rintro e w1 ⟨rfl, hb1⟩
      have HC1 := hide (HCL.out _ T w1 (HT.out.kept hb1) hb1 (Nat.le_refl _) HAL.out)
      clear hb1
      go_wp2_with fail
      refine HC1.out.mono ?_
      rintro e w2 ⟨u, rfl, hn, hb2⟩
      have HN : Hid (NodesIn w2 u (openT T)) := hide (by rw [HO.out]; exact hn)
      have HB := hide hb2
      clear hn hb2
      go_wp2_with fail
      go_ret
      exact ⟨_, rfl, HN.out, HB.out⟩
    | true =>
      rw [hb] at HIS HO
      go_enter Tryd.func16, Tryd.ntmps16
      go_wp2_with fail
      refine HIS.out.mono ?_
      rintro e w1 ⟨rfl, hb1⟩
      have q4 : w1.cell? { block := (a.add (k * 4)).block, off := (a.add (k * 4)).off + 3 } = some (.slice x K.len zz) := (hb1.cell (World.block_lt_of_cell? _ _ p4)).trans p4
      have HB1 := hide hb1
      have HTK1 := hide (HTK.out.kept hb1)
      have HKN1 := hide (HKN.out.kept hb1)
      clear hb1 p1 p2 p3 p4
      go_wp2_with fail
      refine wp_region_held_drew (S := fun _ => True) (by kernel_rfl) trivial (fun hHeld => ?_)
      refine wpAnyH_take (i := 0) (v := ?_) rfl (by kernel_rfl) (by kernel_rfl) (by kernel_rfl) (fun _ _ _ h => h) (Or.inl ⟨by rfl, ?_⟩) (by assumption) ?_
      rotate_left
      · (intro w hSw; (try dsimp only at hSw); (try simp only [List.getElem_toArray, List.getElem_cons_succ, List.getElem_cons_zero]); go_simp; first | done | with_reducible rfl)
      try simp only [Act.put, List.setIfInBounds_toArray, List.set_cons_zero, List.set_cons_succ, List.getElem_toArray, List.getElem_cons_succ, List.getElem_cons_zero]
      refine wpAnyH_take (i := 1) (v := ?_) rfl (by kernel_rfl) (by kernel_rfl) (by kernel_rfl) (fun _ _ _ h => h) (Or.inl ⟨by rfl, ?_⟩) (by assumption) ?_
      rotate_left
      · (intro w hSw; (try dsimp only at hSw); (try simp only [List.getElem_toArray, List.getElem_cons_succ, List.getElem_cons_zero]); go_simp; first | done | with_reducible rfl)
      try simp only [Act.put, List.setIfInBounds_toArray, List.set_cons_zero, List.set_cons_succ, List.getElem_toArray, List.getElem_cons_succ, List.getElem_cons_zero]
      refine wpAnyH_take (i := 2) (v := ?_) rfl (by kernel_rfl) (by kernel_rfl) (by kernel_rfl) (fun _ _ _ h => h) (Or.inl ⟨by rfl, ?_⟩) (by assumption) ?_
      rotate_left
      · (intro w hSw; (try dsimp only at hSw); (try simp only [List.getElem_toArray, List.getElem_cons_succ, List.getElem_cons_zero]); go_simp; first | done | with_reducible rfl)
      try simp only [Act.put, List.setIfInBounds_toArray, List.set_cons_zero, List.set_cons_succ, List.getElem_toArray, List.getElem_cons_succ, List.getElem_cons_zero]
      refine wpAnyH_take (i := 3) (v := ?_) rfl (by kernel_rfl) (by kernel_rfl) (by kernel_rfl) (fun _ _ _ h => h) (Or.inl ⟨by rfl, ?_⟩) (by assumption) ?_
      rotate_left
      · (intro w hSw; (try dsimp only at hSw); (try simp only [List.getElem_toArray, List.getElem_cons_succ, List.getElem_cons_zero]); go_simp; first | done | with_reducible rfl)
      try simp only [Act.put, List.setIfInBounds_toArray, List.set_cons_zero, List.set_cons_succ, List.getElem_toArray, List.getElem_cons_succ, List.getElem_cons_zero]
      refine wpAnyH_take (i := 4) (v := ?_) rfl (by kernel_rfl) (by kernel_rfl) (by kernel_rfl) (fun _ _ _ h => h) (Or.inl ⟨by rfl, ?_⟩) (by assumption) ?_
      rotate_left
      · (intro w hSw; (try dsimp only at hSw); (try simp only [List.getElem_toArray, List.getElem_cons_succ, List.getElem_cons_zero]); go_simp; first | done | with_reducible rfl)
      try simp only [Act.put, List.setIfInBounds_toArray, List.set_cons_zero, List.set_cons_succ, List.getElem_toArray, List.getElem_cons_succ, List.getElem_cons_zero]
      refine wpAnyH_take (i := 5) (v := ?_) rfl (by kernel_rfl) (by kernel_rfl) (by kernel_rfl) (fun _ _ _ h => h) (Or.inl ⟨by rfl, ?_⟩) (by assumption) ?_
      rotate_left
      · (intro w hSw; (try dsimp only at hSw); (try simp only [List.getElem_toArray, List.getElem_cons_succ, List.getElem_cons_zero]); go_simp; first | done | with_reducible rfl)
      try simp only [Act.put, List.setIfInBounds_toArray, List.set_cons_zero, List.set_cons_succ, List.getElem_toArray, List.getElem_cons_succ, List.getElem_cons_zero]
      refine wpAnyH_take (i := 6) (v := ?_) rfl (by kernel_rfl) (by kernel_rfl) (by kernel_rfl) (fun _ _ _ h => h) (Or.inl ⟨by rfl, ?_⟩) (by assumption) ?_
      rotate_left
      · (intro w hSw; (try dsimp only at hSw); (try simp only [List.getElem_toArray, List.getElem_cons_succ, List.getElem_cons_zero]); go_simp; first | done | with_reducible rfl)
      try simp only [Act.put, List.setIfInBounds_toArray, List.set_cons_zero, List.set_cons_succ, List.getElem_toArray, List.getElem_cons_succ, List.getElem_cons_zero]
      refine wpAnyH_ready (rs := [7]) (by kernel_rfl) (by simp) ?_
      refine AllReadyH.cons rfl (fun K' hK' => ?_) AllReadyH.nil
      try simp only [List.getElem_toArray, List.getElem_cons_succ, List.getElem_cons_zero]
      go_simp
      go_wp2_with fail
      refine hK'.out _ _ trivial (fun hHeld => ?_)
      clear hK' K'
      try simp only [Act.put, List.setIfInBounds_toArray, List.set_cons_zero, List.set_cons_succ, List.getElem_toArray, List.getElem_cons_succ, List.getElem_cons_zero]
      refine wpAnyH_ready (rs := [8]) (by kernel_rfl) (by simp) ?_
      refine AllReadyH.cons rfl (fun K' hK' => ?_) AllReadyH.nil
      try simp only [List.getElem_toArray, List.getElem_cons_succ, List.getElem_cons_zero]
      go_simp
      go_wp2_with fail
      have hbw : Below w1.heap.size w1 (w1.alloc (.cells #[.slice (some a) k c, .slice x K.len zz] 22)).drew := (below_one w1 _).drew
      have hblk := heap_alloc_new w1 (.cells #[.slice (some a) k c, .slice x K.len zz] 22)
      have HCC := hide (concat_any w1.heap.size (.slice (some a) k c) (.slice x K.len zz) (Tr.of (T.list.take k)) K (w1.alloc (.cells #[.slice (some a) k c, .slice x K.len zz] 22)).drew ((Lib.cell_of_heap hblk 0).trans rfl) ((Lib.cell_of_heap hblk 1).trans rfl) (HTK1.out.kept hbw) (HKN1.out.kept hbw) HCA.out.2.2)
      have HBW := hide (bl_two HB1.out hbw)
      clear hbw hblk
      refine hK'.out _ _ trivial (fun hHeld => ?_)
      clear hK' K'
      try simp only [Act.put, List.setIfInBounds_toArray, List.set_cons_zero, List.set_cons_succ, List.getElem_toArray, List.getElem_cons_succ, List.getElem_cons_zero]
      refine wpAnyH_ready (rs := [9]) (by kernel_rfl) (by simp) ?_
      refine AllReadyH.cons rfl (fun K' hK' => ?_) AllReadyH.nil
      try simp only [List.getElem_toArray, List.getElem_cons_succ, List.getElem_cons_zero]
      go_simp
      go_at_call 28
      refine HCC.out.mono ?_
      rintro e w3 ⟨u3, rfl, hn3, hb3⟩
      have HB3 := hide (bl_two HBW.out hb3)
      have HC3 := hide (HCL.out u3 _ w3 hn3 HB3.out HCA.out.1 HCA.out.2.1)
      obtain ⟨A3, c3, rfl⟩ := NodesC.form hn3
      clear hn3 hb3 HCC
      go_wp2_with fail
      refine hK'.out _ _ trivial (fun hHeld => ?_)
      clear hK' K'
      try simp only [Act.put, List.setIfInBounds_toArray, List.set_cons_zero, List.set_cons_succ, List.getElem_toArray, List.getElem_cons_succ, List.getElem_cons_zero]
      refine wpAnyH_ready (rs := [10]) (by kernel_rfl) (by simp) ?_
      refine AllReadyH.cons rfl (fun K' hK' => ?_) AllReadyH.nil
      try simp only [List.getElem_toArray, List.getElem_cons_succ, List.getElem_cons_zero]
      go_simp
      go_at_call 25
      refine HC3.out.mono ?_
      rintro e w4 ⟨u4, rfl, hn4, hb4⟩
      have HN4 : Hid (NodesIn w4 u4 (openT T)) := hide (by have := HO.out; simp only [if_true] at this; rw [this]; exact hn4)
      have HB4 := hide hb4
      obtain ⟨A4, c4, rfl⟩ := NodesC.form hn4
      clear hn4 hb4 HC3
      go_wp2_with fail
      refine hK'.out _ _ trivial (fun hHeld => ?_)
      clear hK' K'
      try simp only [Act.put, List.setIfInBounds_toArray, List.set_cons_zero, List.set_cons_succ, List.getElem_toArray, List.getElem_cons_succ, List.getElem_cons_zero]
      refine wpAnyH_take (i := 11) (v := ?_) rfl (by kernel_rfl) (by kernel_rfl) (by kernel_rfl) (fun _ _ _ h => h) (Or.inl ⟨by rfl, ?_⟩) (by assumption) ?_
      rotate_left
      · (intro w hSw; (try dsimp only at hSw); (try simp only [List.getElem_toArray, List.getElem_cons_succ, List.getElem_cons_zero]); go_simp; first | done | with_reducible rfl)
      try simp only [Act.put, List.setIfInBounds_toArray, List.set_cons_zero, List.set_cons_succ, List.getElem_toArray, List.getElem_cons_succ, List.getElem_cons_zero]
      refine wpAnyH_done (by kernel_rfl) ?_ _
      go_wp2_with fail
      go_ret
      exact ⟨_, rfl, HN4.out, HB4.out⟩
end Go.Proofs.YtjaeheicndfdnaaDoor
