/- WALK of fold.Fold. No statement is proved here. Own work of the verifier. -/
import Derived.Test.YtjaeheicndfdnaaDoorFoldF
import Derived.Deep.RegionHeld
namespace Go.Proofs.YtjaeheicndfdnaaDoor
open Go.RowKit
set_option linter.unusedVariables false
set_option linter.unusedSimpArgs false
set_option maxRecDepth 100000
set_option maxHeartbeats 8000000 in
theorem fold_any (v : Value) (T : Tr) (w : World) (hT : NodesIn w v T) (hU : Utf8T w) (hc : T.count ≤ 1000000) (ha : T.all attrsFew = true) (hx : ∀ p ∈ T.list, p.1.text.length ≤ 1000000) :
    Calls Tryd.prog 14 #[v] w fun e w' => ∃ u, e = .returned u ∧ NodesIn w' u (foldT T) ∧ Below w.heap.size w w' := by
  have hlen := Tr.len_count T
  have HW := hide (where_any v T w hT hU (by omega) hx)
  obtain ⟨A, c, rfl⟩ := NodesC.form hT
  have hcap := NodesC.cap hT
  have hpl := whereP_le (T.list.map Prod.fst)
  rw [List.length_map, Tr.len_list] at hpl
  have HF : Hid (∀ b p, whereP (T.list.map Prod.fst) = (p, b) → foldT T = if b = true then Tr.of (T.list.take p ++ [(foldH, Tr.drop p T)]) else T) := hide (fun b p e => by unfold foldT; rw [e])
  obtain ⟨⟨p, b⟩, hpb⟩ : ∃ x, x = whereP (T.list.map Prod.fst) := ⟨_, rfl⟩
  have hft := HF.out b p hpb.symm
  rw [← hpb] at HW hpl
  simp only at hpl HW
  have HFT := hide hft
  have HPL : Hid (b = true → p < T.len) := hide (fun hb => by
    have h1 := whereP_lt (T.list.map Prod.fst)
    rw [← hpb, List.length_map, Tr.len_list] at h1
    exact h1 hb)
  have HNE : Hid (b = true → T.list.map Prod.fst ≠ []) := hide (fun hb e => by rw [e] at hpb; injection hpb with _ e2; rw [hb] at e2; cases e2)
  have HT := hide hT
  have HA := hide ha
  clear hft HF hpb hT ha hx
  unfold maxLen at hcap
  go_enter Tryd.func14, Tryd.ntmps14
  go_wp2_with fail
  refine HW.out.mono ?_
  rintro e w1 ⟨rfl, hb1⟩
  have HB1 := hide hb1
  clear hb1
  cases b with
  | false =>
    have HC := hide (clone_any _ T w1 (HT.out.kept HB1.out) hc HA.out)
    have HFE : Hid (foldT T = T) := hide (by rw [HFT.out]; rfl)
    go_wp2_with fail
    refine HC.out.mono ?_
    rintro e w2 ⟨u, rfl, ks, S, hk, hm, hS, hb2⟩
    have HB2 := hide (bl_two HB1.out hb2)
    have HN : Hid (NodesIn w2 u T) := hide (by
      have := hk.nodes (C' := fun b => b < w2.heap.size) (fun b hb => hb.2) (fun k e => (hk.row.lt k e).2)
      rw [hm, Tr.of_list] at this
      exact this)
    obtain ⟨A2, c2, rfl⟩ := NodesC.form HN.out
    clear hk hm hS hb2
    go_wp2_with fail
    go_ret
    exact ⟨_, rfl, by rw [HFE.out]; exact HN.out, HB2.out⟩
  | true =>
    have hT1 := HT.out.kept HB1.out
    have HC1 : Hid (∀ w', Below w1.heap.size w1 w' → Calls Tryd.prog 25 #[.slice A p c] w' fun e w'' => ∃ u, e = .returned u ∧ ∃ ks S, KRow (NewB S w'') w'.heap.size u ks w'' ∧ ks.map Prod.fst = T.list.take p ∧ w'.heap.size ≤ S ∧ Below w'.heap.size w' w'') := hide (fun w' hb => by
      have h1 := cut_app p T
      have := clone_any (.slice A p c) (Tr.of (T.list.take p)) w' (NodesIn.kept (nodes_take hT1 hpl) hb) (by have h2 := app_count (Tr.of (T.list.take p)) (Tr.drop p T); rw [h1] at h2; omega) (by have h2 := app_all attrsFew (Tr.of (T.list.take p)) (Tr.drop p T); rw [h1, HA.out] at h2; simpa using (Bool.and_eq_true_iff.1 h2.symm).1)
      rw [Tr.list_of] at this
      exact this)
    obtain ⟨A9, hA9, hdrop⟩ : ∃ A9, (∀ a, A = some a → A9 = some (a.add (p * 4))) ∧ (∃ a, A = some a) ∧ NodesIn w1 (.slice A9 (T.len - p) (c - p)) (Tr.drop p T) := by
      cases A with
      | none =>
        exfalso
        rcases hT1 with ⟨h1, h2⟩ | ⟨a, cap, h1, _⟩
        · exact HNE.out rfl (by rw [h2]; rfl)
        · cases h1
      | some a => exact ⟨_, fun b e => by injection e with e; rw [e], ⟨a, rfl⟩, nodes_drop hT1 hpl⟩
    obtain ⟨⟨a, rfl⟩, hdrop⟩ := hdrop
    obtain rfl := hA9 a rfl
    have HC2 : Hid (∀ w', Below w1.heap.size w1 w' → Calls Tryd.prog 25 #[.slice (some (a.add (p * 4))) (T.len - p) (c - p)] w' fun e w'' => ∃ u, e = .returned u ∧ ∃ ks S, KRow (NewB S w'') w'.heap.size u ks w'' ∧ ks.map Prod.fst = T.list.drop p ∧ w'.heap.size ≤ S ∧ Below w'.heap.size w' w'') := hide (fun w' hb => by
      have h1 := cut_app p T
      have := clone_any _ (Tr.drop p T) w' (NodesIn.kept hdrop hb) (by have h2 := app_count (Tr.of (T.list.take p)) (Tr.drop p T); rw [h1] at h2; omega) (by have h2 := app_all attrsFew (Tr.of (T.list.take p)) (Tr.drop p T); rw [h1, HA.out] at h2; simpa using (Bool.and_eq_true_iff.1 h2.symm).2)
      rw [Tr.list_drop] at this
      exact this)
    have hplt := HPL.out rfl
    have hcp : ¬ c = p := by omega
    have hpi : (p : Int) ≤ T.len := by omega
    have hpc : (p : Int) ≤ c := by omega
    have HB0 := hide (Below.refl w1.heap.size w1)
    clear hdrop hA9 hT1
    go_wp2_with fail
    have HLB : Hid (∀ ks1 : List KidV, ks1.map Prod.fst = T.list.take p → ks1.length + 1 ≤ 1073741824) := hide (fun ks1 e => by
      have h1 := congrArg List.length e
      rw [List.length_map, List.length_take] at h1
      omega)
    refine wp_region_held_drew (S := fun _ => True) (by kernel_rfl) trivial (fun hHeld => ?_)
    refine wpAnyH_take (i := 0) (v := ?_) rfl (by kernel_rfl) (by kernel_rfl) (by kernel_rfl) (fun _ _ _ h => h) (Or.inl ⟨by rfl, ?_⟩) (by assumption) ?_
    rotate_left
    · (intro w hSw; (try dsimp only at hSw); (try simp only [List.getElem_toArray, List.getElem_cons_succ, List.getElem_cons_zero]); go_simp; first | done | with_reducible rfl)
    try simp only [Act.put, List.setIfInBounds_toArray, List.set_cons_zero, List.set_cons_succ, List.getElem_toArray, List.getElem_cons_succ, List.getElem_cons_zero]
    refine wpAnyH_take (i := 1) (v := ?_) rfl (by kernel_rfl) (by kernel_rfl) (by kernel_rfl) (fun _ _ _ h => h) (Or.inl ⟨by rfl, ?_⟩) (by assumption) ?_
    rotate_left
    · (intro w hSw; (try dsimp only at hSw); (try simp only [List.getElem_toArray, List.getElem_cons_succ, List.getElem_cons_zero]); go_simp; first | done | with_reducible rfl)
    try simp only [Act.put, List.setIfInBounds_toArray, List.set_cons_zero, List.set_cons_succ, List.getElem_toArray, List.getElem_cons_succ, List.getElem_cons_zero]
    refine wpAnyH_take (i := 2) (v := ?_) rfl (by kernel_rfl) (by kernel_rfl) (by kernel_rfl) (fun _ _ _ h => h) (Or.inl ⟨by rfl, ?_⟩) (by assumption) ?_
    rotate_left
    · (intro w hSw; (try dsimp only at hSw); (try simp only [List.getElem_toArray, List.getElem_cons_succ, List.getElem_cons_zero]); go_simp; first | done | with_reducible rfl)
    try simp only [Act.put, List.setIfInBounds_toArray, List.set_cons_zero, List.set_cons_succ, List.getElem_toArray, List.getElem_cons_succ, List.getElem_cons_zero]
    refine wpAnyH_take (i := 4) (v := ?_) rfl (by kernel_rfl) (by kernel_rfl) (by kernel_rfl) (fun _ _ _ h => h) (Or.inl ⟨by rfl, ?_⟩) (by assumption) ?_
    rotate_left
    · (intro w hSw; (try dsimp only at hSw); (try simp only [List.getElem_toArray, List.getElem_cons_succ, List.getElem_cons_zero]); go_simp; first | done | with_reducible rfl)
    try simp only [Act.put, List.setIfInBounds_toArray, List.set_cons_zero, List.set_cons_succ, List.getElem_toArray, List.getElem_cons_succ, List.getElem_cons_zero]
    refine wpAnyH_take (i := 5) (v := ?_) rfl (by kernel_rfl) (by kernel_rfl) (by kernel_rfl) (fun _ _ _ h => h) (Or.inl ⟨by rfl, ?_⟩) (by assumption) ?_
    rotate_left
    · (intro w hSw; (try dsimp only at hSw); (try simp only [List.getElem_toArray, List.getElem_cons_succ, List.getElem_cons_zero]); go_simp; first | done | with_reducible rfl)
    try simp only [Act.put, List.setIfInBounds_toArray, List.set_cons_zero, List.set_cons_succ, List.getElem_toArray, List.getElem_cons_succ, List.getElem_cons_zero]
    refine wpAnyH_take (i := 6) (v := ?_) rfl (by kernel_rfl) (by kernel_rfl) (by kernel_rfl) (fun _ _ _ h => h) (Or.inl ⟨by rfl, ?_⟩) (by assumption) ?_
    rotate_left
    · (intro w hSw; (try dsimp only at hSw); (try simp only [List.getElem_toArray, List.getElem_cons_succ, List.getElem_cons_zero]); go_simp; first | done | with_reducible rfl)
    try simp only [Act.put, List.setIfInBounds_toArray, List.set_cons_zero, List.set_cons_succ, List.getElem_toArray, List.getElem_cons_succ, List.getElem_cons_zero]
    refine wpAnyH_ready (rs := [3]) (by kernel_rfl) (by simp) ?_
    refine AllReadyH.cons rfl (fun K hK => ?_) AllReadyH.nil
    try simp only [List.getElem_toArray, List.getElem_cons_succ, List.getElem_cons_zero]
    go_simp
    go_at_call 25
    refine (HC1.out _ HB0.out.drew).mono ?_
    rintro e wa ⟨u1, rfl, ks1, S1, hk1, hm1, hS1, hb1⟩
    have HBa := hide (bl_two HB0.out.drew hb1)
    have HK1 : Hid (KRow (NewB S1 wa) w1.heap.size u1 ks1 wa) := hide ⟨ownsRow_down hk1.row (Nat.le_refl _), hk1.each, hk1.out⟩
    have HM1 := hide hm1
    obtain ⟨Aa, ca, hu1, _⟩ := hk1.slice
    subst hu1
    clear hk1 hm1 hS1 hb1
    go_wp2_with fail
    refine hK.out _ _ trivial (fun hHeld => ?_)
    clear hK K
    try simp only [Act.put, List.setIfInBounds_toArray, List.set_cons_zero, List.set_cons_succ, List.getElem_toArray, List.getElem_cons_succ, List.getElem_cons_zero]
    refine wpAnyH_ready (rs := [7]) (by kernel_rfl) (by simp) ?_
    refine AllReadyH.cons rfl (fun K hK => ?_) AllReadyH.nil
    try simp only [List.getElem_toArray, List.getElem_cons_succ, List.getElem_cons_zero]
    go_simp
    go_at_call 25
    refine (HC2.out _ HBa.out).mono ?_
    rintro e wb ⟨u2, rfl, ks2, S2, hk2, hm2, hS2, hb2⟩
    obtain ⟨Ab, cb, hu2, _⟩ := hk2.slice
    have HB2 := hide hb2
    have HK2 := hide hk2
    have HS2 := hide hS2
    have HM2 := hide hm2
    subst hu2
    clear hk2 hm2 hS2 hb2
    go_wp2_with fail
    refine hK.out _ _ trivial (fun hHeld => ?_)
    clear hK K
    try simp only [Act.put, List.setIfInBounds_toArray, List.set_cons_zero, List.set_cons_succ, List.getElem_toArray, List.getElem_cons_succ, List.getElem_cons_zero]
    refine wpAnyH_ready (rs := [8]) (by kernel_rfl) (by simp) ?_
    refine AllReadyH.cons rfl (fun K hK => ?_) AllReadyH.nil
    try simp only [List.getElem_toArray, List.getElem_cons_succ, List.getElem_cons_zero]
    go_simp
    go_at_call 26
    refine (folded_any _ _ _ _).mono ?_
    rintro e wc ⟨gf, rfl, hgf, hgb, hb3⟩
    have HRD := hide (fold_ready HK1.out HK2.out HS2.out HB2.out hgf hgb hb3)
    have HBc := hide (bl_two (bl_two HBa.out HB2.out) hb3)
    clear hgf hgb hb3
    go_wp2_with fail
    refine hK.out _ _ trivial (fun hHeld => ?_)
    clear hK K
    try simp only [Act.put, List.setIfInBounds_toArray, List.set_cons_zero, List.set_cons_succ, List.getElem_toArray, List.getElem_cons_succ, List.getElem_cons_zero]
    refine wpAnyH_ready (rs := [9]) (by kernel_rfl) (by simp) ?_
    refine AllReadyH.cons rfl (fun K hK => ?_) AllReadyH.nil
    try simp only [List.getElem_toArray, List.getElem_cons_succ, List.getElem_cons_zero]
    go_simp
    go_wp2_with fail
    refine hK.out _ _ trivial (fun hHeld => ?_)
    clear hK K
    try simp only [Act.put, List.setIfInBounds_toArray, List.set_cons_zero, List.set_cons_succ, List.getElem_toArray, List.getElem_cons_succ, List.getElem_cons_zero]
    refine wpAnyH_ready (rs := [10]) (by kernel_rfl) (by simp) ?_
    refine AllReadyH.cons rfl (fun K hK => ?_) AllReadyH.nil
    refine step_nodes rfl _ _ rfl _ w1.heap.size (.slice Aa ks1.length ca) ks1 rfl HRD.out.1 (fun k hk => hk.1) (Nat.le_trans HBc.out.size (by rw [World.size_alloc]; omega)) (.slice (some ⟨wc.heap.size, 0, none⟩) 1 1) rfl (.cons foldH (Tr.of (ks2.map Prod.fst)) .nil) HRD.out.2 (HLB.out ks1 HM1.out) ?_
    intro v' qs w' hk' he' hg' hor'
    obtain ⟨Af, cf, hvf, _⟩ := hk'.slice
    subst hvf
    have HKF := hide hk'
    have HEF := hide he'
    have HBF : Hid (Below w1.heap.size w1 w') := hide ((bl_two HBc.out (below_one wc _)).grown hg' (Nat.le_trans HBc.out.size (by rw [World.size_alloc]; omega)) (fun k e => (HRD.out.1.row.lt k e).1))
    have HSZ : Hid (wc.heap.size + 1 ≤ w'.heap.size) := hide (by have := hg'.size; rw [World.size_alloc] at this; exact this)
    clear hk' he' hg' hor'
    refine hK.out _ _ trivial (fun hHeld => ?_)
    clear hK K
    try simp only [Act.put, List.setIfInBounds_toArray, List.set_cons_zero, List.set_cons_succ, List.getElem_toArray, List.getElem_cons_succ, List.getElem_cons_zero]
    refine wpAnyH_take (i := 11) (v := ?_) rfl (by kernel_rfl) (by kernel_rfl) (by kernel_rfl) (fun _ _ _ h => h) (Or.inl ⟨by rfl, ?_⟩) (by assumption) ?_
    rotate_left
    · (intro w hSw; (try dsimp only at hSw); (try simp only [List.getElem_toArray, List.getElem_cons_succ, List.getElem_cons_zero]); go_simp; first | done | with_reducible rfl)
    try simp only [Act.put, List.setIfInBounds_toArray, List.set_cons_zero, List.set_cons_succ, List.getElem_toArray, List.getElem_cons_succ, List.getElem_cons_zero]
    refine wpAnyH_done (by kernel_rfl) ?_ _
    have HN : Hid (NodesIn w' (.slice Af (ks1 ++ qs).length cf) (foldT T)) := hide (by
      have h := KRow.nodes (C' := fun b => b < w'.heap.size) HKF.out (fun b hb => by have h1 := hb.1; rw [World.size_alloc] at h1; have h2 := HSZ.out; omega) (fun k e => (HKF.out.row.lt k e).2)
      have e : (ks1 ++ qs).map Prod.fst = T.list.take p ++ [(foldH, Tr.drop p T)] := by
        rw [List.map_append, HM1.out, HEF.out, HM2.out]
        show _ ++ [(foldH, Tr.of (T.list.drop p))] = _
        rw [← Tr.list_drop, Tr.of_list]
      rw [e] at h
      have e2 : foldT T = Tr.of (T.list.take p ++ [(foldH, Tr.drop p T)]) := by have := HFT.out; simpa using this
      rw [e2]; exact h)
    go_wp2_with fail
    go_ret
    exact ⟨_, rfl, (by have := HN.out; rw [List.length_append] at this; exact this), bl_two HB1.out HBF.out⟩
end Go.Proofs.YtjaeheicndfdnaaDoor
