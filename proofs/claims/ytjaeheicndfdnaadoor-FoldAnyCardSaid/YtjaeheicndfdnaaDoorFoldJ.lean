/- WALK of the reference of layer 21: Fold. No statement is proved here. Own work of the verifier. -/
import Derived.Test.YtjaeheicndfdnaaDoorFoldI
import Derived.Test.YtjaeheicndfdnaaDoorFoldV
namespace Go.Proofs.YtjaeheicndfdnaaDoor
open Go.RowKit
set_option linter.unusedVariables false
set_option linter.unusedSimpArgs false
set_option maxRecDepth 100000
theorem fold_world (w : World) : ((w.alloc (.cells #[.string ⟨#[116, 105, 116, 108, 101]⟩, .string ⟨#[113, 117, 111, 116, 101, 100]⟩] 41)).alloc (.cells #[.string ⟨#[100, 105, 118]⟩, .slice (some ⟨w.heap.size, 0, none⟩) 1 1, .string ⟨#[]⟩, .slice none 0 0] 32)).heap[w.heap.size]? = some (.cells (atVals foldH.attrs).toArray 41 (0, 0)) ∧
    ((w.alloc (.cells #[.string ⟨#[116, 105, 116, 108, 101]⟩, .string ⟨#[113, 117, 111, 116, 101, 100]⟩] 41)).alloc (.cells #[.string ⟨#[100, 105, 118]⟩, .slice (some ⟨w.heap.size, 0, none⟩) 1 1, .string ⟨#[]⟩, .slice none 0 0] 32)).ownsRow (w.heap.size + 1) 32 4 (.slice (some ⟨w.heap.size + 1, 0, none⟩) 1 1) 1 [.string ⟨#[100, 105, 118]⟩, .slice (some ⟨w.heap.size, 0, none⟩) 1 1, .string ⟨#[]⟩, .slice none 0 0] ∧
    ((w.alloc (.cells #[.string ⟨#[116, 105, 116, 108, 101]⟩, .string ⟨#[113, 117, 111, 116, 101, 100]⟩] 41)).alloc (.cells #[.string ⟨#[100, 105, 118]⟩, .slice (some ⟨w.heap.size, 0, none⟩) 1 1, .string ⟨#[]⟩, .slice none 0 0] 32)).heap.size = w.heap.size + 2 ∧
    Below w.heap.size w ((w.alloc (.cells #[.string ⟨#[116, 105, 116, 108, 101]⟩, .string ⟨#[113, 117, 111, 116, 101, 100]⟩] 41)).alloc (.cells #[.string ⟨#[100, 105, 118]⟩, .slice (some ⟨w.heap.size, 0, none⟩) 1 1, .string ⟨#[]⟩, .slice none 0 0] 32)) := by
  obtain ⟨W1, h1⟩ : ∃ W1, W1 = w.alloc (.cells #[.string ⟨#[116, 105, 116, 108, 101]⟩, .string ⟨#[113, 117, 111, 116, 101, 100]⟩] 41) := ⟨_, rfl⟩
  rw [← h1]
  have e1 : W1.heap.size = w.heap.size + 1 := by rw [h1, World.size_alloc]
  have b1 : Below w.heap.size w W1 := by rw [h1]; exact below_one w _
  have b2 := below_one W1 (.cells #[.string ⟨#[100, 105, 118]⟩, .slice (some ⟨w.heap.size, 0, none⟩) 1 1, .string ⟨#[]⟩, .slice none 0 0] 32)
  have g1 : W1.heap[w.heap.size]? = some (.cells (atVals foldH.attrs).toArray 41 (0, 0)) := by rw [h1]; exact heap_alloc_new w _
  have hb := box_own W1 (.string ⟨#[100, 105, 118]⟩) (.slice (some ⟨w.heap.size, 0, none⟩) 1 1) (.string ⟨#[]⟩) (.slice none 0 0)
  rw [e1] at hb
  exact ⟨(b2.block _ (by omega)).trans g1, hb, by rw [World.size_alloc, e1], bl_two b1 b2⟩
set_option maxHeartbeats 16000000 in
theorem fold21_any (v : Value) (T : Tr) (w : World) (hT : NodesIn w v T) (hc : T.count ≤ 1000000) (ha : T.all attrsFew = true) (hx : ∀ p ∈ T.list, p.1.text.length ≤ 1000000) :
    Calls Tryd.prog 15 #[v] w fun e w' => ∃ u, e = .returned u ∧ NodesIn w' u (foldT T) ∧ Below w.heap.size w w' := by
  have hlen := Tr.len_count T
  have HW := hide (where21_any v T w hT (by omega) hx)
  have HCP : Hid (∀ w', Below w.heap.size w w' → Calls Tryd.prog 10 #[v] w' fun e w'' => ∃ u, e = .returned u ∧ NodesC (NewB w'.heap.size w'') w'' u T ∧ Below w'.heap.size w' w'') := hide (fun w' hb => copy14_any v T w' (hT.kept hb) hc ha)
  have hpl := whereP_le (dOf T)
  have HPD : Hid (dOf T = T.list.map Prod.fst) := hide rfl
  unfold dOf at hpl
  rw [List.length_map, Tr.len_list] at hpl
  obtain ⟨A, c, rfl⟩ := NodesC.form hT
  obtain ⟨⟨p, is⟩, hp⟩ : ∃ x, whereP (dOf T) = x := ⟨_, rfl⟩
  have HP := hide hp
  unfold dOf at hp
  rw [hp] at HW hpl
  simp only at HW hpl
  clear hp hT ha hx
  go_enter Tryd.func15, Tryd.ntmps15
  go_wp2_with fail
  refine HW.out.mono ?_
  rintro e w1 ⟨rfl, hb1⟩
  have HB1 := hide hb1
  clear hb1
  go_wp2_with fail
  refine (HCP.out _ HB1.out).mono ?_
  rintro e w2 ⟨u, rfl, hn2, hb2⟩
  have HB2 := hide (bl_two HB1.out hb2)
  have hn := newB_in hn2
  obtain ⟨A2, c2, rfl⟩ := NodesC.form hn2
  have hcap := NodesC.cap hn2
  clear hn2 hb2
  cases is with
  | false =>
    have HN : Hid (NodesIn w2 (.slice A2 T.len c2) (foldT T)) := hide (by rw [foldT_no HP.out]; exact hn)
    clear hn
    go_wp2_with fail
    go_ret
    exact ⟨_, rfl, HN.out, HB2.out⟩
  | true =>
    have hpos := whereP_pos HP.out
    have hplt := whereP_lt (dOf T) (by rw [HP.out])
    rw [HP.out] at hplt
    unfold dOf at hplt
    rw [List.length_map, Tr.len_list] at hplt
    simp only at hplt
    obtain ⟨a, hA⟩ : ∃ a, A2 = some a := by
      rcases hn with ⟨h1, h2⟩ | ⟨a, cap, h1, _⟩
      · rw [h2] at hplt; simp [Tr.len] at hplt
      · injection h1 with h1 _ _; exact ⟨a, h1⟩
    subst hA
    have HTK : Hid (NodesIn w2 (.slice (some a) p c2) (Tr.of (T.list.take p))) := hide (nodes_take hn hpl)
    have HTD : Hid (NodesIn w2 (.slice (some (a.add (p * 4))) (T.len - p) (c2 - p)) (Tr.drop p T)) := hide (nodes_drop hn hpl)
    unfold maxLen at hcap
    have hcp : ¬ c2 = p := by omega
    have hpi : (p : Int) ≤ T.len := by omega
    have hpc : (p : Int) ≤ c2 := by omega
    have hpc2 : p ≤ c2 := by omega
    have hTlen : T.len ≤ 1000000 := by omega
    clear hn hlen
    go_wp2_with fail
    have HF := hide (fold_world w2)
    generalize (w2.alloc (.cells #[.string ⟨#[116, 105, 116, 108, 101]⟩, .string ⟨#[113, 117, 111, 116, 101, 100]⟩] 41)).alloc (.cells #[.string ⟨#[100, 105, 118]⟩, .slice (some ⟨w2.heap.size, 0, none⟩) 1 1, .string ⟨#[]⟩, .slice none 0 0] 32) = w3 at HF ⊢
    have c3 : w3.cell? ⟨w2.heap.size + 1, 3, none⟩ = some (.slice none 0 0) := by rw [HF.out.2.1.cellAt 3 (by decide)]; rfl
    refine wp_region_held_drew (S := fun _ => True) (by kernel_rfl) trivial (fun hHeld => ?_)
    refine wpAnyH_take (i := 0) (v := ?_) rfl (by kernel_rfl) (by kernel_rfl) (by kernel_rfl) (fun _ _ _ h => h) (Or.inl ⟨by rfl, ?_⟩) (by assumption) ?_
    rotate_left
    · (intro w hSw; (try dsimp only at hSw); (try simp only [List.getElem_toArray, List.getElem_cons_succ, List.getElem_cons_zero]); go_simp; first | done | with_reducible rfl)
    try simp only [Act.put, List.setIfInBounds_toArray, List.set_cons_zero, List.set_cons_succ, List.getElem_toArray, List.getElem_cons_succ, List.getElem_cons_zero]
    refine wpAnyH_take (i := 2) (v := ?_) rfl (by kernel_rfl) (by kernel_rfl) (by kernel_rfl) (fun _ _ _ h => h) (Or.inl ⟨by rfl, ?_⟩) (by assumption) ?_
    rotate_left
    · (intro w hSw; (try dsimp only at hSw); (try simp only [List.getElem_toArray, List.getElem_cons_succ, List.getElem_cons_zero]); go_simp; first | done | with_reducible rfl)
    try simp only [Act.put, List.setIfInBounds_toArray, List.set_cons_zero, List.set_cons_succ, List.getElem_toArray, List.getElem_cons_succ, List.getElem_cons_zero]
    refine wpAnyH_take (i := 3) (v := ?_) rfl (by kernel_rfl) (by kernel_rfl) (by kernel_rfl) (fun _ _ _ h => h) (Or.inl ⟨by rfl, ?_⟩) (by assumption) ?_
    rotate_left
    · (intro w hSw; (try dsimp only at hSw); (try simp only [List.getElem_toArray, List.getElem_cons_succ, List.getElem_cons_zero]); go_simp; first | done | with_reducible rfl)
    try simp only [Act.put, List.setIfInBounds_toArray, List.set_cons_zero, List.set_cons_succ, List.getElem_toArray, List.getElem_cons_succ, List.getElem_cons_zero]
    refine wpAnyH_take (i := 4) (v := ?_) rfl (by kernel_rfl) (by kernel_rfl) (by kernel_rfl) (fun _ _ _ h => h) (Or.inl ⟨by rfl, ?_⟩) (by assumption) ?_
    rotate_left
    · (intro w hSw; (try dsimp only at hSw); (try simp only [List.getElem_toArray, List.getElem_cons_succ, List.getElem_cons_zero]); go_simp; first | done | with_reducible rfl)
    try simp only [Act.put, List.setIfInBounds_toArray, List.set_cons_zero, List.set_cons_succ, List.getElem_toArray, List.getElem_cons_succ, List.getElem_cons_zero]
    refine wpAnyH_ready (rs := [1]) (by kernel_rfl) (by simp) ?_
    refine AllReadyH.cons rfl (fun K' hK' => ?_) AllReadyH.nil
    try simp only [List.getElem_toArray, List.getElem_cons_succ, List.getElem_cons_zero]
    go_simp
    go_wp2_with fail
    refine hK'.out _ _ trivial (fun hHeld => ?_)
    clear hK' K'
    try simp only [Act.put, List.setIfInBounds_toArray, List.set_cons_zero, List.set_cons_succ, List.getElem_toArray, List.getElem_cons_succ, List.getElem_cons_zero]
    have HD := hide HF.out.2.2.2.drew
    have HTD3 : Hid (NodesC (fun b => b < w2.heap.size) w3.drew (.slice (some (a.add (p * 4))) (T.len - p) (c2 - p)) (Tr.drop p T)) := hide (NodesC.mono HTD.out (fun b hb => HD.out.block b hb) (fun _ x => x))
    have HTK3 : Hid (NodesC (fun b => b < w2.heap.size) w3.drew (.slice (some a) p c2) (Tr.of (T.list.take p))) := hide (NodesC.mono HTK.out (fun b hb => HD.out.block b hb) (fun _ x => x))
    have hdl : (Tr.drop p T).len ≤ 1073741824 := by rw [Tr.drop_len]; omega
    refine wpAnyH_ready (rs := [5]) (by kernel_rfl) (by simp) ?_
    refine AllReadyH.cons rfl (fun K' hK' => ?_) AllReadyH.nil
    refine step_nodes rfl _ _ rfl (fun b => b < w2.heap.size) w3.heap.size (.slice none 0 0) [] rfl (KRow.nil _ _ _) (fun k hk => Nat.lt_of_lt_of_le hk HD.out.size) (Nat.le_refl _) (.slice (some (a.add (p * 4))) (T.len - p) (c2 - p)) rfl (Tr.drop p T) HTD3.out (by simp only [List.length_nil]; omega) ?_
    intro v' qs w4 hk' he' hg' hor'
    rw [List.nil_append] at hk'
    obtain ⟨A3, c3', hv3, _⟩ := hk'.slice
    subst hv3
    have hs3 : w3.drew.heap.size = w2.heap.size + 2 := HF.out.2.2.1
    have hbx3 : w3.drew.ownsRow (w2.heap.size + 1) 32 4 (.slice (some ⟨w2.heap.size + 1, 0, none⟩) 1 1) 1 [.string ⟨#[100, 105, 118]⟩, .slice (some ⟨w2.heap.size, 0, none⟩) 1 1, .string ⟨#[]⟩, .slice none 0 0] := HF.out.2.1
    have hbx4 := hbx3.kept hg' (by simp [Value.ownBlock])
    have zc : w4.cell? ⟨w2.heap.size + 1, 3, none⟩ = some (.slice none 0 0) := by rw [hbx4.cellAt 3 (by decide)]; rfl
    have zf : w4.frozen? ⟨w2.heap.size + 1, 3, none⟩ = false := hbx4.frozenAt 3
    obtain ⟨hbx5, hg5⟩ := hbx4.stored 3 (.slice A3 qs.length c3')
    have hat3 : w3.drew.heap[w2.heap.size]? = some (.cells (atVals foldH.attrs).toArray 41 (0, 0)) := HF.out.1
    have hat5 : (w4.setCell ⟨w2.heap.size + 1, 3, none⟩ (.slice A3 qs.length c3')).heap[w2.heap.size]? = some (.cells (atVals foldH.attrs).toArray 41 (0, 0)) := (hg5.block _ (Nat.lt_of_lt_of_le (by omega) hg'.size) (by simp)).trans ((hg'.block _ (by omega) (by simp [Value.ownBlock])).trans hat3)
    have hw35 : Below w2.heap.size w2 (w4.setCell ⟨w2.heap.size + 1, 3, none⟩ (.slice A3 qs.length c3')) := (HD.out.grown hg' HD.out.size (fun k e => by simp [Value.ownBlock] at e)).grown hg5 (Nat.le_trans HD.out.size hg'.size) (fun k e => by injection e with e; omega)
    have hk5 : KRow (fun b => b < w2.heap.size) w3.heap.size (.slice A3 qs.length c3') qs (w4.setCell ⟨w2.heap.size + 1, 3, none⟩ (.slice A3 qs.length c3')) := hk'.turned hg5 (fun k hk => Nat.lt_of_lt_of_le hk (Nat.le_trans HD.out.size hg'.size)) (fun k e hk => by injection e with e; subst e; exact absurd hk (by show ¬ w2.heap.size + 1 < w2.heap.size; omega)) (by
      cases hv : (Value.slice A3 qs.length c3').ownBlock with
      | none => exact .inl rfl
      | some g =>
        refine .inr fun e => ?_
        injection e with e
        have h1 := (hk'.row.lt g hv).1
        have h2 : w3.heap.size = w2.heap.size + 2 := hs3
        omega)
    have HB5 := hide hw35
    have HBX5 := hide hbx5
    have HAT5 := hide hat5
    have HK5 := hide hk5
    have HE5 := hide he'
    have HTK5 : Hid (NodesC (fun b => b < w2.heap.size) (w4.setCell ⟨w2.heap.size + 1, 3, none⟩ (.slice A3 qs.length c3')) (.slice (some a) p c2) (Tr.of (T.list.take p))) := hide (NodesC.mono HTK.out (fun b hb => hw35.block b hb) (fun _ x => x))
    clear hk' he' hg' hor' hbx3 hbx4 hbx5 hg5 hat3 hat5 hw35 hk5 HTK3 HTD3 hdl hs3
    refine hK'.out _ _ trivial (fun hHeld => ?_)
    clear hK' K'
    try simp only [Act.put, List.setIfInBounds_toArray, List.set_cons_zero, List.set_cons_succ, List.getElem_toArray, List.getElem_cons_succ, List.getElem_cons_zero]
    refine wpAnyH_take (i := 6) (v := ?_) rfl (by kernel_rfl) (by kernel_rfl) (by kernel_rfl) (fun _ _ _ h => h) (Or.inl ⟨by rfl, ?_⟩) (by assumption) ?_
    rotate_left
    · (intro w hSw; (try dsimp only at hSw); (try simp only [List.getElem_toArray, List.getElem_cons_succ, List.getElem_cons_zero]); go_simp; first | done | with_reducible rfl)
    try simp only [Act.put, List.setIfInBounds_toArray, List.set_cons_zero, List.set_cons_succ, List.getElem_toArray, List.getElem_cons_succ, List.getElem_cons_zero]
    refine wpAnyH_ready (rs := [7]) (by kernel_rfl) (by simp) ?_
    refine AllReadyH.cons rfl (fun K' hK' => ?_) AllReadyH.nil
    try simp only [List.getElem_toArray, List.getElem_cons_succ, List.getElem_cons_zero]
    go_simp
    go_wp2_with fail
    refine hK'.out _ _ trivial (fun hHeld => ?_)
    clear hK' K'
    try simp only [Act.put, List.setIfInBounds_toArray, List.set_cons_zero, List.set_cons_succ, List.getElem_toArray, List.getElem_cons_succ, List.getElem_cons_zero]
    refine wpAnyH_done (by kernel_rfl) ?_ _
    have ltk : (Tr.of (T.list.take p)).len = p := by rw [Tr.len_of, List.length_take, Tr.len_list]; omega
    have HLK : Hid (([] : List KidV).length + (Tr.of (T.list.take p)).len ≤ 1073741824) := hide (by rw [ltk]; simp only [List.length_nil]; omega)
    clear ltk zc zf
    go_wp2_with (first
      | (refine wpList_nodes rfl _ _ rfl (fun b => b < w2.heap.size) (w4.setCell ⟨w2.heap.size + 1, 3, none⟩ (.slice A3 qs.length c3')).heap.size (.slice none 0 0) [] rfl (KRow.nil _ _ _) (fun k hk => Nat.lt_of_lt_of_le hk HB5.out.size) (Nat.le_refl _) _ rfl (Tr.of (T.list.take p)) HTK5.out HLK.out ?_
         intro v6 qs6 w6 hk6 he6 hg6 hor6
         rw [List.nil_append] at hk6
         obtain ⟨A6, c6, hv6, _⟩ := hk6.slice
         subst hv6
         have hbx6 := HBX5.out.kept hg6 (by simp [Value.ownBlock])
         have d0 : w6.cell? ⟨w2.heap.size + 1, 0, none⟩ = some (.string ⟨#[100, 105, 118]⟩) := by rw [hbx6.cellAt 0 (by decide)]; rfl
         have d1 : w6.cell? ⟨w2.heap.size + 1, 1, none⟩ = some (.slice (some ⟨w2.heap.size, 0, none⟩) 1 1) := by rw [hbx6.cellAt 1 (by decide)]; rfl
         have d2 : w6.cell? ⟨w2.heap.size + 1, 2, none⟩ = some (.string ⟨#[]⟩) := by rw [hbx6.cellAt 2 (by decide)]; rfl
         have d3 : w6.cell? ⟨w2.heap.size + 1, 3, none⟩ = some (.slice A3 qs.length c3') := by rw [hbx6.cellAt 3 (by decide)]; rfl
         have hgs := hg6.size
         have hb56 : Below (w4.setCell ⟨w2.heap.size + 1, 3, none⟩ (.slice A3 qs.length c3')).heap.size (w4.setCell ⟨w2.heap.size + 1, 3, none⟩ (.slice A3 qs.length c3')) w6 := (Below.refl _ (w4.setCell ⟨w2.heap.size + 1, 3, none⟩ (.slice A3 qs.length c3'))).grown hg6 (Nat.le_refl _) (fun k e => by simp [Value.ownBlock] at e)
         have hat6 := (hb56.block _ (lt_of_block HAT5.out)).trans HAT5.out
         have hk6k := HK5.out.kept (fun k hk => Nat.lt_of_lt_of_le hk HB5.out.size) hb56
         have hz5 := HB5.out.size
         have hA6 : AttrsC (AwayB w6 (.slice A6 qs6.length c6)) w6 (.slice (some ⟨w2.heap.size, 0, none⟩) 1 1) foldH.attrs := by
           refine ⟨attrs_lit foldH.attrs hat6 (by decide), fun a n c e _ => ?_⟩
           injection e with e _ _
           injection e with e
           subst e
           exact ⟨lt_of_block hat6, fun e => by have h3 := (hk6.row.lt _ e).1; have h4 := lt_of_block HAT5.out; simp only at h3; omega⟩
         have hN6 : NodesC (AwayB w6 (.slice A6 qs6.length c6)) w6 (.slice A3 qs.length c3') (Tr.of (qs.map Prod.fst)) := by
           refine hk6k.nodes (fun b hb => ⟨by have : b < w2.heap.size := hb; omega, fun e => by have h3 := (hk6.row.lt b e).1; have : b < w2.heap.size := hb; omega⟩) (fun k e => ⟨(hk6k.row.lt k e).2, fun e2 => by have h3 := (hk6.row.lt k e2).1; have h4 := (HK5.out.row.lt k e).2; omega⟩)
         have HRD : Hid (KRow (AwayB (w6.alloc (.cells #[.string ⟨#[100, 105, 118]⟩, .slice (some ⟨w2.heap.size, 0, none⟩) 1 1, .string ⟨#[]⟩, .slice A3 qs.length c3'] 32)) (.slice A6 qs6.length c6)) (w4.setCell ⟨w2.heap.size + 1, 3, none⟩ (.slice A3 qs.length c3')).heap.size (.slice A6 qs6.length c6) qs6 (w6.alloc (.cells #[.string ⟨#[100, 105, 118]⟩, .slice (some ⟨w2.heap.size, 0, none⟩) 1 1, .string ⟨#[]⟩, .slice A3 qs.length c3'] 32)) ∧ NodesC (AwayB (w6.alloc (.cells #[.string ⟨#[100, 105, 118]⟩, .slice (some ⟨w2.heap.size, 0, none⟩) 1 1, .string ⟨#[]⟩, .slice A3 qs.length c3'] 32)) (.slice A6 qs6.length c6)) (w6.alloc (.cells #[.string ⟨#[100, 105, 118]⟩, .slice (some ⟨w2.heap.size, 0, none⟩) 1 1, .string ⟨#[]⟩, .slice A3 qs.length c3'] 32)) (.slice (some ⟨w6.heap.size, 0, none⟩) 1 1) (.cons foldH (Tr.of (qs.map Prod.fst)) .nil)) := hide (push_ready (h := foldH) hk6 (fun k hk => by have : k < w2.heap.size := hk; omega) hA6 hN6)
         have HE6 : Hid (qs6.map Prod.fst = T.list.take p) := hide (by rw [he6, Tr.list_of])
         have HB7 : Hid (Below w2.heap.size w2 (w6.alloc (.cells #[.string ⟨#[100, 105, 118]⟩, .slice (some ⟨w2.heap.size, 0, none⟩) 1 1, .string ⟨#[]⟩, .slice A3 qs.length c3'] 32))) := hide (bl_two (HB5.out.grown hg6 HB5.out.size (fun k e => by simp [Value.ownBlock] at e)) (below_one w6 _))
         have HSZ7 : Hid ((w4.setCell ⟨w2.heap.size + 1, 3, none⟩ (.slice A3 qs.length c3')).heap.size ≤ (w6.alloc (.cells #[.string ⟨#[100, 105, 118]⟩, .slice (some ⟨w2.heap.size, 0, none⟩) 1 1, .string ⟨#[]⟩, .slice A3 qs.length c3'] 32)).heap.size) := hide (by rw [World.size_alloc]; omega)
         have HQL : Hid (qs6.length + Tr.len (.cons foldH (Tr.of (qs.map Prod.fst)) .nil) ≤ 1073741824) := hide (by
           have h1 := congrArg List.length HE6.out
           rw [List.length_map, List.length_take, Tr.len_list] at h1
           simp only [Tr.len]
           omega)
         clear hk6 he6 hg6 hor6 hbx6 hgs hb56 hat6 hk6k hA6 hN6 hz5)
      | (refine wpList_nodes rfl _ _ rfl _ (w4.setCell ⟨w2.heap.size + 1, 3, none⟩ (.slice A3 qs.length c3')).heap.size (.slice A6 qs6.length c6) qs6 rfl HRD.out.1 (fun k hk => hk.1) HSZ7.out _ rfl (.cons foldH (Tr.of (qs.map Prod.fst)) .nil) HRD.out.2 HQL.out ?_
         intro v8 qs8 w8 hk8 he8 hg8 hor8
         obtain ⟨A8, c8, hv8, _⟩ := hk8.slice
         subst hv8
         have hg8s := hg8.size
         have HN8 : Hid (NodesIn w8 (.slice A8 (qs6 ++ qs8).length c8) (foldT T)) := hide (by
           have h := KRow.nodes (C' := fun b => b < w8.heap.size) hk8 (fun b hb => Nat.lt_of_lt_of_le hb.1 hg8s) (fun k e => (hk8.row.lt k e).2)
           have e : Tr.of ((qs6 ++ qs8).map Prod.fst) = foldT T := by
             apply Tr.list_inj
             rw [Tr.list_of, List.map_append, HE6.out, he8, foldT_list HP.out, HE5.out]
             show _ ++ [(foldH, Tr.of (Tr.drop p T).list)] = _
             rw [Tr.of_list]
           rw [e] at h
           exact h)
         have HB8 : Hid (Below w2.heap.size w2 w8) := hide (HB7.out.grown hg8 HB7.out.size (fun k e => by have h1 := (HRD.out.1.row.lt k e).1; have h2 := HB5.out.size; omega))
         clear hk8 he8 hg8 hor8 hg8s))
    go_ret
    exact ⟨_, rfl, (by have := HN8.out; rw [List.length_append] at this; exact this), bl_two HB2.out HB8.out⟩
end Go.Proofs.YtjaeheicndfdnaaDoor
