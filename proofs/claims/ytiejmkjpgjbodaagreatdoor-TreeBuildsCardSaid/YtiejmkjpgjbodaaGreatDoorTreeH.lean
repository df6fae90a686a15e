import Derived.Test.YtiejmkjpgjbodaaGreatDoorWalkN
namespace Go.Proofs.YtiejmkjpgjbodaaGreatDoor
open Go.RowKit
set_option linter.unusedVariables false
set_option linter.unusedSimpArgs false
set_option maxRecDepth 100000
theorem frL_box {B : Nat} {w w' : World} {b : Nat} {cur : Array Value} {T : TypeId} {fz : Nat × Nat} (hb : Below B w w') (hx : ∀ k, k < w.heap.size → k ≠ b → w'.heap[k]? = w.heap[k]?) (hc : w.heap[b]? = some (Obj.cells cur T fz)) (hT : T ≠ 115 ∧ T ≠ 33) : FrL B w w' := by
  refine ⟨hb, fun g cur2 T2 fz2 h2 hk => hx g (lt_of_block h2) (fun e => ?_)⟩
  subst e
  rw [hc] at h2
  injection h2 with h2
  injection h2 with _ h2
  subst h2
  rcases hk with hk | hk
  · exact hT.1 hk
  · exact hT.2 hk
theorem box_inv {B b : Nat} {w w' : World} {row : Option Nat} {cur : Array Value} {T : TypeId} {fz : Nat × Nat} (h : w.heap[b]? = some (Obj.cells cur T fz)) (hT : T ≠ 115) (hg : w.grownBy w' row) (hr : ∀ k, row = some k → B ≤ k ∧ ∃ cur, w.heap[k]? = some (Obj.cells cur 115 (0, 0))) : w'.heap[b]? = some (Obj.cells cur T fz) := by
  rw [hg.block b (lt_of_block h) (fun e => ?_)]
  · exact h
  · obtain ⟨_, cur2, h2⟩ := hr b e.symm
    rw [h] at h2
    injection h2 with h2
    injection h2 with _ h2
    exact hT h2
set_option maxHeartbeats 4000000 in
theorem endNone {σ : Type} (B : Nat) (Inv : σ → World → Prop) (μ : σ → Nat) (M : Nat) (hinv : InvOK B Inv) : EndOK B 96 #[] Inv (fun s _ => s) μ M := by
  intro s w h K av kv hi hB ha hk _
  obtain ⟨A, c, rfl⟩ := ha.1.form
  obtain ⟨A2, c2, rfl⟩ := hk.form
  have HR : Hid (Inv s (w.alloc (Obj.cells #[.string (str h.name), .slice A h.attrs.length c, .string (str h.text), .slice A2 K.len c2] 33)) ∧ FrL B w (w.alloc (Obj.cells #[.string (str h.name), .slice A h.attrs.length c, .string (str h.text), .slice A2 K.len c2] 33))) := hide ⟨hinv s w _ none hi (World.grownBy_alloc w _ none) (fun k e => by cases e), FrL.kept (below_one w _) hB⟩
  clear hi hB ha hk hinv
  show Calls Tryz.prog _ #[ndV h _ _] w _
  unfold ndV
  go_enter Tryz.func96, Tryz.ntmps96
  go_wp2_with fail
  go_end0
  exact ⟨rfl, HR.out⟩
set_option maxHeartbeats 4000000 in
theorem begins_gen {σ : Type} (B Kb : Nat) (cb : Array Value) (hKb : ∀ args w, (callFunc Kb args).run Tryz.prog w = .ok (.enter Kb args) w)
    (Inv : σ → World → Prop) (bg : σ → NdH → Tr → σ) (dv : NdH → Bool) (μ : σ → Nat) (M : Nat) (G : NdH → Tr → Prop) (hmb : ∀ s h K, μ s ≤ μ (bg s h K))
    (hinv : InvOK B Inv) (hbeg : BegOK B Kb cb Inv bg dv μ M G)
    (v : Value) (T : Tr) (s0 : σ) (w : World) (hT : NodesC (fun b => b < B) w v T) (hG : T.ev G) (hc : T.count ≤ 1000000) (hM : μ (vis bg (fun s _ => s) dv T s0) ≤ M) (h0 : Inv s0 w) (hB : B ≤ w.heap.size) :
    Calls Tryz.prog 47 #[v, .func (.func Kb) #[] cb] w fun e w' => e = .returned (.tuple #[]) ∧ Inv (vis bg (fun s _ => s) dv T s0) w' ∧ Below B w w' := by
  have HN := hide (walk_gen B Kb 96 cb #[] hKb (enters_of Tryz.func96 (by kernel_rfl) rfl) Inv bg (fun s _ => s) dv μ M G hmb (fun s _ => Nat.le_refl _) hinv hbeg (endNone B Inv μ M hinv) v T s0 w hT hG hc hM h0 hB)
  obtain ⟨A, c, rfl⟩ := hT.form
  clear hmb hinv hbeg hT hG hM h0 hB hKb
  go_enter Tryz.func47, Tryz.ntmps47
  go_wp2_with fail
  refine HN.out.mono ?_
  rintro e w1 ⟨rfl, h1⟩
  have H1 := hide h1
  clear h1
  go_wp2_with fail
  go_end0
  exact ⟨rfl, H1.out⟩
def DepI (b : Nat) (s : DepS) (w : World) : Prop := w.heap[b]? = some (Obj.cells #[.int .i64 s.1] 3 (0, 0)) ∧ w.heap[b + 1]? = some (Obj.cells #[.int .i64 s.2.1] 3 (0, 0)) ∧ -(s.2.2 : Int) ≤ s.1 ∧ s.1 ≤ s.2.2 ∧ -(s.2.2 : Int) ≤ s.2.1 ∧ s.2.1 ≤ s.2.2
theorem dep_inv (B b : Nat) : InvOK B (DepI b) := fun n w w' row hi hg hr => ⟨box_inv hi.1 (by decide) hg hr, box_inv hi.2.1 (by decide) hg hr, hi.2.2⟩
set_option maxHeartbeats 8000000 in
theorem depth_beg (B : Nat) (M : Nat) (hM : M ≤ 4000000) : BegOK B 50 #[.pointer (some ⟨B, 0, none⟩), .pointer (some ⟨B + 1, 0, none⟩)] (DepI B) (fun (s : DepS) _ _ => ((s.1 + 1, max s.2.1 (s.1 + 1), s.2.2 + 1) : DepS)) (fun _ => true) (fun s => s.2.2) M (fun _ _ => True) := by
  intro s w h K av A m c hi hB _ ha hk hm
  obtain ⟨d, x, n⟩ := s
  obtain ⟨i1, i2, i3, i4, i5, i6⟩ := hi
  simp only at i1 i2 i3 i4 i5 i6 hm
  obtain ⟨A1, c1, rfl⟩ := ha.1.form
  have hbk := below_one w (Obj.cells #[.string (str h.name), .slice A1 h.attrs.length c1, .string (str h.text), .slice A m c] 33)
  have hlt : B + 1 < w.heap.size := lt_of_block i2
  obtain ⟨W, hW⟩ : ∃ W, W = w.alloc (Obj.cells #[.string (str h.name), .slice A1 h.attrs.length c1, .string (str h.text), .slice A m c] 33) := ⟨_, rfl⟩
  rw [← hW] at hbk
  have hc1 : W.heap[B]? = _ := (hbk.block B (by omega)).trans i1
  have hc2 : W.heap[B + 1]? = _ := (hbk.block (B + 1) hlt).trans i2
  have d0 : W.cell? ⟨B, 0, none⟩ = some (.int .i64 d) := (Lib.cell_of_heap hc1 0).trans rfl
  have f0 : W.frozen? ⟨B, 0, none⟩ = false := Lib.frozen_of_heap hc1 0
  have d1 : W.cell? ⟨B + 1, 0, none⟩ = some (.int .i64 x) := (Lib.cell_of_heap hc2 0).trans rfl
  have f1 : W.frozen? ⟨B + 1, 0, none⟩ = false := Lib.frozen_of_heap hc2 0
  have b3 : W.cell? ⟨w.heap.size, 3, none⟩ = some (.slice A m c) := by rw [hW]; exact (Lib.cell_of_heap (heap_alloc_new w _) 3).trans rfl
  have hne : ¬ (w.heap.size = B) := by omega
  have hne2 : ¬ (w.heap.size = B + 1) := by omega
  have hb1 : -4000000 ≤ d := by omega
  have hb2 : d ≤ 4000000 := by omega
  have hb3 : -4000000 ≤ x := by omega
  have hb4 : x ≤ 4000000 := by omega
  have HR : Hid (DepI B (d + 1, max x (d + 1), n + 1) ((W.setCell ⟨B, 0, none⟩ (.int .i64 (d + 1))).setCell ⟨B + 1, 0, none⟩ (.int .i64 (max x (d + 1)))) ∧ FrL B w ((W.setCell ⟨B, 0, none⟩ (.int .i64 (d + 1))).setCell ⟨B + 1, 0, none⟩ (.int .i64 (max x (d + 1))))) := hide ⟨⟨by
      rw [Below.heap_setCell _ ⟨B + 1, 0, none⟩ _ B (by simp), heap_put (j := 0) _ hc1]; rfl, by
      have h2 : (W.setCell ⟨B, 0, none⟩ (.int .i64 (d + 1))).heap[B + 1]? = _ := (Below.heap_setCell _ ⟨B, 0, none⟩ _ (B + 1) (by simp)).trans hc2
      rw [heap_put (j := 0) _ h2]; rfl, by simp only; omega, by simp only; omega, by simp only; omega, by simp only; omega⟩,
    ⟨(((hbk.mono hB).setCell (p := ⟨B, 0, none⟩) (Nat.le_refl _) _).setCell (p := ⟨B + 1, 0, none⟩) (Nat.le_succ _) _), fun g cur T fz hg hT => by
      have g1 : g ≠ B := fun e => by
        subst e; rw [i1] at hg; injection hg with hg; injection hg with _ hg
        subst hg; rcases hT with hT | hT <;> exact absurd hT (by decide)
      have g2 : g ≠ B + 1 := fun e => by
        subst e; rw [i2] at hg; injection hg with hg; injection hg with _ hg
        subst hg; rcases hT with hT | hT <;> exact absurd hT (by decide)
      rw [Below.heap_setCell _ ⟨B + 1, 0, none⟩ _ g g2, Below.heap_setCell _ ⟨B, 0, none⟩ _ g g1]
      exact hbk.block g (lt_of_block hg)⟩⟩
  clear i1 i2 i3 i4 i5 i6 hB ha hk hm hbk hlt hc1 hc2
  subst hW
  show Calls Tryz.prog _ #[ndV h _ _, .pointer (some ⟨B, 0, none⟩), .pointer (some ⟨B + 1, 0, none⟩)] w _
  unfold ndV
  go_enter Tryz.func50, Tryz.ntmps50
  go_wp2_with fail
  go_ret
  exact ⟨rfl, HR.out⟩
set_option maxHeartbeats 8000000 in
theorem depth_end (B : Nat) (M : Nat) (hM : M ≤ 4000000) : EndOK B 51 #[.pointer (some ⟨B, 0, none⟩)] (DepI B) (fun (s : DepS) _ => ((s.1 - 1, s.2.1, s.2.2 + 1) : DepS)) (fun s => s.2.2) M := by
  intro s w h K av kv hi hB ha hk hm
  obtain ⟨d, x, n⟩ := s
  obtain ⟨i1, i2, i3, i4, i5, i6⟩ := hi
  simp only at i1 i2 i3 i4 i5 i6 hm
  obtain ⟨A1, c1, rfl⟩ := ha.1.form
  obtain ⟨A2, c2, rfl⟩ := hk.form
  have hbk := below_one w (Obj.cells #[.string (str h.name), .slice A1 h.attrs.length c1, .string (str h.text), .slice A2 K.len c2] 33)
  have hlt : B + 1 < w.heap.size := lt_of_block i2
  obtain ⟨W, hW⟩ : ∃ W, W = w.alloc (Obj.cells #[.string (str h.name), .slice A1 h.attrs.length c1, .string (str h.text), .slice A2 K.len c2] 33) := ⟨_, rfl⟩
  rw [← hW] at hbk
  have hc1 : W.heap[B]? = _ := (hbk.block B (by omega)).trans i1
  have hc2 : W.heap[B + 1]? = _ := (hbk.block (B + 1) hlt).trans i2
  have d0 : W.cell? ⟨B, 0, none⟩ = some (.int .i64 d) := (Lib.cell_of_heap hc1 0).trans rfl
  have f0 : W.frozen? ⟨B, 0, none⟩ = false := Lib.frozen_of_heap hc1 0
  have hb1 : -4000000 ≤ d := by omega
  have hb2 : d ≤ 4000000 := by omega
  have HR : Hid (DepI B (d - 1, x, n + 1) (W.setCell ⟨B, 0, none⟩ (.int .i64 (d - 1))) ∧ FrL B w (W.setCell ⟨B, 0, none⟩ (.int .i64 (d - 1)))) := hide ⟨⟨by
      rw [heap_put (j := 0) _ hc1]; rfl, by
      exact (Below.heap_setCell _ ⟨B, 0, none⟩ _ (B + 1) (by simp)).trans hc2, by simp only; omega, by simp only; omega, by simp only; omega, by simp only; omega⟩,
    frL_box (b := B) ((hbk.mono hB).setCell (p := ⟨B, 0, none⟩) (Nat.le_refl _) _) (fun k hk hkb => (Below.heap_setCell _ ⟨B, 0, none⟩ _ k hkb).trans (hbk.block k hk)) i1 (by decide)⟩
  clear i1 i2 i3 i4 i5 i6 hB ha hk hm hbk hlt hc1 hc2
  subst hW
  show Calls Tryz.prog _ #[ndV h _ _, .pointer (some ⟨B, 0, none⟩)] w _
  unfold ndV
  go_enter Tryz.func51, Tryz.ntmps51
  go_wp2_with fail
  go_end0
  exact ⟨rfl, HR.out⟩
set_option maxHeartbeats 4000000 in
theorem depth14_any (v : Value) (T : Tr) (w : World) (hT : NodesIn w v T) (hc : T.count ≤ 1000000) :
    Calls Tryz.prog 17 #[v] w fun e w' => e = .returned (.int .i64 (T.depth : Int)) ∧ Below w.heap.size w w' := by
  obtain ⟨W, hW⟩ : ∃ W, W = (w.alloc (Obj.cells #[.int .i64 0] 3)).alloc (Obj.cells #[.int .i64 0] 3) := ⟨_, rfl⟩
  have hb1 := below_one w (Obj.cells #[.int .i64 0] 3)
  have hz : (w.alloc (Obj.cells #[.int .i64 0] 3)).heap.size = w.heap.size + 1 := by rw [World.size_alloc]
  have hb2 := below_one (w.alloc (Obj.cells #[.int .i64 0] 3)) (Obj.cells #[.int .i64 0] 3)
  have hbk : Below w.heap.size w W := by rw [hW]; exact hb1.trans (hb2.mono hb1.size)
  have hI : DepI w.heap.size (0, 0, 0) W := by
    refine ⟨?_, ?_, by decide, by decide, by decide, by decide⟩
    · rw [hW, hb2.block w.heap.size (by rw [hz]; exact Nat.lt_succ_self _)]
      exact heap_alloc_new w _
    · have := heap_alloc_new (w.alloc (Obj.cells #[.int .i64 0] 3)) (Obj.cells #[.int .i64 0] 3)
      rw [hz] at this
      rw [hW]; exact this
  have hw := walk_gen w.heap.size 50 51 #[.pointer (some ⟨w.heap.size, 0, none⟩), .pointer (some ⟨w.heap.size + 1, 0, none⟩)] #[.pointer (some ⟨w.heap.size, 0, none⟩)] (enters_of Tryz.func50 (by kernel_rfl) rfl) (enters_of Tryz.func51 (by kernel_rfl) rfl)
    (DepI w.heap.size) (fun (s : DepS) _ _ => ((s.1 + 1, max s.2.1 (s.1 + 1), s.2.2 + 1) : DepS)) (fun (s : DepS) _ => ((s.1 - 1, s.2.1, s.2.2 + 1) : DepS)) (fun _ => true) (fun s => s.2.2) 2000000 (fun _ _ => True) (fun s _ _ => Nat.le_succ _) (fun s _ => Nat.le_succ _) (dep_inv _ _) (depth_beg _ _ (by decide)) (depth_end _ _ (by decide)) v T (0, 0, 0) W (NodesC.mono hT (same_below hbk) (fun _ x => x)) (Tr.ev_true T) hc (by rw [vis_depth T (0, 0, 0) (Int.le_refl _)]; simp only; omega) hI hbk.size
  rw [vis_depth T (0, 0, 0) (Int.le_refl _)] at hw
  have hd : (max 0 (0 + (T.depth : Int))) = (T.depth : Int) := by omega
  simp only [hd] at hw
  rw [hW] at hw
  have HB := hide hw
  have HK := hide hbk
  rw [hW] at HK
  obtain ⟨A, c, rfl⟩ := NodesC.form hT
  have hmf : ∀ (fn : Fn) (first cap : Array Value) (w : World), (Instr.makeFunc fn first cap).run Tryz.prog w = .ok (.func fn first cap) w := fun _ _ _ _ => rfl
  clear hT hbk hb1 hb2 hz hI hw hd hW
  go_enter Tryz.func17, Tryz.ntmps17
  go_wp2_with fail
  refine HB.out.mono ?_
  rintro e w1 ⟨rfl, h1, h2⟩
  have d0 : w1.cell? ⟨w.heap.size + 1, 0, none⟩ = some (.int .i64 (T.depth : Int)) := (Lib.cell_of_heap h1.2.1 0).trans rfl
  have HR := hide (HK.out.trans h2)
  clear h1 h2
  go_wp2_with fail
  go_ret
  exact ⟨rfl, HR.out⟩
end Go.Proofs.YtiejmkjpgjbodaaGreatDoor
