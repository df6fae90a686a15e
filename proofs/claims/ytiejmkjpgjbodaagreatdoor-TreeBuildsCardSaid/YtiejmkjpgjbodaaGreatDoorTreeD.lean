import Derived.Test.YtiejmkjpgjbodaaGreatDoorTreeH
namespace Go.Proofs.YtiejmkjpgjbodaaGreatDoor
open Go.RowKit
set_option linter.unusedVariables false
set_option linter.unusedSimpArgs false
set_option maxRecDepth 100000
def CntI (b : Nat) (n : Nat) (w : World) : Prop := w.heap[b]? = some (Obj.cells #[.int .i64 (n : Int)] 3 (0, 0))
set_option maxHeartbeats 4000000 in
theorem count_beg (B : Nat) (M : Nat) (hM : M ≤ 4000000) : BegOK B 48 #[.pointer (some ⟨B, 0, none⟩)] (CntI B) (fun n _ _ => n + 1) (fun _ => true) id M (fun _ _ => True) := by
  intro n w h K av A m c hi hB _ ha hk hm
  obtain ⟨A1, c1, rfl⟩ := ha.1.form
  have hbk := below_one w (Obj.cells #[.string (str h.name), .slice A1 h.attrs.length c1, .string (str h.text), .slice A m c] 33)
  have hlt : B < w.heap.size := lt_of_block hi
  have hc1 : (w.alloc (Obj.cells #[.string (str h.name), .slice A1 h.attrs.length c1, .string (str h.text), .slice A m c] 33)).heap[B]? = _ := (hbk.block B hlt).trans hi
  have d0 : (w.alloc (Obj.cells #[.string (str h.name), .slice A1 h.attrs.length c1, .string (str h.text), .slice A m c] 33)).cell? ⟨B, 0, none⟩ = some (.int .i64 (n : Int)) := (Lib.cell_of_heap hc1 0).trans rfl
  have f0 : (w.alloc (Obj.cells #[.string (str h.name), .slice A1 h.attrs.length c1, .string (str h.text), .slice A m c] 33)).frozen? ⟨B, 0, none⟩ = false := Lib.frozen_of_heap hc1 0
  have b3 : (w.alloc (Obj.cells #[.string (str h.name), .slice A1 h.attrs.length c1, .string (str h.text), .slice A m c] 33)).cell? ⟨w.heap.size, 3, none⟩ = some (.slice A m c) := (Lib.cell_of_heap (heap_alloc_new w _) 3).trans rfl
  have hne : ¬ (w.heap.size = B) := by omega
  have hne2 : ¬ (B = w.heap.size) := by omega
  have hn : n ≤ 4000000 := by simp only [id] at hm; omega
  have HR : Hid (CntI B (n + 1) ((w.alloc (Obj.cells #[.string (str h.name), .slice A1 h.attrs.length c1, .string (str h.text), .slice A m c] 33)).setCell ⟨B, 0, none⟩ (.int .i64 ((n : Int) + 1))) ∧ FrL B w ((w.alloc (Obj.cells #[.string (str h.name), .slice A1 h.attrs.length c1, .string (str h.text), .slice A m c] 33)).setCell ⟨B, 0, none⟩ (.int .i64 ((n : Int) + 1)))) := hide ⟨by
    unfold CntI
    rw [heap_put (j := 0) _ hc1]
    rfl, frL_box (b := B) ((hbk.mono hB).setCell (p := ⟨B, 0, none⟩) (Nat.le_refl _) _) (fun k hk hkb => (Below.heap_setCell _ ⟨B, 0, none⟩ _ k hkb).trans (hbk.block k hk)) hi (by decide)⟩
  clear hi hB ha hk hm hbk hlt hc1
  show Calls Tryz.prog _ #[ndV h _ _, .pointer (some ⟨B, 0, none⟩)] w _
  unfold ndV
  go_enter Tryz.func48, Tryz.ntmps48
  go_wp2_with fail
  go_ret
  exact ⟨rfl, HR.out⟩
theorem cnt_inv (B b : Nat) : InvOK B (CntI b) := fun n w w' row hi hg hr => box_inv hi (by decide) hg hr
set_option maxHeartbeats 4000000 in
theorem count14_any (v : Value) (T : Tr) (w : World) (hT : NodesIn w v T) (hc : T.count ≤ 1000000) :
    Calls Tryz.prog 15 #[v] w fun e w' => e = .returned (.int .i64 (T.count : Int)) ∧ Below w.heap.size w w' := by
  have hbk := below_one w (Obj.cells #[.int .i64 0] 3)
  have HB := hide (begins_gen w.heap.size 48 #[.pointer (some ⟨w.heap.size, 0, none⟩)] (enters_of Tryz.func48 (by kernel_rfl) rfl) (CntI w.heap.size) (fun n _ _ => n + 1) (fun _ => true) id 1000000 (fun _ _ => True) (fun s _ _ => Nat.le_succ s) (cnt_inv _ _) (count_beg _ _ (by decide)) v T 0 (w.alloc (Obj.cells #[.int .i64 0] 3)) (NodesC.mono hT (same_below hbk) (fun _ x => x)) (Tr.ev_true T) hc (by rw [vis_count]; simp only [id]; omega) (heap_alloc_new w _) hbk.size)
  rw [vis_count, Nat.zero_add] at HB
  have HK := hide hbk
  obtain ⟨A, c, rfl⟩ := NodesC.form hT
  have hmf : ∀ (fn : Fn) (first cap : Array Value) (w : World), (Instr.makeFunc fn first cap).run Tryz.prog w = .ok (.func fn first cap) w := fun _ _ _ _ => rfl
  clear hT hbk
  go_enter Tryz.func15, Tryz.ntmps15
  go_wp2_with fail
  refine HB.out.mono ?_
  rintro e w1 ⟨rfl, h1, h2⟩
  have d0 : w1.cell? ⟨w.heap.size, 0, none⟩ = some (.int .i64 (T.count : Int)) := (Lib.cell_of_heap h1 0).trans rfl
  have HR := hide (HK.out.trans h2)
  clear h1 h2
  go_wp2_with fail
  go_ret
  exact ⟨rfl, HR.out⟩
end Go.Proofs.YtiejmkjpgjbodaaGreatDoor
