/- WALKS of strings.Replacer's buildOnce at link's texts and of its Do. No statement is proved here. -/
import Derived.Test.YtklbdobofclofaaGreatDoorTagB
import Derived.Test.YtklbdobofclofaaGreatDoorOnceB
namespace Go.Proofs.YtklbdobofclofaaGreatDoor
open Go.RowKit
set_option linter.unusedVariables false
set_option linter.unusedSimpArgs false
set_option maxRecDepth 100000
/-- behind buildOnce -/
def BuiltT (W : World) (b : Nat) (w w' : World) : Prop :=
  TagAt W b (w.heap.size + 1) w' ∧ w'.cell? ⟨b, 3, none⟩ = some (.iface 131 (.pointer (some ⟨w.heap.size + 1, 0, none⟩))) ∧
  w'.cell? ⟨b, 0, none⟩ = some (.int .u32 0) ∧ w'.cell? ⟨b, 1, none⟩ = some (.int .i32 1) ∧ w'.frozen? ⟨b, 0, none⟩ = false ∧ w'.frozen? ⟨b, 1, none⟩ = false
set_option maxHeartbeats 1600000 in
theorem buildOnceT_any (b g c : Nat) (W w : World) (hW : Below W.heap.size W w) (hWb : W.heap.size ≤ b) (h0 : w.cell? ⟨b, 0, none⟩ = some (.int .u32 0)) (h1 : w.cell? ⟨b, 1, none⟩ = some (.int .i32 1)) (h3 : w.cell? ⟨b, 3, none⟩ = some .nilIface)
    (hf : ∀ i : Nat, w.frozen? ⟨b, i, none⟩ = false) (h4 : w.cell? ⟨b, 4, none⟩ = some (.slice (some ⟨g, 0, none⟩) 6 c)) (hg : OldNewT g w) :
    Calls Tryz.prog 69 #[.pointer (some ⟨b, 0, none⟩)] w fun e w' => e = .returned (.tuple #[]) ∧ BuiltT W b w w' := by
  have hbl : b < w.heap.size := World.block_lt_of_cell? w _ h0
  go_enter Tryz.func69, Tryz.ntmps69
  go_wp2_with (go_at_call 89; refine (buildT_any b g c _ h4 hg).mono ?_; rintro e w2 ⟨rfl, hr⟩; have HR := hide hr; have hb2 := hr.below; have k3 := (hb2.cell (p := ⟨b, 3, none⟩) hbl).trans h3; have k4 := (hb2.cell (p := ⟨b, 4, none⟩) hbl).trans h4; have z3 := (hb2.frozen (p := ⟨b, 3, none⟩) hbl).trans (hf 3); have z4 := (hb2.frozen (p := ⟨b, 4, none⟩) hbl).trans (hf 4); have HB2 := hide hb2; clear hr hb2)
  go_end0
  have k0 := (HB2.out.cell (p := ⟨b, 0, none⟩) hbl).trans h0
  have k1 := (HB2.out.cell (p := ⟨b, 1, none⟩) hbl).trans h1
  have z0 := (HB2.out.frozen (p := ⟨b, 0, none⟩) hbl).trans (hf 0)
  have z1 := (HB2.out.frozen (p := ⟨b, 1, none⟩) hbl).trans (hf 1)
  refine ⟨rfl, ((HR.out.at hW hWb hbl).set 3 _).set 4 _, ?_, ?_, ?_, ?_, ?_⟩
  · exact (World.cell?_setCell_other _ _ _ _ (ne_off (by decide))).trans (World.cell?_setCell_same _ _ _ k3)
  · exact ((World.cell?_setCell_other _ _ _ _ (ne_off (by decide))).trans (World.cell?_setCell_other _ _ _ _ (ne_off (by decide)))).trans k0
  · exact ((World.cell?_setCell_other _ _ _ _ (ne_off (by decide))).trans (World.cell?_setCell_other _ _ _ _ (ne_off (by decide)))).trans k1
  · rw [World.frozen?_setCell, World.frozen?_setCell]; exact z0
  · rw [World.frozen?_setCell, World.frozen?_setCell]; exact z1
theorem doT_build (b : Nat) (W w : World) (hW : Below W.heap.size W w) (hWb : W.heap.size ≤ b) (hn : NewAtT b w) :
    Calls Tryz.prog 68 #[.pointer (some ⟨b, 0, none⟩), .func (.func 69) #[.pointer (some ⟨b, 0, none⟩)] #[]] w fun e w' => e = .returned (.tuple #[]) ∧
      TagAt W b (w.heap.size + 1) w' ∧ w'.cell? ⟨b, 3, none⟩ = some (.iface 131 (.pointer (some ⟨w.heap.size + 1, 0, none⟩))) := by
  obtain ⟨h0, h1, h3, hf, g, c, h4, ⟨o0, o1, o2, o3, o4, o5⟩, hbg⟩ := hn
  have es : (w.setCell ⟨b, 1, none⟩ (.int .i32 1)).heap.size = w.heap.size := World.size_setCell ..
  have hb := buildOnceT_any b g c W (w.setCell ⟨b, 1, none⟩ (.int .i32 1)) (hW.setCell hWb _) hWb
    ((World.cell?_setCell_other _ _ _ _ (ne_off (by decide))).trans h0) (World.cell?_setCell_same _ _ _ h1) ((World.cell?_setCell_other _ _ _ _ (ne_off (by decide))).trans h3)
    (fun i => by rw [World.frozen?_setCell]; exact hf i) ((World.cell?_setCell_other _ _ _ _ (ne_off (by decide))).trans h4)
    ⟨(World.cell?_setCell_other _ _ _ _ (ne_blk hbg)).trans o0, (World.cell?_setCell_other _ _ _ _ (ne_blk hbg)).trans o1, (World.cell?_setCell_other _ _ _ _ (ne_blk hbg)).trans o2, (World.cell?_setCell_other _ _ _ _ (ne_blk hbg)).trans o3, (World.cell?_setCell_other _ _ _ _ (ne_blk hbg)).trans o4, (World.cell?_setCell_other _ _ _ _ (ne_blk hbg)).trans o5⟩
  refine (once_build b w _ h0 h1 (hf 0) (hf 1) hb (fun w' hq => ⟨hq.2.2.1, hq.2.2.2.1, hq.2.2.2.2.1, hq.2.2.2.2.2⟩)).mono ?_
  rintro e w' ⟨rfl, w1, hq, rfl⟩
  refine ⟨rfl, ?_, ?_⟩
  · have := (hq.1.drew.set 0 (.int .u32 1)).set 1 (.int .i32 0)
    rw [es] at this
    exact this
  · have := hq.2.1
    rw [es] at this
    refine ((World.cell?_setCell_other _ _ _ _ (ne_off (by decide))).trans (World.cell?_setCell_other _ _ _ _ (ne_off (by decide)))).trans ?_
    rw [World.cell?_drew]; exact this
end Go.Proofs.YtklbdobofclofaaGreatDoor
