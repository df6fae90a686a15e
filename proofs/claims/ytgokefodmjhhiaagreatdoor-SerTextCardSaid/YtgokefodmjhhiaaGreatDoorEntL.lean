/- WALKS of (*strings.trieNode).add at a leaf, and at a node that has neither prefix nor table. No statement is proved here. -/
import Derived.Test.YtgokefodmjhhiaaGreatDoorEntK
namespace Go.Proofs.YtgokefodmjhhiaaGreatDoor
open Go.RowKit
set_option linter.unusedVariables false
set_option linter.unusedSimpArgs false
set_option maxRecDepth 100000
/-- what an add of the empty key leaves -/
def leafW (w : World) (b : Nat) (val : ByteArray) (p : Int) : World := (w.setCell ⟨b, 0, none⟩ (.string val)).setCell ⟨b, 1, none⟩ (.int .i64 p)
set_option maxHeartbeats 4000000 in
theorem add_leaf (b : Nat) (val v0 : ByteArray) (p : Int) (g : Addr) (w : World) (c0 : w.cell? ⟨b, 0, none⟩ = some (.string v0)) (c1 : w.cell? ⟨b, 1, none⟩ = some (.int .i64 0)) (f : ∀ i : Nat, w.frozen? ⟨b, i, none⟩ = false) :
    Calls Tryz.prog 216 #[.pointer (some ⟨b, 0, none⟩), .string ⟨#[]⟩, .string val, .int .i64 p, .pointer (some g)] w fun e w' => e = .returned (.tuple #[]) ∧ w' = leafW w b val p := by
  have f0 := f 0
  have f1 := f 1
  have c1' : (w.setCell ⟨b, 0, none⟩ (.string val)).cell? ⟨b, 1, none⟩ = some (.int .i64 0) := (World.cell?_setCell_other _ _ _ _ (by intro e; injection e with _ e _; exact absurd e (by decide))).trans c1
  have f1' : (w.setCell ⟨b, 0, none⟩ (.string val)).frozen? ⟨b, 1, none⟩ = false := by rw [World.frozen?_setCell]; exact f1
  clear f
  go_enter Tryz.func216, Tryz.ntmps216
  go_wp2_with fail
  refine bodyPost_ret (results_none rfl _ _ _) rfl ?_
  exact ⟨rfl, rfl⟩
/-- what an add to a bare node leaves ahead of its leaf -/
def preW (w : World) (b : Nat) (key : ByteArray) : World := ((w.setCell ⟨b, 2, none⟩ (.string key)).setCell ⟨b, 3, none⟩ (.pointer (some ⟨w.heap.size, 0, none⟩))).alloc (.cells #[.string ⟨#[]⟩, .int .i64 0, .string ⟨#[]⟩, .pointer none, .slice none 0 0] 224)
theorem pre_size (w : World) (b : Nat) (key : ByteArray) (x : Value) : ((w.setCell ⟨b, 2, none⟩ (.string key)).setCell ⟨b, 3, none⟩ x).heap.size = w.heap.size := by simp [World.setCell]
set_option maxHeartbeats 4000000 in
theorem add_pre (b : Nat) (key val : ByteArray) (x3 : Value) (p : Int) (g : Addr) (w : World) (hb : b < w.heap.size) (hk : key.toList.isEmpty = false) (c2 : w.cell? ⟨b, 2, none⟩ = some (.string ⟨#[]⟩)) (c3 : w.cell? ⟨b, 3, none⟩ = some x3) (c4 : w.cell? ⟨b, 4, none⟩ = some (.slice none 0 0)) (f : ∀ i : Nat, w.frozen? ⟨b, i, none⟩ = false) :
    Calls Tryz.prog 216 #[.pointer (some ⟨b, 0, none⟩), .string key, .string val, .int .i64 p, .pointer (some g)] w fun e w' => e = .returned (.tuple #[]) ∧ w' = leafW (preW w b key) w.heap.size val p := by
  have f2 := f 2
  have f3 := f 3
  have HC := hide (add_leaf w.heap.size val ⟨#[]⟩ p g (preW w b key) (by rw [preW, World.cell?_alloc_at _ _ _ _ (pre_size _ _ _ _).symm]; rfl) (by rw [preW, World.cell?_alloc_at _ _ _ _ (pre_size _ _ _ _).symm]; rfl) (fun i => by rw [preW]; exact World.frozen?_alloc_at _ _ _ _ (pre_size _ _ _ _).symm))
  clear f
  go_enter Tryz.func216, Tryz.ntmps216
  go_wp2_with (go_at_call 216; refine HC.out.mono ?_; rintro e w5 ⟨rfl, rfl⟩)
  go_end0
  exact ⟨rfl, rfl⟩
end Go.Proofs.YtgokefodmjhhiaaGreatDoor
