/- Maps with texts as keys: what maps of any elements share. No statement is proved here. -/
import Derived.Test.YtklbdobofclofaaGreatDoorBaseM
import Derived.Maps.Own
import Derived.Maps.OwnSet
import Derived.Maps.Views
import Derived.Maps.StringElems
namespace Go.Proofs.YtklbdobofclofaaGreatDoor
open Go.RowKit Go.Maps Go.WideShapes Go.WideMaps
open Go.ChangeMaps (setBlock heap_setBlock_other)
set_option linter.unusedVariables false
set_option linter.unusedSimpArgs false
set_option maxRecDepth 100000
theorem keyedT : Keyed Tryz.prog 9 := string_keyed Tryz.underlying9
def putF {α : Type} (f : List UInt8 → Option α) (k : List UInt8) (v : α) : List UInt8 → Option α := fun y => if y = k then some v else f y
/-- a block was turned, a map; all others stand -/
def Turned (b : Nat) (w w' : World) : Prop := w.heap.size = w'.heap.size ∧ (∀ k, k ≠ b → w'.heap[k]? = w.heap[k]?) ∧ ∀ B, B ≤ b → Below B w w'
theorem turned_of {b : Nat} {w w' : World} (h : w.mapTurned w' b) : Turned b w w' := by
  have hg := h.grown
  obtain ⟨es, clock, es', clock', hb, rfl⟩ := h
  exact ⟨by simp [setBlock], fun k hk => heap_setBlock_other hb _ (fun e => hk e), fun B hB => ⟨rfl, rfl, rfl, by simp [setBlock], fun k hk => heap_setBlock_other hb _ (fun e => by omega)⟩⟩
end Go.Proofs.YtklbdobofclofaaGreatDoor
