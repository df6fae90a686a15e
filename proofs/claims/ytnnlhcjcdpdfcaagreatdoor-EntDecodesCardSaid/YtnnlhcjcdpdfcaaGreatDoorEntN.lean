/- WALK of ent.signs: the map of names. No statement is proved here. -/
import Derived.Test.YtnnlhcjcdpdfcaaGreatDoorMapS
namespace Go.Proofs.YtnnlhcjcdpdfcaaGreatDoor
open Go.RowKit
set_option linter.unusedVariables false
set_option linter.unusedSimpArgs false
set_option maxRecDepth 100000
def putN (f : List UInt8 → Option Int) (k : List UInt8) (c : Int) : List UInt8 → Option Int := fun y => if y = k then some c else f y
/-- the sign of a name -/
def nameN : List UInt8 → Option Int :=
  putN (putN (putN (putN (putN (putN (putN (putN (putN (putN (putN (putN (putN (putN (putN (putN (fun _ => none) [97, 109, 112] 38) [108, 116] 60) [103, 116] 62) [113, 117, 111, 116] 34) [97, 112, 111, 115] 39) [110, 98, 115, 112] 160) [99, 111, 112, 121] 169) [114, 101, 103] 174) [101, 117, 114, 111] 8364) [104, 101, 108, 108, 105, 112] 8230) [110, 100, 97, 115, 104] 8211) [109, 100, 97, 115, 104] 8212) [108, 115, 113, 117, 111] 8216) [114, 115, 113, 117, 111] 8217) [108, 100, 113, 117, 111] 8220) [114, 100, 113, 117, 111] 8221
set_option maxHeartbeats 2000000 in
theorem signs_any (w : World) : Calls Tryz.prog 57 #[] w fun e w' => e = .returned (.map (some w.heap.size)) ∧ SMapN w' w.heap.size 16 nameN ∧ Below w.heap.size w w' := by
  have hst : SMapN (w.alloc (.map #[] 0)) w.heap.size 0 (fun _ => none) ∧ Below w.heap.size w (w.alloc (.map #[] 0)) := ⟨SMapN.made w, (Below.refl _ w).alloc (Nat.le_refl _) _⟩
  have hmm := @run_makeMap Tryz.prog
  go_enter Tryz.func57, Tryz.ntmps57
  go_wp2_with (refine wpList_sm_insert rfl _ _ _ rfl w _ _ rfl hst (by decide) _ (by decide) _ (by decide) rfl rfl ?_; clear hst; intro w1 hst)
  go_ret
  exact ⟨rfl, hst.1, hst.2⟩
end Go.Proofs.YtnnlhcjcdpdfcaaGreatDoor
