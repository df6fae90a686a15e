import Derived.Test.YtmgpmdfmkdhfgaaGreatDoorEntW
namespace Go.Proofs.YtmgpmdfmkdhfgaaGreatDoor
open Go.RowKit
set_option linter.unusedVariables false
set_option linter.unusedSimpArgs false
set_option maxRecDepth 100000
def EnvX (w:World):Prop:=EnvE w /\ ∃ m:Int,w.cell? ⟨0,0,none⟩ = some (.int .i64 m)
theorem EnvX.kept {w w':World} (h:EnvX w) (hb:Below w.heap.size w w'):EnvX w':=by
 obtain ⟨h1,m,h2⟩:=h;exact ⟨h1.kept hb,m,(hb.cell (p:=⟨0,0,none⟩) (World.block_lt_of_cell? _ _ h2)).trans h2⟩
end Go.Proofs.YtmgpmdfmkdhfgaaGreatDoor
