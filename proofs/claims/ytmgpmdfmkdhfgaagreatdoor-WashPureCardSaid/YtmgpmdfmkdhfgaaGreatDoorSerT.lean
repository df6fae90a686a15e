import Derived.Test.YtmgpmdfmkdhfgaaGreatDoorBaseR
import Derived.Test.YtmgpmdfmkdhfgaaGreatDoorBldW
namespace Go.Proofs.YtmgpmdfmkdhfgaaGreatDoor
open Go.RowKit
set_option linter.unusedVariables false
set_option linter.unusedSimpArgs false
set_option maxRecDepth 100000
theorem bl_one {w w1 w2:World} (h:Below w.heap.size w w1) (h2:Below w1.heap.size w1 w2):Below w.heap.size w w2:=h.trans (h2.mono h.size)
end Go.Proofs.YtmgpmdfmkdhfgaaGreatDoor
