import Derived.Test.YtiejmkjpgjbodaaGreatDoorRows
import Derived.Test.YtiejmkjpgjbodaaGreatDoorBaseN
import Derived.Shelf.Vars
import Derived.Deep.Strs
import Derived.Deep.SlicePairs
import Derived.Carry
namespace Go.Proofs.YtiejmkjpgjbodaaGreatDoor
open Go.RowKit Go.WideShapes Go.ChangeShapes
set_option linter.unusedVariables false
set_option maxRecDepth 100000
instance : Inhabited TokL := ⟨⟨0, [], [], []⟩⟩
end Go.Proofs.YtiejmkjpgjbodaaGreatDoor
