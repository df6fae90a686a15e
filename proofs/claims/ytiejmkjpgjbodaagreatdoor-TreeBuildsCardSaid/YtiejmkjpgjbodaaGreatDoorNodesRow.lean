import Derived.Test.YtiejmkjpgjbodaaGreatDoorToksRow
import Derived.Test.YtiejmkjpgjbodaaGreatDoorBaseN
namespace Go.Proofs.YtiejmkjpgjbodaaGreatDoor
open Go.RowKit Go.WideShapes Go.ChangeShapes
set_option linter.unusedVariables false
set_option maxRecDepth 100000
instance : Inhabited NdH := ⟨⟨[], [], []⟩⟩
instance : Inhabited Tr := ⟨.nil⟩
end Go.Proofs.YtiejmkjpgjbodaaGreatDoor
