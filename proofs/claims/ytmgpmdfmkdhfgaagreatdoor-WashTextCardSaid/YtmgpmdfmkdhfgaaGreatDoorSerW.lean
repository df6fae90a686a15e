import Derived.Test.YtmgpmdfmkdhfgaaGreatDoorSerT
import Derived.Test.YtmgpmdfmkdhfgaaGreatDoorEntW
import Derived.Test.YtmgpmdfmkdhfgaaGreatDoorHtokY
import Derived.Test.YtmgpmdfmkdhfgaaGreatDoorRawW
import Derived.Test.YtmgpmdfmkdhfgaaGreatDoorBaseR
namespace Go.Proofs.YtmgpmdfmkdhfgaaGreatDoor
open Go.RowKit
set_option linter.unusedVariables false
set_option linter.unusedSimpArgs false
set_option maxRecDepth 100000
def smallH (h:NdH):Bool:=fitT ⟨0,h.name,h.attrs,h.text⟩
end Go.Proofs.YtmgpmdfmkdhfgaaGreatDoor
