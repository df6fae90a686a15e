/- White, as chapters 4 and 17 have it. No statement is proved here. -/
import Derived.Test.YtlhjdjjbmljilaaDoorKit
namespace Go.Proofs.YtlhjdjjbmljilaaDoor
def whiteSet : List UInt8 := [32, 9, 10, 12, 13]
end Go.Proofs.YtlhjdjjbmljilaaDoor
