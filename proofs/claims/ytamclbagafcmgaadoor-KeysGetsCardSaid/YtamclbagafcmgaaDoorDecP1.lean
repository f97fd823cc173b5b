/- Package decimal: digits. -/
import Derived.Test.YtamclbagafcmgaaDoorDecS2
import Derived.Test.YtamclbagafcmgaaDoorParMath
namespace Go.Proofs.YtamclbagafcmgaaDoor
open Go.RowKit

/-- digits, at least one -/
def digB (l : List UInt8) : Bool := !l.isEmpty && Pm.allD l
end Go.Proofs.YtamclbagafcmgaaDoor
