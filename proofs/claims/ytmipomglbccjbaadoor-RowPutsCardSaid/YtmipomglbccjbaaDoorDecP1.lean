/- Package decimal: digits. -/
import Derived.Test.YtmipomglbccjbaaDoorDecS2
import Derived.Test.YtmipomglbccjbaaDoorParMath
namespace Go.Proofs.YtmipomglbccjbaaDoor
open Go.RowKit

/-- digits, at least one -/
def digB (l : List UInt8) : Bool := !l.isEmpty && Pm.allD l
end Go.Proofs.YtmipomglbccjbaaDoor
