/- What the start laid down and the walks read; strconv.FormatUint at base 10. -/
import Derived.Test.YtamclbagafcmgaaDoorDecA2
import Derived.Lib.AppendIntMem
import Derived.Lib.SmallJoins
import Derived.Deep.RegionHeld
namespace Go.Proofs.YtamclbagafcmgaaDoor
open Go.RowKit Go.Sort
/-- what a function that answers a string leaves -/
def Str (l : List UInt8) (w : World) (e : Ending) (w' : World) : Prop := e = .returned (.string ⟨l.toArray⟩) ∧ Below w.heap.size w w'
end Go.Proofs.YtamclbagafcmgaaDoor
