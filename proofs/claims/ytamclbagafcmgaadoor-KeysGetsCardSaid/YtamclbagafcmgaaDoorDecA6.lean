/- Package decimal: shifted in one; Mul, Rescale. -/
import Derived.Test.YtamclbagafcmgaaDoorDecA2
namespace Go.Proofs.YtamclbagafcmgaaDoor
open Go.RowKit
theorem natAbs_lt (a : Int) (h : i64 a) : a.natAbs < 18446744073709551616 := by unfold i64 at h; omega
end Go.Proofs.YtamclbagafcmgaaDoor
