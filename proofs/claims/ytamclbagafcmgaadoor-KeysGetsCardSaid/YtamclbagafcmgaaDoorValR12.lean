/- The reference of layer 3: inner, the loop; inner whole. -/
import Derived.Test.YtamclbagafcmgaaDoorValR11
namespace Go.Proofs.YtamclbagafcmgaaDoor
open Go.RowKit

theorem map_app (o : Option (List UInt8)) (B : List UInt8) (c : UInt8) : (o.map (c :: ·)).map (B ++ ·) = o.map ((B ++ [c]) ++ ·) := by cases o <;> simp
theorem nil_map (o : Option (List UInt8)) : o.map (([] : List UInt8) ++ ·) = o := by cases o <;> simp
end Go.Proofs.YtamclbagafcmgaaDoor
