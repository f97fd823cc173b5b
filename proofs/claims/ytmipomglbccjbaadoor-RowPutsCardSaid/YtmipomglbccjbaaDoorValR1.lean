/- The reference of layer 3: numbers, utf. -/
import Derived.Test.YtmipomglbccjbaaDoorValMath
import Derived.Test.YtmipomglbccjbaaDoorValUtf
import Derived.Deep.QuietTactic
import Derived.BigQuiet
namespace Go.Proofs.YtmipomglbccjbaaDoor
open Go.RowKit
theorem ret_bool {a b : Bool} (h : a = b) : Ending.returned (.bool a) = .returned (.bool b) := by rw [h]
end Go.Proofs.YtmipomglbccjbaaDoor
