/- The reference of layer 3: Compare. -/
import Derived.Test.YtmipomglbccjbaaDoorValR1
import Derived.Test.YtmipomglbccjbaaDoorDecP5
import Derived.Test.YtmipomglbccjbaaDoorValR6
namespace Go.Proofs.YtmipomglbccjbaaDoor
open Go.RowKit

/-- what a function that answers a number and a truth leaves -/
def NumB (p : Int × Bool) (w : World) (e : Ending) (w' : World) : Prop := e = .returned (.tuple #[.int .i64 p.1, .bool p.2]) ∧ Below w.heap.size w w'
theorem NumB.mk {a : Int} {b : Bool} {p : Int × Bool} {w w' : World} (h : p = (a, b)) (hb : Below w.heap.size w w') : NumB p w (.returned (.tuple #[.int .i64 a, .bool b])) w' := ⟨by rw [h], hb⟩
end Go.Proofs.YtmipomglbccjbaaDoor
