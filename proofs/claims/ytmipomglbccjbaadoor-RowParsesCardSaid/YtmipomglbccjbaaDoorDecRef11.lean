/- The reference of layer 2: Mul. -/
import Derived.Test.YtmipomglbccjbaaDoorDecRef8
namespace Go.Proofs.YtmipomglbccjbaaDoor
open Go.RowKit

/-- Mul in plain numbers -/
def mulM (a fa b fb t : Int) : Int × Int :=
  if scB fa && scB fb && scB t then ansV (rnd (a.natAbs * b.natAbs * 10 ^ t.toNat) (1 * 10 ^ (fa + fb).toNat)) (decide (a < 0) != decide (b < 0)) else (0, 2)
end Go.Proofs.YtmipomglbccjbaaDoor
