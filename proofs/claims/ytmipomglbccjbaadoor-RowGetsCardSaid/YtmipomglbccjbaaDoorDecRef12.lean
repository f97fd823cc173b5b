/- The reference of layer 2: Div. -/
import Derived.Test.YtmipomglbccjbaaDoorDecRef11
namespace Go.Proofs.YtmipomglbccjbaaDoor
open Go.RowKit

/-- Div in plain numbers -/
def divM (a fa b fb t : Int) : Int × Int :=
  if scB fa && scB fb && scB t then (if (b == 0) = true then (0, 21) else ansV (rnd (a.natAbs * 10 ^ (fb + t).toNat) (b.natAbs * 10 ^ fa.toNat)) (decide (a < 0) != decide (b < 0))) else (0, 2)
end Go.Proofs.YtmipomglbccjbaaDoor
