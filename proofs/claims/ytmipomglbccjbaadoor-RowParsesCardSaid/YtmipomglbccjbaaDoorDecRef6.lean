/- The reference of layer 2: Round on digits: the quotient, rounded to the nearest, ties up. -/
import Derived.Test.YtmipomglbccjbaaDoorDecKit
import Derived.Deep.QuietTactic
import Derived.BigQuiet
namespace Go.Proofs.YtmipomglbccjbaaDoor
open Go.RowKit

/-- a quotient, rounded -/
def rnd (A B : Nat) : Nat := if B ≤ 2 * (A % B) then A / B + 1 else A / B
end Go.Proofs.YtmipomglbccjbaaDoor
