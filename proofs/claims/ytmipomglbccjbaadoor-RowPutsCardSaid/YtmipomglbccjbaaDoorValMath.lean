/- Layer 3 in plain words: right types and values, comparing, order, texts. No function of the program is named here. -/
import Derived.Test.YtmipomglbccjbaaDoorDecP2
import Derived.Test.YtmipomglbccjbaaDoorDecLawMath
import Derived.Lib.ValidLaws
import Derived.Lib.Bytealg
import Derived.Lib.Small
namespace Go.Proofs.YtmipomglbccjbaaDoor.Vm

/-- a value of a cell -/
structure Cl where
  k : Int
  n : Int
  sc : Int
  s : ByteArray
  deriving DecidableEq
def Cl.val (c : Cl) : Value := .agg #[.int .i64 c.k, .int .i64 c.n, .int .i64 c.sc, .string c.s]
def nil : Cl := ⟨0, 0, 0, ⟨#[]⟩⟩
def rightB (c : Cl) : Bool :=
  if c.k = 0 then decide (c.n = 0) && decide (c.sc = 0) && decide (c.s.size = 0)
  else if c.k = 1 then (decide (c.n = 0) || decide (c.n = 1)) && decide (c.sc = 0) && decide (c.s.size = 0)
  else if c.k = 2 then decide (c.sc = 0) && decide (c.s.size = 0)
  else if c.k = 3 then scB c.sc && decide (c.s.size = 0)
  else if c.k = 4 then decide (c.n = 0) && decide (c.sc = 0) && decide (c.s.size ≤ 200) && Lib.validD c.s.data.toList
  else if c.k = 5 then decide (c.n = 0) && decide (c.sc = 0) && decide (c.s.size ≤ 200)
  else false
def plain (c : Cl) : Cl := if rightB c then c else nil
def ok (c : Cl) : Cl × Bool := if rightB c then (c, true) else (nil, false)
def number (l : List UInt8) : Cl × Bool :=
  if l.getLast? = some 46 then
    (if (Pm.parseM l.dropLast).2.2 = true ∧ ¬ 0 < (Pm.parseM l.dropLast).2.1 then (⟨3, (Pm.parseM l.dropLast).1, 0, ⟨#[]⟩⟩, true) else (nil, false))
  else if (Pm.parseM l).2.2 = true then (if 0 < (Pm.parseM l).2.1 then (⟨3, (Pm.parseM l).1, (Pm.parseM l).2.1, ⟨#[]⟩⟩, true) else (⟨2, (Pm.parseM l).1, 0, ⟨#[]⟩⟩, true))
  else (nil, false)
def truth (c : Cl) : Int := if (plain c).k = 1 then (plain c).n else 2
end Go.Proofs.YtmipomglbccjbaaDoor.Vm
