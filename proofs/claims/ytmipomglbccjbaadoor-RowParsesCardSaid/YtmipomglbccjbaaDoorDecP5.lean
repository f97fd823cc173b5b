/- The reference of layer 2: Parse. -/
import Derived.Test.YtmipomglbccjbaaDoorDecP2
import Derived.Test.YtmipomglbccjbaaDoorDecS2
import Derived.Deep.DeepCutAuto
import Derived.Deep.CutBlock
namespace Go.Proofs.YtmipomglbccjbaaDoor
open Go.RowKit

theorem drop_cons (s : ByteArray) (j : Nat) (h : j < s.size) : s.data.toList.drop j = s[j] :: s.data.toList.drop (j + 1) := by
  rw [List.drop_eq_getElem_cons (by simpa using h)]; rfl
/-- how far the text has been gone through -/
structure St (l : List UInt8) (b j : Nat) (D : List UInt8) (o : Option (List UInt8)) : Prop where
  go : Pm.scan [] none (l.drop b) = Pm.scan D o (l.drop j)
  at_ : j = b + D.length + (match o with | none => 0 | some E => 1 + E.length)
  pre : (l.drop b).take D.length = D
  allD : Pm.allD D = true
  allE : Pm.allD (o.getD []) = true
/-- where the point is -/
def pv (b : Nat) (D : List UInt8) : Option (List UInt8) → Int
  | none => -1
  | some _ => ((b + D.length : Nat) : Int)
theorem St.fin {s : ByteArray} {b : Nat} {D : List UInt8} {o : Option (List UInt8)} (h : St s.data.toList b s.size D o) : Pm.scan [] none (s.data.toList.drop b) = some (D, o) := by
  rw [h.go, List.drop_of_length_le (by simp)]
  cases o <;> rfl
theorem St.head {s : ByteArray} {b j : Nat} {D : List UInt8} {o : Option (List UInt8)} (h : St s.data.toList b j D o) (hb : b < s.size) (hD : 0 < D.length) : D.head? = some s[b] := by
  have e := h.pre
  rw [drop_cons s b hb] at e
  cases D with
  | nil => simp at hD
  | cons c r => simp at e; simp [e.1]
end Go.Proofs.YtmipomglbccjbaaDoor
