/- Package decimal: Print. -/
import Derived.Test.YtamclbagafcmgaaDoorDecS1
import Derived.Test.YtamclbagafcmgaaDoorDecA6
import Derived.Deep.QuietTactic
import Derived.BigQuiet
namespace Go.Proofs.YtamclbagafcmgaaDoor
open Go.RowKit

/-- a string of bytes -/
def bstr (l : List UInt8) : ByteArray := ⟨l.toArray⟩
theorem bstr_size (l : List UInt8) : (bstr l).size = l.length := by simp [bstr, ByteArray.size]
theorem bstr_data (l : List UInt8) : (bstr l).data.toList = l := rfl
theorem bstr_append (a b : List UInt8) : bstr a ++ bstr b = bstr (a ++ b) := by
  unfold bstr; apply ByteArray.ext; simp
theorem bstr_extract (l : List UInt8) (i j : Nat) : (bstr l).extract i j = bstr ((l.drop i).take (j - i)) := by
  unfold bstr; apply ByteArray.ext; simp [List.extract_eq_take_drop]
theorem ret_str {a : ByteArray} {l : List UInt8} (h : a = bstr l) : Ending.returned (.string a) = .returned (.string ⟨l.toArray⟩) := by rw [h]; rfl
/-- the digits, with noughts ahead so that at least one stands before the point -/
def padD (m k : Nat) : List UInt8 := List.replicate (k + 1 - (Lib.decDigits m).length) 48 ++ Lib.decDigits m
/-- the digits with the point -/
def dotD (m k : Nat) : List UInt8 := if k = 0 then padD m k else (padD m k).take ((padD m k).length - k) ++ [46] ++ (padD m k).drop ((padD m k).length - k)
/-- Print in plain words -/
def printM (n s : Int) : List UInt8 := if scB s then (if n < 0 then 45 :: dotD n.natAbs s.toNat else dotD n.natAbs s.toNat) else []
theorem nd_len (u : Nat) (h : u < 18446744073709551616) : 1 ≤ (Lib.decDigits u).length ∧ (Lib.decDigits u).length ≤ 20 := by
  rw [Lib.decDigits_length]
  have h1 : 1 ≤ Lib.nDigits u := by
    by_cases h0 : u < 10
    · rw [Lib.nDigits_small h0]; omega
    · rw [Lib.nDigits_big h0]; omega
  refine ⟨h1, ?_⟩
  by_cases h0 : u = 0
  · subst h0; rw [Lib.nDigits_small (by omega)]; omega
  · have := Lib.numDigits_eq u (by omega) h; split at this <;> omega
end Go.Proofs.YtamclbagafcmgaaDoor
