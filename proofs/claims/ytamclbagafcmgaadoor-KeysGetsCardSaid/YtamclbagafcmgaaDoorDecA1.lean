/- Package decimal: Right, magnitude, power, product; cmp.Compare at uint64. -/
import Derived.Test.YtamclbagafcmgaaDoorDivBits
import Derived.Shelf.Unicode.ValidAny
import Derived.Test.YtamclbagafcmgaaDoorDecKit
import Derived.Deep.QuietTactic
import Derived.BigQuiet
import Derived.Deep.DeepCutAuto
import Derived.Deep.CutBlock
import Derived.Test.YtamclbagafcmgaaDoorDecRb
namespace Go.Proofs.YtamclbagafcmgaaDoor
open Go.RowKit

theorem dec_right (s : Int) (w : World) : Calls Tryd.prog 40 #[.int .i64 s] w fun e w' => e = .returned (.bool (scB s)) ∧ w = w' := by
  by_cases h0 : 0 ≤ s
  · have h0' : decide (0 ≤ s) = true := by simpa using h0
    have hs : scB s = decide (s ≤ 6) := by unfold scB; rw [h0']; rfl
    have HS := Lib.hid hs
    clear hs
    go_enter Tryd.func40, Tryd.ntmps40
    go_wp2
    go_ret
    exact ⟨by rw [HS.out]; rfl, rfl⟩
  · have h0' : decide (0 ≤ s) = false := by simpa using h0
    have hs : scB s = false := by unfold scB; rw [h0']; rfl
    have HS := Lib.hid hs
    clear hs
    go_enter Tryd.func40, Tryd.ntmps40
    go_wp2
    go_ret
    exact ⟨by rw [HS.out]; rfl, rfl⟩
theorem ret_u64 {a b : Int} (h : a = b) : Ending.returned (.int .u64 a) = .returned (.int .u64 b) := by rw [h]
theorem pow10_le (k : Nat) (h : k ≤ 19) : 10 ^ k ≤ 10000000000000000000 :=
  Nat.le_trans (Nat.pow_le_pow_right (by omega) h) (by decide)
/-- a number of 128 bits in two words -/
def Wd (h l n : Nat) : Prop := h * 18446744073709551616 + l = n ∧ h < 18446744073709551616 ∧ l < 18446744073709551616
/-- what a function that answers a number of 128 bits leaves -/
def WideR (n : Nat) (w : World) (e : Ending) (w' : World) : Prop :=
  ∃ h l : Nat, e = .returned (.agg #[.int .u64 (h : Int), .int .u64 (l : Int)]) ∧ Wd h l n ∧ Below w.heap.size w w'
theorem Wd.of (n : Nat) (h : n < 340282366920938463463374607431768211456) : Wd (n / 18446744073709551616) (n % 18446744073709551616) n := by
  refine ⟨by omega, by omega, by omega⟩
theorem Wd.parts {h l n : Nat} (H : Wd h l n) : h = n / 18446744073709551616 ∧ l = n % 18446744073709551616 := by
  obtain ⟨a, b, c⟩ := H; omega
theorem mul_lt_128 (a b : Nat) (ha : a < 18446744073709551616) (hb : b < 18446744073709551616) : a * b < 340282366920938463463374607431768211456 := by
  have := Nat.mul_le_mul (show a ≤ 18446744073709551615 by omega) (show b ≤ 18446744073709551615 by omega)
  omega
end Go.Proofs.YtamclbagafcmgaaDoor
