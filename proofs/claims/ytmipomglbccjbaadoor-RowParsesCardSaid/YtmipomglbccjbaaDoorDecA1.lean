/- Package decimal: Right, magnitude, power, product; cmp.Compare at uint64. -/
import Derived.Test.YtmipomglbccjbaaDoorDivMb
import Derived.Lib.Walk
import Derived.Test.YtmipomglbccjbaaDoorDecKit
import Derived.Deep.QuietTactic
import Derived.BigQuiet
import Derived.Deep.DeepCutAuto
import Derived.Deep.CutBlock
import Derived.Test.YtmipomglbccjbaaDoorDecRef12
namespace Go.Proofs.YtmipomglbccjbaaDoor
open Go.RowKit

theorem dec_right (s : Int) (w : World) : Calls Tryd.prog 58 #[.int .i64 s] w fun e w' => e = .returned (.bool (scB s)) ∧ w = w' := by
  by_cases h0 : 0 ≤ s
  · have h0' : decide (0 ≤ s) = true := by simpa using h0
    have hs : scB s = decide (s ≤ 6) := by unfold scB; rw [h0']; rfl
    have HS := Lib.hid hs
    clear hs
    go_enter Tryd.func58, Tryd.ntmps58
    go_wp2
    go_ret
    exact ⟨by rw [HS.out]; rfl, rfl⟩
  · have h0' : decide (0 ≤ s) = false := by simpa using h0
    have hs : scB s = false := by unfold scB; rw [h0']; rfl
    have HS := Lib.hid hs
    clear hs
    go_enter Tryd.func58, Tryd.ntmps58
    go_wp2
    go_ret
    exact ⟨by rw [HS.out]; rfl, rfl⟩
/-- a number of 128 bits in two words -/
def Wd (h l n : Nat) : Prop := h * 18446744073709551616 + l = n ∧ h < 18446744073709551616 ∧ l < 18446744073709551616
theorem Wd.of (n : Nat) (h : n < 340282366920938463463374607431768211456) : Wd (n / 18446744073709551616) (n % 18446744073709551616) n := by
  refine ⟨by omega, by omega, by omega⟩
theorem Wd.parts {h l n : Nat} (H : Wd h l n) : h = n / 18446744073709551616 ∧ l = n % 18446744073709551616 := by
  obtain ⟨a, b, c⟩ := H; omega
end Go.Proofs.YtmipomglbccjbaaDoor
