/- The reference of layer 2: answer, Scale, the number of digits. -/
import Derived.Test.YtmipomglbccjbaaDoorDecRef6
namespace Go.Proofs.YtmipomglbccjbaaDoor
open Go.RowKit

/-- a number with a sign, and the error -/
def ansV (A : Nat) (minus : Bool) : Int × Int :=
  if minus then (if A ≤ 9223372036854775808 then (-(A : Int), 0) else (0, 20)) else (if A ≤ 9223372036854775807 then ((A : Int), 0) else (0, 20))
/-- a valid scale -/
def scB (s : Int) : Bool := decide (0 ≤ s) && decide (s ≤ 6)
theorem ref_scale (s : Int) (w : World) : Calls Tryd.prog 47 #[.int .i64 s] w fun e w' => e = .returned (.bool (scB s)) ∧ w = w' := by
  by_cases h0 : 0 ≤ s
  · by_cases h1 : s ≤ 6
    · have hs : Hid (scB s = true) := by show _ = _; simp [scB, h0, h1]
      have q0 : decide (0 ≤ s) = true := by simpa using h0
      have q1 : decide (s ≤ 6) = true := by simpa using h1
      go_enter Tryd.func47, Tryd.ntmps47
      go_wp2
      go_ret
      exact ⟨by rw [hs.out]; rfl, rfl⟩
    · have hs : Hid (scB s = false) := by show _ = _; simp [scB, h1]
      have q0 : decide (0 ≤ s) = true := by simpa using h0
      have q1 : decide (s ≤ 6) = false := by simpa using h1
      go_enter Tryd.func47, Tryd.ntmps47
      go_wp2
      go_ret
      exact ⟨by rw [hs.out]; rfl, rfl⟩
  · have hs : Hid (scB s = false) := by show _ = _; simp [scB, h0]
    have q0 : decide (0 ≤ s) = false := by simpa using h0
    go_enter Tryd.func47, Tryd.ntmps47
    go_wp2
    go_ret
    exact ⟨by rw [hs.out]; rfl, rfl⟩
/-- numbers that are ints -/
def i64 (n : Int) : Prop := -9223372036854775808 ≤ n ∧ n ≤ 9223372036854775807
end Go.Proofs.YtmipomglbccjbaaDoor
