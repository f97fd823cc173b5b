/- The reference of layer 2: answer, Scale, the number of digits. -/
import Derived.Test.YtgkjgaelclfffaaDoorDecRef7
namespace Go.Proofs.YtgkjgaelclfffaaDoor
open Go.RowKit

/-- a number with a sign, and the error -/
def ansV (A : Nat) (minus : Bool) : Int × Int :=
  if minus then (if A ≤ 9223372036854775808 then (-(A : Int), 0) else (0, 20)) else (if A ≤ 9223372036854775807 then ((A : Int), 0) else (0, 20))
/-- what a function that answers a number and an error leaves -/
def Ans (p : Int × Int) (w : World) (e : Ending) (w' : World) : Prop := e = .returned (.tuple #[.int .i64 p.1, .int .i64 p.2]) ∧ Below w.heap.size w w'

set_option maxHeartbeats 1000000 in
theorem ref_answer (a0 : Option Addr) (n0 c0 A : Nat) (minus : Bool) (w : World) (e0 : n0 = Dm.nd A) (h0 : IntC (.slice a0 n0 c0) (Dm.dg A) w) (hA : n0 ≤ 1000) :
    Calls Tryd.prog 43 #[.slice a0 n0 c0, .bool minus] w (Ans (ansV A minus) w) := by
  subst e0
  have H0 := Lib.hid h0
  clear h0
  cases minus
  · by_cases hle : A ≤ 9223372036854775807
    · have e1 : inAns A 9223372036854775807 (A : Int) = .tuple #[.int .i64 (A : Int), .bool true] := if_pos hle
      have e2 : ansV A false = ((A : Int), 0) := by simp [ansV, hle]
      have E1 := Lib.hid e1; have E2 := Lib.hid e2
      clear e1 e2
      go_enter Tryd.func43, Tryd.ntmps43
      go_wp2_with fail
      refine (ref_int_false a0 c0 A _ H0.out hA).mono ?_
      rintro e w1 ⟨rfl, hb⟩
      have HB := Lib.hid hb
      clear hb
      rw [E1.out]
      go_wp2
      go_ret2
      exact ⟨by rw [E2.out]; rfl, HB.out⟩
    · have e1 : inAns A 9223372036854775807 (A : Int) = .tuple #[.int .i64 0, .bool false] := if_neg hle
      have e2 : ansV A false = (0, 20) := by simp [ansV, hle]
      have E1 := Lib.hid e1; have E2 := Lib.hid e2
      clear e1 e2
      go_enter Tryd.func43, Tryd.ntmps43
      go_wp2_with fail
      refine (ref_int_false a0 c0 A _ H0.out hA).mono ?_
      rintro e w1 ⟨rfl, hb⟩
      have HB := Lib.hid hb
      clear hb
      rw [E1.out]
      go_wp2
      go_ret2
      exact ⟨by rw [E2.out]; rfl, HB.out⟩
  · by_cases hle : A ≤ 9223372036854775808
    · have e1 : inAns A 9223372036854775808 (-(A : Int)) = .tuple #[.int .i64 (-(A : Int)), .bool true] := if_pos hle
      have e2 : ansV A true = (-(A : Int), 0) := by simp [ansV, hle]
      have E1 := Lib.hid e1; have E2 := Lib.hid e2
      clear e1 e2
      go_enter Tryd.func43, Tryd.ntmps43
      go_wp2_with fail
      refine (ref_int_true a0 c0 A _ H0.out hA).mono ?_
      rintro e w1 ⟨rfl, hb⟩
      have HB := Lib.hid hb
      clear hb
      rw [E1.out]
      go_wp2
      go_ret2
      exact ⟨by rw [E2.out]; rfl, HB.out⟩
    · have e1 : inAns A 9223372036854775808 (-(A : Int)) = .tuple #[.int .i64 0, .bool false] := if_neg hle
      have e2 : ansV A true = (0, 20) := by simp [ansV, hle]
      have E1 := Lib.hid e1; have E2 := Lib.hid e2
      clear e1 e2
      go_enter Tryd.func43, Tryd.ntmps43
      go_wp2_with fail
      refine (ref_int_true a0 c0 A _ H0.out hA).mono ?_
      rintro e w1 ⟨rfl, hb⟩
      have HB := Lib.hid hb
      clear hb
      rw [E1.out]
      go_wp2
      go_ret2
      exact ⟨by rw [E2.out]; rfl, HB.out⟩

/-- a valid scale -/
def scB (s : Int) : Bool := decide (0 ≤ s) && decide (s ≤ 6)
theorem scB_true {s : Int} (h : scB s = true) : 0 ≤ s ∧ s ≤ 6 := by simpa [scB] using h
theorem ref_scale (s : Int) (w : World) : Calls Tryd.prog 18 #[.int .i64 s] w fun e w' => e = .returned (.bool (scB s)) ∧ w = w' := by
  by_cases h0 : 0 ≤ s
  · by_cases h1 : s ≤ 6
    · have hs : Hid (scB s = true) := by show _ = _; simp [scB, h0, h1]
      have q0 : decide (0 ≤ s) = true := by simpa using h0
      have q1 : decide (s ≤ 6) = true := by simpa using h1
      go_enter Tryd.func18, Tryd.ntmps18
      go_wp2
      go_ret
      exact ⟨by rw [hs.out]; rfl, rfl⟩
    · have hs : Hid (scB s = false) := by show _ = _; simp [scB, h1]
      have q0 : decide (0 ≤ s) = true := by simpa using h0
      have q1 : decide (s ≤ 6) = false := by simpa using h1
      go_enter Tryd.func18, Tryd.ntmps18
      go_wp2
      go_ret
      exact ⟨by rw [hs.out]; rfl, rfl⟩
  · have hs : Hid (scB s = false) := by show _ = _; simp [scB, h0]
    have q0 : decide (0 ≤ s) = false := by simpa using h0
    go_enter Tryd.func18, Tryd.ntmps18
    go_wp2
    go_ret
    exact ⟨by rw [hs.out]; rfl, rfl⟩

/-- numbers that are ints -/
def i64 (n : Int) : Prop := -9223372036854775808 ≤ n ∧ n ≤ 9223372036854775807
theorem nd_i64 (n : Int) (h : i64 n) : Dm.nd n.natAbs ≤ 19 := by
  unfold i64 at h
  refine Dm.nd_le _ 19 ?_
  have : (10 : Nat) ^ 19 = 10000000000000000000 := by decide +kernel
  omega
theorem nd_mul10 (A k : Nat) : Dm.nd (A * 10 ^ k) ≤ Dm.nd A + k := by
  refine Dm.nd_le _ _ ?_
  rw [Nat.pow_add]
  exact Nat.mul_lt_mul_of_pos_right (Dm.nd_spec A).1 (Nat.pow_pos (by omega))

theorem shift_n (a : Option Addr) (n c A : Nat) (k : Int) (w : World) (e0 : n = Dm.nd A) (h : IntC (.slice a n c) (Dm.dg A) w) (hA : n ≤ 1000) (hk : 0 ≤ k ∧ k ≤ 1000) :
    Calls Tryd.prog 44 #[.slice a n c, .int .i64 k] w (Made (Dm.dg (A * 10 ^ k.toNat)) w) := by
  subst e0
  obtain ⟨m, rfl⟩ : ∃ m : Nat, k = (m : Int) := ⟨k.toNat, by omega⟩
  rw [Int.toNat_natCast]
  exact ref_shift a c A m w h hA (by omega)
theorem round_n (a0 a1 : Option Addr) (n0 n1 c0 c1 A B : Nat) (w : World) (e0 : n0 = Dm.nd A) (e1 : n1 = Dm.nd B) (h0 : IntC (.slice a0 n0 c0) (Dm.dg A) w) (h1 : IntC (.slice a1 n1 c1) (Dm.dg B) w) (hA : n0 ≤ 200) (hB : n1 ≤ 200) (hB0 : 0 < B) :
    Calls Tryd.prog 46 #[.slice a0 n0 c0, .slice a1 n1 c1] w (Made (Dm.dg (rnd A B)) w) := by
  subst e0 e1; exact ref_round a0 a1 c0 c1 A B w h0 h1 hA hB hB0
theorem rnd_le (A B : Nat) : rnd A B ≤ A + 1 := by
  unfold rnd
  have := Nat.div_le_self A B
  split <;> omega

end Go.Proofs.YtgkjgaelclfffaaDoor
