/- Package decimal: Right, magnitude, power, product; cmp.Compare at uint64. -/
import Derived.Test.YtfnnhhhkdfgefaaGreatDoorDiv64
import Derived.Test.YtfnnhhhkdfgefaaGreatDoorDecRb
namespace Go.Proofs.YtfnnhhhkdfgefaaGreatDoor
open Go.RowKit

theorem dec_right (s : Int) (w : World) : Calls Tryz.prog 32 #[.int .i64 s] w fun e w' => e = .returned (.bool (scB s)) ∧ w = w' := by
  by_cases h0 : 0 ≤ s
  · have h0' : decide (0 ≤ s) = true := by simpa using h0
    have hs : scB s = decide (s ≤ 6) := by unfold scB; rw [h0']; rfl
    have HS := Lib.hid hs
    clear hs
    go_enter Tryz.func32, Tryz.ntmps32
    go_wp2
    go_ret
    exact ⟨by rw [HS.out]; rfl, rfl⟩
  · have h0' : decide (0 ≤ s) = false := by simpa using h0
    have hs : scB s = false := by unfold scB; rw [h0']; rfl
    have HS := Lib.hid hs
    clear hs
    go_enter Tryz.func32, Tryz.ntmps32
    go_wp2
    go_ret
    exact ⟨by rw [HS.out]; rfl, rfl⟩
theorem ret_u64 {a b : Int} (h : a = b) : Ending.returned (.int .u64 a) = .returned (.int .u64 b) := by rw [h]
theorem dec_mag (n : Int) (w : World) (hn : i64 n) : Calls Tryz.prog 60 #[.int .i64 n] w fun e w' => e = .returned (.int .u64 (n.natAbs : Int)) ∧ w = w' := by
  have h1 := hn.1
  have h2 := hn.2
  clear hn
  by_cases h0 : n < 0
  · have h0' : decide (n < 0) = true := by simpa using h0
    go_enter Tryz.func60, Tryz.ntmps60
    go_wp2
    go_ret
    exact ⟨ret_u64 (by simp only [IntKind.wrap_u64]; omega), rfl⟩
  · have h0' : decide (n < 0) = false := by simpa using h0
    go_enter Tryz.func60, Tryz.ntmps60
    go_wp2
    go_ret
    exact ⟨ret_u64 (by first | omega | (simp only [IntKind.wrap_u64]; omega)), rfl⟩
theorem pow10_le (k : Nat) (h : k ≤ 19) : 10 ^ k ≤ 10000000000000000000 :=
  Nat.le_trans (Nat.pow_le_pow_right (by omega) h) (by decide)
theorem dec_power (k : Nat) (w : World) (hk : k ≤ 19) : Calls Tryz.prog 61 #[.int .i64 (k : Int)] w fun e w' => e = .returned (.int .u64 ((10 ^ k : Nat) : Int)) ∧ w = w' := by
  go_enter Tryz.func61, Tryz.ntmps61
  go_wp2
  go_loop [3, 5] (fun a i => ∃ j p : Nat, j ≤ k ∧ i = .int .i64 (j : Int) ∧ a = .int .u64 (p : Int) ∧ Hid (p = 10 ^ j)) (fun _ i => k - (Lib.intOf i).toNat)
  case atStart => exact ⟨0, 1, Nat.zero_le _, rfl, rfl, rfl⟩
  case round =>
    obtain ⟨j, p, hj, rfl, rfl, HP⟩ := hrel
    by_cases hlt : j < k
    · have hp : (p : Int) ≤ 1000000000000000000 := by
        have := Nat.pow_le_pow_right (n := 10) (by omega) (show j ≤ 18 by omega)
        rw [← HP.out] at this
        omega
      go_wp2
      go_round
      case rel => exact ⟨j + 1, p * 10, by omega, by go_num, by go_num, by show p * 10 = 10 ^ (j + 1); rw [Nat.pow_succ, HP.out]⟩
      case measure => simp [Lib.intOf]; omega
    · go_wp2
      go_ret
      exact ⟨ret_u64 (by rw [HP.out, show j = k by omega]; simp), rfl⟩
/-- a number of 128 bits in two words -/
def Wd (h l n : Nat) : Prop := h * 18446744073709551616 + l = n ∧ h < 18446744073709551616 ∧ l < 18446744073709551616
/-- what a function that answers a number of 128 bits leaves -/
def WideR (n : Nat) (w : World) (e : Ending) (w' : World) : Prop :=
  ∃ h l : Nat, e = .returned (.agg #[.int .u64 (h : Int), .int .u64 (l : Int)]) ∧ Wd h l n ∧ Below w.heap.size w w'
theorem Wd.of (n : Nat) (h : n < 340282366920938463463374607431768211456) : Wd (n / 18446744073709551616) (n % 18446744073709551616) n := by
  refine ⟨by omega, by omega, by omega⟩
theorem mul_lt_128 (a b : Nat) (ha : a < 18446744073709551616) (hb : b < 18446744073709551616) : a * b < 340282366920938463463374607431768211456 := by
  have := Nat.mul_le_mul (show a ≤ 18446744073709551615 by omega) (show b ≤ 18446744073709551615 by omega)
  omega
theorem dec_product (a b : Nat) (w : World) (ha : a < 18446744073709551616) (hb : b < 18446744073709551616) : Calls Tryz.prog 59 #[.int .u64 (a : Int), .int .u64 (b : Int)] w (WideR (a * b) w) := by
  have HA := Lib.hid ha; have HB := Lib.hid hb
  clear ha hb
  go_enter Tryz.func59, Tryz.ntmps59
  go_wp2_with fail
  refine (Tryz.bits_Mul64 a b HA.out HB.out _).mono ?_
  rintro e w' ⟨rfl, rfl⟩
  have hw := Lib.hid (Wd.of (a * b) (mul_lt_128 a b HA.out HB.out))
  revert hw
  generalize a * b / 18446744073709551616 = h
  generalize a * b % 18446744073709551616 = l
  intro hw
  go_wp2
  exact bodyPost_ret (v := .agg #[.int .u64 (h : Int), .int .u64 (l : Int)]) (by simp [results, Tryz.results59, go_sem]) rfl ⟨h, l, rfl, hw.out, (Below.refl _ _).alloc (Nat.le_refl _) _⟩
/-- how two numbers compare -/
theorem cmp_u64 (a b : Nat) (w : World) : Calls Tryz.prog 76 #[.int .u64 (a : Int), .int .u64 (b : Int)] w fun e w' => e = .returned (.int .i64 (Dm.cmp a b)) ∧ w = w' := by
  rcases Nat.lt_trichotomy a b with h | h | h
  · have hd : Dm.cmp a b = -1 := by unfold Dm.cmp; rw [if_pos h]
    have HD := Lib.hid hd
    clear hd
    go_enter Tryz.func76, Tryz.ntmps76
    go_wp2
    go_ret
    exact ⟨by rw [HD.out]; rfl, rfl⟩
  · have hd : Dm.cmp a b = 0 := by unfold Dm.cmp; rw [if_neg (by omega), if_neg (by omega)]
    have HD := Lib.hid hd
    have h1 : ¬ a < b := by omega
    have h2 : ¬ b < a := by omega
    clear hd h
    go_enter Tryz.func76, Tryz.ntmps76
    go_wp2
    go_ret
    exact ⟨by rw [HD.out]; rfl, rfl⟩
  · have hd : Dm.cmp a b = 1 := by unfold Dm.cmp; rw [if_neg (by omega), if_pos h]
    have HD := Lib.hid hd
    have h1 : ¬ a < b := by omega
    clear hd
    go_enter Tryz.func76, Tryz.ntmps76
    go_wp2
    go_ret
    exact ⟨by rw [HD.out]; rfl, rfl⟩
end Go.Proofs.YtfnnhhhkdfgefaaGreatDoor
