/- Words of 64 bits as natural numbers. -/
import Derived.Test.YtamclbagafcmgaaDoorDivMath
import Derived.Laws.Bits64b
import Derived.IntWalk
namespace Go.Proofs.YtamclbagafcmgaaDoor.Dv

theorem wrap_nat (n : Nat) : IntKind.u64.wrap (n : Int) = ((n % 18446744073709551616 : Nat) : Int) := by rw [IntKind.wrap_u64]; omega
theorem wrap_lt (n : Nat) (h : n < 18446744073709551616) : IntKind.u64.wrap (n : Int) = (n : Int) := by rw [wrap_nat, Nat.mod_eq_of_lt h]
theorem pow_cast (s : Nat) : ((2 : Int) ^ s) = ((2 ^ s : Nat) : Int) := by rw [Int.natCast_pow]; rfl
theorem mul_pow (x s : Nat) : (x : Int) * 2 ^ s = ((x * 2 ^ s : Nat) : Int) := by rw [pow_cast, Int.natCast_mul]
theorem div_pow (x s : Nat) : (x : Int) / 2 ^ s = ((x / 2 ^ s : Nat) : Int) := by rw [pow_cast, Int.natCast_ediv]
theorem or_hi (a b s : Nat) (hb : b < 2 ^ s) (h : a * 2 ^ s + b < 18446744073709551616) : bits .or .u64 ((a * 2 ^ s : Nat) : Int) ((b : Nat) : Int) = ((a * 2 ^ s + b : Nat) : Int) := by
  rw [bits_or_u64_nat _ _ (Nat.lt_of_le_of_lt (Nat.le_add_right _ _) h) (Nat.lt_of_le_of_lt (Nat.le_add_left _ _) h)]
  congr 1
  rw [Nat.mul_comm]
  exact (Nat.two_pow_add_eq_or_of_lt hb a).symm
/-- the upper part of the shifted dividend -/
theorem upper (h l y s : Nat) (hs : s ≤ 63) (hy : h < y) (hl : l ≤ 18446744073709551615) (hn : y * 2 ^ s < 18446744073709551616) :
    bits .or .u64 (IntKind.u64.wrap ((h : Int) * 2 ^ s)) ((l : Int) / 2 ^ (64 - s)) = ((h * 2 ^ s + l / 2 ^ (64 - s) : Nat) : Int) ∧ h * 2 ^ s + l / 2 ^ (64 - s) < y * 2 ^ s ∧
    (h * 18446744073709551616 + l) * 2 ^ s = (h * 2 ^ s + l / 2 ^ (64 - s)) * 18446744073709551616 + l * 2 ^ s % 18446744073709551616 := by
  obtain ⟨p1, p2⟩ := pow_dvd s (by omega)
  obtain ⟨a1, a2⟩ := shift_all h l y (2 ^ s) (Nat.pow_pos (by omega)) p1 hy (by omega)
  rw [p2] at a1 a2
  refine ⟨?_, a1, a2⟩
  have hb : l / 2 ^ (64 - s) < 2 ^ s := by
    rw [Nat.div_lt_iff_lt_mul (Nat.pow_pos (by omega)), ← Nat.pow_add, show s + (64 - s) = 64 by omega]; omega
  rw [mul_pow, div_pow, wrap_lt _ (Nat.lt_of_le_of_lt (Nat.le_add_right _ _) (Nat.lt_trans a1 hn))]
  exact or_hi h _ s hb (Nat.lt_trans a1 hn)
/-- the outcome -/
theorem whole (h l y s Y U L y1 y0 u1 u0 M Q1 : Nat) (hY : Y = y * 2 ^ s) (hYe : Y = y1 * 4294967296 + y0) (hN : (h * 18446744073709551616 + l) * 2 ^ s = U * 18446744073709551616 + L) (hL : L = u1 * 4294967296 + u0)
    (h1 : 2147483648 ≤ y1) (h0 : u0 < 4294967296) (hM : M = (U * 4294967296 + u1) % Y) (hQ : Q1 = quo U u1 y1 y0) :
    (h * 18446744073709551616 + l) / y = Q1 * 4294967296 + quo M u0 y1 y0 ∧ (h * 18446744073709551616 + l) % y = (M * 4294967296 + u0) % Y / 2 ^ s := by
  have hS : 0 < 2 ^ s := Nat.pow_pos (by omega)
  obtain ⟨a1, a2⟩ := unshift (h * 18446744073709551616 + l) y (2 ^ s) hS
  have hYp : 0 < Y := by omega
  have hlt := Nat.mod_lt (U * 4294967296 + u1) hYp
  obtain ⟨b1, b2⟩ := two U u1 u0 Y h0 hYp (by omega)
  rw [← hY, hN, hL, ← Nat.add_assoc] at a1 a2
  rw [hQ, hM]
  unfold quo
  rw [← hYe]
  exact ⟨by rw [← a1, b1], by rw [← a2, b2]⟩
end Go.Proofs.YtamclbagafcmgaaDoor.Dv
