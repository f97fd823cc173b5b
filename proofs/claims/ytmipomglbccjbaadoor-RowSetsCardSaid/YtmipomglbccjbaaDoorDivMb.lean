/- Division of a number of 128 bits by one of 64: a digit of base 2^32 is estimated, then set right. Plain: no program is named here. -/
import Derived.KernelRfl
import Derived.Lib.BitFns
import Derived.Laws.Bits64b
import Derived.IntWalk
namespace Go.Proofs.YtmipomglbccjbaaDoor.Dv

/-- what the loop keeps: the estimate q is not too small, r is what it leaves of the upper part -/
def Inv (U u y1 y0 q r : Nat) : Prop := r + q * y1 = U ∧ (U * 4294967296 + u) / (y1 * 4294967296 + y0) ≤ q ∧ q ≤ 4294967297
theorem test_iff (U u y1 y0 q r : Nat) (h : r + q * y1 = U) : 4294967296 * r + u < q * y0 ↔ U * 4294967296 + u < q * (y1 * 4294967296 + y0) := by
  have e : q * (y1 * 4294967296 + y0) = (q * y1) * 4294967296 + q * y0 := by rw [Nat.mul_add, Nat.mul_assoc]
  rw [e]; subst h; omega
theorem start (U u y1 y0 : Nat) (h1 : 2147483648 ≤ y1) (h0 : y0 < 4294967296) (hU : U < y1 * 4294967296 + y0) (hu : u < 4294967296) : Inv U u y1 y0 (U / y1) (U - U / y1 * y1) ∧ U - U / y1 * y1 < y1 := by
  have hy : 0 < y1 := by omega
  have hle : U / y1 * y1 ≤ U := Nat.div_mul_le_self _ _
  have hm := Nat.mod_lt U hy
  have hd := Nat.div_add_mod U y1
  rw [Nat.mul_comm] at hd
  refine ⟨⟨by omega, ?_, ?_⟩, by omega⟩
  · rw [Nat.le_div_iff_mul_le hy]
    have hq := Nat.div_mul_le_self (U * 4294967296 + u) (y1 * 4294967296 + y0)
    generalize (U * 4294967296 + u) / (y1 * 4294967296 + y0) = Q at *
    rw [Nat.mul_add, ← Nat.mul_assoc] at hq
    generalize Q * y1 = a at *
    generalize Q * y0 = b at *
    omega
  · have : U / y1 < 4294967298 := by rw [Nat.div_lt_iff_lt_mul hy]; omega
    omega
theorem done (U u y1 y0 q r : Nat) (hi : Inv U u y1 y0 q r) (hU : U < y1 * 4294967296 + y0) (hc : q * y0 ≤ 4294967296 * r + u) : q = (U * 4294967296 + u) / (y1 * 4294967296 + y0) := by
  obtain ⟨h1, h2, h3⟩ := hi
  have : ¬ U * 4294967296 + u < q * (y1 * 4294967296 + y0) := fun h => by
    have := (test_iff U u y1 y0 q r h1).2 h; omega
  have hle : q ≤ (U * 4294967296 + u) / (y1 * 4294967296 + y0) := by
    rw [Nat.le_div_iff_mul_le (by omega)]; omega
  omega
/-- the two digits together -/
theorem two (U u1 u0 y : Nat) (_hu0 : u0 < 4294967296) (hy : 0 < y) (_hr : (U * 4294967296 + u1) % y * 4294967296 + u0 < y * 4294967296) :
    (U * 18446744073709551616 + u1 * 4294967296 + u0) / y = (U * 4294967296 + u1) / y * 4294967296 + ((U * 4294967296 + u1) % y * 4294967296 + u0) / y ∧
    (U * 18446744073709551616 + u1 * 4294967296 + u0) % y = ((U * 4294967296 + u1) % y * 4294967296 + u0) % y := by
  have e : U * 18446744073709551616 + u1 * 4294967296 + u0 = y * ((U * 4294967296 + u1) / y * 4294967296) + ((U * 4294967296 + u1) % y * 4294967296 + u0) := by
    have := Nat.div_add_mod (U * 4294967296 + u1) y
    rw [← Nat.mul_assoc]
    omega
  rw [e]
  exact ⟨by rw [Nat.mul_add_div hy], by rw [Nat.mul_add_mod]⟩
/-- the shifted dividend -/
theorem shift_all (h l y S : Nat) (hS : 0 < S) (hd : 18446744073709551616 % S = 0) (hy : h < y) (hl : l < 18446744073709551616) :
    h * S + l / (18446744073709551616 / S) < y * S ∧ (h * 18446744073709551616 + l) * S = (h * S + l / (18446744073709551616 / S)) * 18446744073709551616 + l * S % 18446744073709551616 := by
  obtain ⟨T, hT⟩ : ∃ T, 18446744073709551616 = T * S := ⟨18446744073709551616 / S, (Nat.div_mul_cancel (Nat.dvd_of_mod_eq_zero hd)).symm⟩
  have hT0 : 0 < T := by
    rcases Nat.eq_zero_or_pos T with e | e
    · subst e; omega
    · exact e
  have e1 : 18446744073709551616 / S = T := by rw [hT, Nat.mul_div_cancel _ hS]
  rw [e1]
  have hq : l / T < S := by rw [Nat.div_lt_iff_lt_mul hT0, Nat.mul_comm, ← hT]; exact hl
  have e2 : l * S % 18446744073709551616 = l % T * S := by
    rw [hT, Nat.mul_mod_mul_right]
  refine ⟨?_, ?_⟩
  · have := Nat.mul_le_mul_right S (show h + 1 ≤ y by omega)
    rw [Nat.add_mul, Nat.one_mul] at this
    omega
  · rw [e2]
    have hlt := Nat.div_add_mod l T
    have e3 : l * S = l / T * (T * S) + l % T * S := by
      conv => lhs; rw [← hlt]
      rw [Nat.add_mul, Nat.mul_comm T, Nat.mul_assoc]
    rw [Nat.add_mul, Nat.add_mul, e3, ← hT, Nat.mul_right_comm]
    omega
theorem pow_dvd (s : Nat) (h : s ≤ 64) : 18446744073709551616 % 2 ^ s = 0 ∧ 18446744073709551616 / 2 ^ s = 2 ^ (64 - s) := by
  have e : 18446744073709551616 = 2 ^ (64 - s) * 2 ^ s := by rw [← Nat.pow_add, show 64 - s + s = 64 by omega]
  rw [e]
  exact ⟨Nat.mul_mod_left _ _, Nat.mul_div_cancel _ (Nat.pow_pos (by omega))⟩
end Go.Proofs.YtmipomglbccjbaaDoor.Dv
/- Words of 64 bits as natural numbers. -/
namespace Go.Proofs.YtmipomglbccjbaaDoor.Dv

theorem wrap_nat (n : Nat) : IntKind.u64.wrap (n : Int) = ((n % 18446744073709551616 : Nat) : Int) := by rw [IntKind.wrap_u64]; omega
theorem wrap_lt (n : Nat) (h : n < 18446744073709551616) : IntKind.u64.wrap (n : Int) = (n : Int) := by rw [wrap_nat, Nat.mod_eq_of_lt h]
theorem pow_cast (s : Nat) : ((2 : Int) ^ s) = ((2 ^ s : Nat) : Int) := by rw [Int.natCast_pow]; rfl
theorem mul_pow (x s : Nat) : (x : Int) * 2 ^ s = ((x * 2 ^ s : Nat) : Int) := by rw [pow_cast, Int.natCast_mul]
theorem div_pow (x s : Nat) : (x : Int) / 2 ^ s = ((x / 2 ^ s : Nat) : Int) := by rw [pow_cast, Int.natCast_ediv]
theorem or_hi (a b s : Nat) (hb : b < 2 ^ s) (h : a * 2 ^ s + b < 18446744073709551616) : bits .or .u64 ((a * 2 ^ s : Nat) : Int) ((b : Nat) : Int) = ((a * 2 ^ s + b : Nat) : Int) := by
  rw [bits_or_u64_nat _ _ (Nat.lt_of_le_of_lt (Nat.le_add_right _ _) h) (Nat.lt_of_le_of_lt (Nat.le_add_left _ _) h)]
  congr 1
  rw [Nat.mul_comm]
  exact (Nat.two_pow_add_eq_or_of_lt hb a).symm
/-- the upper part of the shifted dividend -/
theorem upper (h l y s : Nat) (hs : s ≤ 63) (hy : h < y) (hl : l ≤ 18446744073709551615) (hn : y * 2 ^ s < 18446744073709551616) :
    bits .or .u64 (IntKind.u64.wrap ((h : Int) * 2 ^ s)) ((l : Int) / 2 ^ (64 - s)) = ((h * 2 ^ s + l / 2 ^ (64 - s) : Nat) : Int) ∧ h * 2 ^ s + l / 2 ^ (64 - s) < y * 2 ^ s ∧
    (h * 18446744073709551616 + l) * 2 ^ s = (h * 2 ^ s + l / 2 ^ (64 - s)) * 18446744073709551616 + l * 2 ^ s % 18446744073709551616 := by
  obtain ⟨p1, p2⟩ := pow_dvd s (by omega)
  obtain ⟨a1, a2⟩ := shift_all h l y (2 ^ s) (Nat.pow_pos (by omega)) p1 hy (by omega)
  rw [p2] at a1 a2
  refine ⟨?_, a1, a2⟩
  have hb : l / 2 ^ (64 - s) < 2 ^ s := by
    rw [Nat.div_lt_iff_lt_mul (Nat.pow_pos (by omega)), ← Nat.pow_add, show s + (64 - s) = 64 by omega]; omega
  rw [mul_pow, div_pow, wrap_lt _ (Nat.lt_of_le_of_lt (Nat.le_add_right _ _) (Nat.lt_trans a1 hn))]
  exact or_hi h _ s hb (Nat.lt_trans a1 hn)
end Go.Proofs.YtmipomglbccjbaaDoor.Dv
