/- Division of a number of 128 bits by one of 64: a digit of base 2^32 is estimated, then set right. Plain: no program is named here. -/
import Derived.KernelRfl
import Derived.Lib.BitFns
namespace Go.Proofs.YtfnnhhhkdfgefaaGreatDoor.Dv

/-- what the loop keeps: the estimate q is not too small, r is what it leaves of the upper part -/
def Inv (U u y1 y0 q r : Nat) : Prop := r + q * y1 = U ∧ (U * 4294967296 + u) / (y1 * 4294967296 + y0) ≤ q ∧ q ≤ 4294967297
/-- the digit -/
def quo (U u y1 y0 : Nat) : Nat := (U * 4294967296 + u) / (y1 * 4294967296 + y0)
theorem test_iff (U u y1 y0 q r : Nat) (h : r + q * y1 = U) : 4294967296 * r + u < q * y0 ↔ U * 4294967296 + u < q * (y1 * 4294967296 + y0) := by
  have e : q * (y1 * 4294967296 + y0) = (q * y1) * 4294967296 + q * y0 := by rw [Nat.mul_add, Nat.mul_assoc]
  rw [e]; subst h; omega
theorem quo_lt (U u y1 y0 : Nat) (hU : U < y1 * 4294967296 + y0) (hu : u < 4294967296) : (U * 4294967296 + u) / (y1 * 4294967296 + y0) < 4294967296 := by
  have h : ∀ y, U < y → (U * 4294967296 + u) / y < 4294967296 := by
    intro y hy; rw [Nat.div_lt_iff_lt_mul (by omega)]; omega
  exact h _ hU
theorem start (U u y1 y0 : Nat) (h1 : 2147483648 ≤ y1) (h0 : y0 < 4294967296) (hU : U < y1 * 4294967296 + y0) (hu : u < 4294967296) : Inv U u y1 y0 (U / y1) (U - U / y1 * y1) ∧ U - U / y1 * y1 < y1 := by
  have hy : 0 < y1 := by omega
  have hle : U / y1 * y1 ≤ U := Nat.div_mul_le_self _ _
  have hm := Nat.mod_lt U hy
  have hd := Nat.div_add_mod U y1
  rw [Nat.mul_comm] at hd
  refine ⟨⟨by omega, ?_, ?_⟩, by omega⟩
  · rw [Nat.le_div_iff_mul_le hy]
    have hq := Nat.div_mul_le_self (U * 4294967296 + u) (y1 * 4294967296 + y0)
    generalize (U * 4294967296 + u) / (y1 * 4294967296 + y0) = Q at *
    rw [Nat.mul_add, ← Nat.mul_assoc] at hq
    generalize Q * y1 = a at *
    generalize Q * y0 = b at *
    omega
  · have : U / y1 < 4294967298 := by rw [Nat.div_lt_iff_lt_mul hy]; omega
    omega
/-- the estimate is too great: one less -/
theorem less (U u y1 y0 q r : Nat) (hi : Inv U u y1 y0 q r) (hU : U < y1 * 4294967296 + y0) (hu : u < 4294967296) (_hy1 : 2147483648 ≤ y1) (hc : 4294967296 ≤ q ∨ 4294967296 * r + u < q * y0) : Inv U u y1 y0 (q - 1) (r + y1) ∧ 1 ≤ q := by
  obtain ⟨h1, h2, h3⟩ := hi
  have hq := quo_lt U u y1 y0 hU hu
  have hlt : (U * 4294967296 + u) / (y1 * 4294967296 + y0) < q := by
    rcases hc with hc | hc
    · omega
    · rw [test_iff U u y1 y0 q r h1] at hc
      rw [Nat.div_lt_iff_lt_mul (by omega)]; exact hc
  have hq1 : 1 ≤ q := Nat.lt_of_le_of_lt (Nat.zero_le _) hlt
  refine ⟨⟨?_, Nat.le_sub_one_of_lt hlt, by omega⟩, hq1⟩
  obtain ⟨k, rfl⟩ : ∃ k, q = k + 1 := ⟨q - 1, by omega⟩
  rw [Nat.add_mul, Nat.one_mul] at h1
  simp only [Nat.add_sub_cancel]
  omega
theorem done (U u y1 y0 q r : Nat) (hi : Inv U u y1 y0 q r) (hU : U < y1 * 4294967296 + y0) (hc : q * y0 ≤ 4294967296 * r + u) : q = (U * 4294967296 + u) / (y1 * 4294967296 + y0) := by
  obtain ⟨h1, h2, h3⟩ := hi
  have : ¬ U * 4294967296 + u < q * (y1 * 4294967296 + y0) := fun h => by
    have := (test_iff U u y1 y0 q r h1).2 h; omega
  have hle : q ≤ (U * 4294967296 + u) / (y1 * 4294967296 + y0) := by
    rw [Nat.le_div_iff_mul_le (by omega)]; omega
  omega
theorem prod_le (q y0 : Nat) (hq : q ≤ 4294967297) (h0 : y0 < 4294967296) : q * y0 ≤ 18446744073709551615 := by
  have := Nat.mul_le_mul hq (show y0 ≤ 4294967295 by omega)
  omega
theorem done' (U u y1 y0 q r : Nat) (hi : Inv U u y1 y0 q r) (hU : U < y1 * 4294967296 + y0) (h0 : y0 < 4294967296) (hr : 4294967296 ≤ r) : q = (U * 4294967296 + u) / (y1 * 4294967296 + y0) :=
  done U u y1 y0 q r hi hU (by have := prod_le q y0 hi.2.2 h0; omega)
/-- the two digits together -/
theorem two (U u1 u0 y : Nat) (_hu0 : u0 < 4294967296) (hy : 0 < y) (_hr : (U * 4294967296 + u1) % y * 4294967296 + u0 < y * 4294967296) :
    (U * 18446744073709551616 + u1 * 4294967296 + u0) / y = (U * 4294967296 + u1) / y * 4294967296 + ((U * 4294967296 + u1) % y * 4294967296 + u0) / y ∧
    (U * 18446744073709551616 + u1 * 4294967296 + u0) % y = ((U * 4294967296 + u1) % y * 4294967296 + u0) % y := by
  have e : U * 18446744073709551616 + u1 * 4294967296 + u0 = y * ((U * 4294967296 + u1) / y * 4294967296) + ((U * 4294967296 + u1) % y * 4294967296 + u0) := by
    have := Nat.div_add_mod (U * 4294967296 + u1) y
    rw [← Nat.mul_assoc]
    omega
  rw [e]
  exact ⟨by rw [Nat.mul_add_div hy], by rw [Nat.mul_add_mod]⟩
theorem bitLen_spec : ∀ (k x : Nat), k ≤ 64 → x < 2 ^ k → 0 < x → 1 ≤ Lib.bitLen x ∧ 2 ^ (Lib.bitLen x - 1) ≤ x ∧ x < 2 ^ Lib.bitLen x := by
  intro k
  induction k with
  | zero => intro x _ h h0; simp at h; omega
  | succ k ih =>
    intro x hk h h0
    have hx : x < 2 ^ 64 := Nat.lt_of_lt_of_le h (Nat.pow_le_pow_right (by omega) hk)
    rw [Lib.bitLen_half x (by omega) hx]
    by_cases h1 : x / 2 = 0
    · have : x = 1 := by omega
      subst this
      rw [h1]; decide
    · obtain ⟨a, b, c⟩ := ih (x / 2) (by omega) (by rw [Nat.pow_succ] at h; omega) (by omega)
      have e : 1 + Lib.bitLen (x / 2) - 1 = (Lib.bitLen (x / 2) - 1) + 1 := by omega
      have e2 : 1 + Lib.bitLen (x / 2) = Lib.bitLen (x / 2) + 1 := by omega
      rw [e, e2, Nat.pow_succ, Nat.pow_succ]
      omega
/-- the shift that brings the divisor's first bit to the front -/
theorem shift_spec (y : Nat) (h0 : 0 < y) (h : y ≤ 18446744073709551615) : ∃ s : Nat, s ≤ 63 ∧ (64 : Int) - (Lib.bitLen y : Int) = (s : Int) ∧ 9223372036854775808 ≤ y * 2 ^ s ∧ y * 2 ^ s < 18446744073709551616 := by
  obtain ⟨a, b, c⟩ := bitLen_spec 64 y (by omega) (by omega) h0
  have hl := Lib.bitLen_le y 64 (by omega) (by omega)
  refine ⟨64 - Lib.bitLen y, by omega, by omega, ?_, ?_⟩
  · have := Nat.mul_le_mul_right (2 ^ (64 - Lib.bitLen y)) b
    rw [← Nat.pow_add, show Lib.bitLen y - 1 + (64 - Lib.bitLen y) = 63 by omega] at this
    exact this
  · have := Nat.mul_lt_mul_of_pos_right c (Nat.pow_pos (n := 64 - Lib.bitLen y) (show 0 < 2 by omega))
    rw [← Nat.pow_add, show Lib.bitLen y + (64 - Lib.bitLen y) = 64 by omega] at this
    exact this
/-- the shifted dividend -/
theorem shift_all (h l y S : Nat) (hS : 0 < S) (hd : 18446744073709551616 % S = 0) (hy : h < y) (hl : l < 18446744073709551616) :
    h * S + l / (18446744073709551616 / S) < y * S ∧ (h * 18446744073709551616 + l) * S = (h * S + l / (18446744073709551616 / S)) * 18446744073709551616 + l * S % 18446744073709551616 := by
  obtain ⟨T, hT⟩ : ∃ T, 18446744073709551616 = T * S := ⟨18446744073709551616 / S, (Nat.div_mul_cancel (Nat.dvd_of_mod_eq_zero hd)).symm⟩
  have hT0 : 0 < T := by
    rcases Nat.eq_zero_or_pos T with e | e
    · subst e; omega
    · exact e
  have e1 : 18446744073709551616 / S = T := by rw [hT, Nat.mul_div_cancel _ hS]
  rw [e1]
  have hq : l / T < S := by rw [Nat.div_lt_iff_lt_mul hT0, Nat.mul_comm, ← hT]; exact hl
  have e2 : l * S % 18446744073709551616 = l % T * S := by
    rw [hT, Nat.mul_mod_mul_right]
  refine ⟨?_, ?_⟩
  · have := Nat.mul_le_mul_right S (show h + 1 ≤ y by omega)
    rw [Nat.add_mul, Nat.one_mul] at this
    omega
  · rw [e2]
    have hlt := Nat.div_add_mod l T
    have e3 : l * S = l / T * (T * S) + l % T * S := by
      conv => lhs; rw [← hlt]
      rw [Nat.add_mul, Nat.mul_comm T, Nat.mul_assoc]
    rw [Nat.add_mul, Nat.add_mul, e3, ← hT, Nat.mul_right_comm]
    omega
theorem pow_dvd (s : Nat) (h : s ≤ 64) : 18446744073709551616 % 2 ^ s = 0 ∧ 18446744073709551616 / 2 ^ s = 2 ^ (64 - s) := by
  have e : 18446744073709551616 = 2 ^ (64 - s) * 2 ^ s := by rw [← Nat.pow_add, show 64 - s + s = 64 by omega]
  rw [e]
  exact ⟨Nat.mul_mod_left _ _, Nat.mul_div_cancel _ (Nat.pow_pos (by omega))⟩
/-- back from the shifted to the plain -/
theorem unshift (N y S : Nat) (hS : 0 < S) : (N * S) / (y * S) = N / y ∧ (N * S) % (y * S) / S = N % y := by
  rw [Nat.mul_div_mul_right _ _ hS, Nat.mul_mod_mul_right, Nat.mul_div_cancel _ hS]
  exact ⟨rfl, rfl⟩
end Go.Proofs.YtfnnhhhkdfgefaaGreatDoor.Dv
