/- Package decimal: Div. -/
import Derived.Test.YtgkjgaelclfffaaDoorDecA6
namespace Go.Proofs.YtgkjgaelclfffaaDoor
open Go.RowKit

theorem rnd_div (A B M : Nat) (hB : 0 < B) (hM : M % 2 = 0) : rnd (A / B) M = rnd A (B * M) := by
  unfold rnd
  rw [Nat.div_div_eq_div_mul, Nat.mod_mul]
  obtain ⟨m, rfl⟩ : ∃ m, M = 2 * m := ⟨M / 2, by omega⟩
  have hr := Nat.mod_lt A hB
  generalize A / B % (2 * m) = s
  generalize A % B = r at *
  have e : B * (2 * m) = 2 * (B * m) := by rw [Nat.mul_left_comm]
  rw [e]
  by_cases h : m ≤ s
  · have := Nat.mul_le_mul_left B h
    rw [if_pos (by omega), if_pos (by omega)]
  · have := Nat.mul_le_mul_left B (show s + 1 ≤ m by omega)
    rw [Nat.mul_add, Nat.mul_one] at this
    rw [if_neg (by omega), if_neg (by omega)]

theorem pow10_even (k : Nat) (h : 1 ≤ k) : 10 ^ k % 2 = 0 := by
  obtain ⟨j, rfl⟩ : ∃ j, k = j + 1 := ⟨k - 1, by omega⟩
  rw [Nat.pow_succ]; omega

theorem div_pos_eq (A B f p : Nat) (hA : A < 18446744073709551616) (h : f ≤ p) : rnd (shM A ((p : Int) - (f : Int))) B = rnd (A * 10 ^ p) (B * 10 ^ f) := by
  unfold shM
  rw [if_neg (by omega), if_neg (by omega)]
  obtain ⟨k, rfl⟩ : ∃ k, p = k + f := ⟨p - f, by omega⟩
  rw [show (((k + f : Nat) : Int) - (f : Int)).toNat = k by omega, Nat.pow_add, ← Nat.mul_assoc, rnd_scale _ _ _ (Nat.pow_pos (by omega))]
theorem div_neg_eq (A B f p : Nat) (hB : 0 < B) (h : p < f) : shM (A / B) ((p : Int) - (f : Int)) = rnd (A * 10 ^ p) (B * 10 ^ f) := by
  unfold shM
  rw [if_pos (by omega)]
  obtain ⟨k, rfl⟩ : ∃ k, f = k + p := ⟨f - p, by omega⟩
  rw [show (-((p : Int) - ((k + p : Nat) : Int))).toNat = k by omega, Nat.pow_add, ← Nat.mul_assoc, rnd_scale _ _ _ (Nat.pow_pos (by omega)), rnd_div _ _ _ hB (pow10_even k (by omega))]

theorem div_model (a fa b fb t : Int) (hs : allB [fa, fb, t] = true) (hb : (b == 0) = false) (ha : i64 a) :
    (0 ≤ t + fb - fa → ansV (rnd (shM a.natAbs (t + fb - fa)) b.natAbs) (decide (a < 0) != decide (b < 0)) = divM a fa b fb t) ∧
    (t + fb - fa < 0 → ansV (shM (a.natAbs / b.natAbs) (t + fb - fa)) (decide (a < 0) != decide (b < 0)) = divM a fa b fb t) := by
  rw [all3] at hs
  simp only [Bool.and_eq_true] at hs
  obtain ⟨h1, h2, h3⟩ := hs
  unfold divM
  rw [h1, h2, h3, hb]
  obtain ⟨p1, _⟩ := scB_true h1
  obtain ⟨p2, _⟩ := scB_true h2
  obtain ⟨p3, _⟩ := scB_true h3
  have e : t + fb - fa = (((fb + t).toNat : Nat) : Int) - ((fa.toNat : Nat) : Int) := by omega
  have hb0 : 0 < b.natAbs := by simp at hb; omega
  refine ⟨fun h => ?_, fun h => ?_⟩
  · rw [e, div_pos_eq _ _ _ _ (natAbs_lt a ha) (by omega)]; rfl
  · rw [e, div_neg_eq _ _ _ _ hb0 (by omega)]; rfl

theorem dec_div_no (a fa b fb t : Int) (w : World) (hs : allB [fa, fb, t] = false) : Calls Tryd.prog 29 #[.int .i64 a, .int .i64 fa, .int .i64 b, .int .i64 fb, .int .i64 t] w (Ans (divM a fa b fb t) w) := by
  have hm : divM a fa b fb t = (0, 2) := by
    rw [all3] at hs
    unfold divM
    cases h1 : scB fa <;> cases h2 : scB fb <;> cases h3 : scB t <;> simp_all
  have HM := Lib.hid hm; have HS := Lib.hid hs
  clear hm hs
  go_enter Tryd.func29, Tryd.ntmps29
  go_wp2_with fail
  refine (dec_allRight _ 3 3 [fa, fb, t] _ rfl (lit3 w fa fb t) (by omega)).mono ?_
  rintro e w1 ⟨rfl, rfl⟩
  rw [HS.out]
  go_wp2
  go_ret2
  exact ⟨by rw [HM.out]; rfl, (Below.refl _ _).alloc (Nat.le_refl _) _⟩

theorem dec_div_zero (a fa b fb t : Int) (w : World) (hs : allB [fa, fb, t] = true) (hb : (b == 0) = true) : Calls Tryd.prog 29 #[.int .i64 a, .int .i64 fa, .int .i64 b, .int .i64 fb, .int .i64 t] w (Ans (divM a fa b fb t) w) := by
  have hm : divM a fa b fb t = (0, 21) := by
    rw [all3] at hs
    simp only [Bool.and_eq_true] at hs
    unfold divM
    rw [hs.1, hs.2.1, hs.2.2, hb]; rfl
  have HM := Lib.hid hm; have HS := Lib.hid hs
  clear hm hs
  go_enter Tryd.func29, Tryd.ntmps29
  go_wp2_with fail
  refine (dec_allRight _ 3 3 [fa, fb, t] _ rfl (lit3 w fa fb t) (by omega)).mono ?_
  rintro e w1 ⟨rfl, rfl⟩
  rw [HS.out]
  go_wp2
  go_ret2
  exact ⟨by rw [HM.out]; rfl, (Below.refl _ _).alloc (Nat.le_refl _) _⟩

theorem wd_small (A : Nat) (h : A < 18446744073709551616) : Wd 0 A A := ⟨by omega, by omega, h⟩

set_option maxHeartbeats 1000000 in
theorem dec_div_pos (a fa b fb t : Int) (sa sb : Bool) (w : World) (ha : i64 a) (hb : i64 b) (hs : allB [fa, fb, t] = true) (q0 : (b == 0) = false) (hp : 0 ≤ t + fb - fa) (qa : decide (a < 0) = sa) (qb : decide (b < 0) = sb) :
    Calls Tryd.prog 29 #[.int .i64 a, .int .i64 fa, .int .i64 b, .int .i64 fb, .int .i64 t] w (Ans (divM a fa b fb t) w) := by
  have hm := (div_model a fa b fb t hs q0 ha).1 hp
  rw [qa, qb] at hm
  have hf : (0 ≤ fa ∧ fa ≤ 6) ∧ (0 ≤ fb ∧ fb ≤ 6) ∧ (0 ≤ t ∧ t ≤ 6) := by
    rw [all3] at hs
    simp only [Bool.and_eq_true] at hs
    exact ⟨scB_true hs.1, scB_true hs.2.1, scB_true hs.2.2⟩
  obtain ⟨⟨f1, f2⟩, ⟨g1, g2⟩, ⟨t1, t2⟩⟩ := hf
  have HM := Lib.hid hm; have HS := Lib.hid hs
  have HA := Lib.hid (dec_mag a · ha); have HB := Lib.hid (dec_mag b · hb)
  have LA := Lib.hid (natAbs_lt a ha); have LB := Lib.hid (natAbs_lt b hb)
  have PB : Hid (0 < b.natAbs) := by show 0 < b.natAbs; simp at q0; omega
  have hp' : decide (0 ≤ t + fb - fa) = true := by simpa using hp
  clear hm hs ha hb
  cases sa <;> cases sb
  all_goals
    go_enter Tryd.func29, Tryd.ntmps29
    go_wp2_with fail
    refine (dec_allRight _ 3 3 [fa, fb, t] _ rfl (lit3 w fa fb t) (by omega)).mono ?_
    rintro e w1 ⟨rfl, rfl⟩
    rw [HS.out]
    go_wp2_with fail
    refine (HA.out _).mono ?_
    rintro e w1 ⟨rfl, rfl⟩
    clear HA
    go_wp2_with fail
    refine (dec_shifted 0 a.natAbs a.natAbs (t + fb - fa) _ (wd_small _ LA.out) (by omega) (by omega)).mono ?_
    rintro e w2 ⟨h1, l1, rfl, hwd, hbl⟩
    have HW := Lib.hid hwd; have HBL := Lib.hid hbl
    obtain ⟨hc, hf⟩ := bcell hbl
    have hz : w.heap.size + 1 < w2.heap.size := by have := hbl.size; simp at this; omega
    clear hwd hbl
    go_wp2_with fail
    refine (HB.out _).mono ?_
    rintro e w3 ⟨rfl, rfl⟩
    clear HB
    go_wp2_with fail
    refine (dec_rounded h1 l1 _ b.natAbs _ HW.out PB.out LB.out).mono ?_
    rintro e w4 ⟨h2, l2, rfl, hwd, hbl⟩
    have HW2 := Lib.hid hwd; have HB2 := Lib.hid ((((Below.refl _ _).alloc (Nat.le_refl _) _).alloc (by simp) _).trans ((HBL.out.trans (hbl.mono HBL.out.size)).mono (by simp; omega)))
    obtain ⟨hc2, hf2⟩ := bcell hbl
    have hz2 : w.heap.size + 1 < w4.heap.size := by have := hbl.size; omega
    clear hwd hbl HW HBL
    go_wp2_with fail
    refine (dec_signed h2 l2 _ _ _ HW2.out).mono ?_
    rintro e w5 ⟨rfl, hbl⟩
    have HB3 := Lib.hid (((HB2.out.setCell (by simp) _).setCell (by simp) _).trans (hbl.mono (by have := HB2.out.size; simp at *; omega)))
    clear hbl HW2 HB2 hc2 hf2 hc hf
    go_wp2
    go_ret2
    exact ⟨by rw [← HM.out]; rfl, HB3.out⟩
end Go.Proofs.YtgkjgaelclfffaaDoor
