/- Package decimal: shifted in one; Mul, Rescale. -/
import Derived.Test.YtgkjgaelclfffaaDoorDecA4
namespace Go.Proofs.YtgkjgaelclfffaaDoor
open Go.RowKit

theorem lit3 (w : World) (x y z : Int) : IntC (.slice (some ⟨w.heap.size, 0, none⟩) 3 3) [x, y, z] (w.alloc (.cells #[.int .i64 x, .int .i64 y, .int .i64 z] 3)) := by
  refine .inr ⟨w.heap.size, 0, 3, rfl, Nat.le_refl _, by simp, ?_⟩
  intro j hj
  have hj3 : j = 0 ∨ j = 1 ∨ j = 2 := by simp at hj; omega
  rcases hj3 with rfl | rfl | rfl <;> simp [World.cell?_alloc_new]
theorem lit2 (w : World) (x y : Int) : IntC (.slice (some ⟨w.heap.size, 0, none⟩) 2 2) [x, y] (w.alloc (.cells #[.int .i64 x, .int .i64 y] 3)) := by
  refine .inr ⟨w.heap.size, 0, 2, rfl, Nat.le_refl _, by simp, ?_⟩
  intro j hj
  have hj3 : j = 0 ∨ j = 1 := by simp at hj; omega
  rcases hj3 with rfl | rfl <;> simp [World.cell?_alloc_new]

theorem all3 (x y z : Int) : allB [x, y, z] = (scB x && (scB y && scB z)) := by simp [allB]
theorem all2 (x y : Int) : allB [x, y] = (scB x && scB y) := by simp [allB]

/-- shifted in plain numbers -/
def shM (n : Nat) (x : Int) : Nat := if x < 0 then rnd n (10 ^ (-x).toNat) else if 18446744073709551616 ≤ n then n else n * 10 ^ x.toNat

theorem dec_shifted (h l n : Nat) (x : Int) (w : World) (hw : Wd h l n) (h1 : -19 ≤ x) (h2 : x ≤ 19) :
    Calls Tryd.prog 54 #[.agg #[.int .u64 (h : Int), .int .u64 (l : Int)], .int .i64 x] w (WideR (shM n x) w) := by
  unfold shM
  by_cases hx : x < 0
  · rw [if_pos hx]
    exact dec_shifted_neg h l n (-x).toNat x w hw (by omega) (by omega) (by omega)
  · rw [if_neg hx]
    obtain ⟨a, b, c⟩ := id hw
    by_cases hn : 18446744073709551616 ≤ n
    · rw [if_pos hn]
      exact dec_shifted_big h l n x w hw (by omega) (by omega)
    · rw [if_neg hn]
      have h0 : h = 0 := by omega
      subst h0
      have e : l = n := by omega
      subst e
      exact dec_shifted_pos l x.toNat x w c (by omega) (by omega)

theorem rnd_scale (n m c : Nat) (hc : 0 < c) : rnd (n * c) (m * c) = rnd n m := by
  unfold rnd
  rw [Nat.mul_mod_mul_right, Nat.mul_div_mul_right _ _ hc, ← Nat.mul_assoc]
  by_cases h : m ≤ 2 * (n % m)
  · rw [if_pos h, if_pos (Nat.mul_le_mul_right c h)]
  · rw [if_neg h, if_neg (fun h' => h (Nat.le_of_mul_le_mul_right h' hc))]
theorem rnd_one (n : Nat) : rnd n 1 = n := by unfold rnd; rw [Nat.mod_one]; simp
theorem ansV_big (n : Nat) (s : Bool) (h : 9223372036854775808 < n) : ansV n s = (0, 20) := by
  unfold ansV; cases s
  · rw [if_neg (by decide), if_neg (by omega)]
  · rw [if_pos rfl, if_neg (by omega)]
/-- shifting, then the sign: as rounding the product -/
theorem sh_eq (n f t : Nat) (s : Bool) : ansV (shM n ((t : Int) - (f : Int))) s = ansV (rnd (n * 10 ^ t) (10 ^ f)) s := by
  unfold shM
  by_cases h : (t : Int) - (f : Int) < 0
  · rw [if_pos h]
    obtain ⟨k, rfl⟩ : ∃ k, f = k + t := ⟨f - t, by omega⟩
    rw [Nat.pow_add, rnd_scale _ _ _ (Nat.pow_pos (by omega)), show (-((t : Int) - ((k + t : Nat) : Int))).toNat = k by omega]
  · rw [if_neg h]
    obtain ⟨k, rfl⟩ : ∃ k, t = k + f := ⟨t - f, by omega⟩
    have e : rnd (n * 10 ^ (k + f)) (10 ^ f) = n * 10 ^ k := by
      have := rnd_scale (n * 10 ^ k) 1 (10 ^ f) (Nat.pow_pos (by omega))
      rw [Nat.one_mul, rnd_one, Nat.mul_assoc, ← Nat.pow_add] at this
      exact this
    rw [e, show (((k + f : Nat) : Int) - (f : Int)).toNat = k by omega]
    by_cases hn : 18446744073709551616 ≤ n
    · rw [if_pos hn, ansV_big n s (by omega), ansV_big (n * 10 ^ k) s]
      have := Nat.mul_le_mul_left n (Nat.pow_pos (n := k) (show 0 < 10 by omega))
      omega
    · rw [if_neg hn]
theorem mul_eq (a fa b fb t : Int) (hs : allB [fa, fb, t] = true) : ansV (shM (a.natAbs * b.natAbs) (t - fa - fb)) (decide (a < 0) != decide (b < 0)) = mulM a fa b fb t := by
  rw [all3] at hs
  simp only [Bool.and_eq_true] at hs
  obtain ⟨h1, h2, h3⟩ := hs
  unfold mulM
  rw [h1, h2, h3]
  obtain ⟨p1, _⟩ := scB_true h1
  obtain ⟨p2, _⟩ := scB_true h2
  obtain ⟨p3, _⟩ := scB_true h3
  have := sh_eq (a.natAbs * b.natAbs) (fa + fb).toNat t.toNat (decide (a < 0) != decide (b < 0))
  rw [show ((t.toNat : Nat) : Int) - (((fa + fb).toNat : Nat) : Int) = t - fa - fb by omega] at this
  rw [this, Nat.one_mul]
  rfl

theorem dec_mul_no (a fa b fb t : Int) (w : World) (hs : allB [fa, fb, t] = false) : Calls Tryd.prog 27 #[.int .i64 a, .int .i64 fa, .int .i64 b, .int .i64 fb, .int .i64 t] w (Ans (mulM a fa b fb t) w) := by
  have hm : mulM a fa b fb t = (0, 2) := by
    rw [all3] at hs
    unfold mulM
    cases h1 : scB fa <;> cases h2 : scB fb <;> cases h3 : scB t <;> simp_all
  have HM := Lib.hid hm; have HS := Lib.hid hs
  clear hm hs
  go_enter Tryd.func27, Tryd.ntmps27
  go_wp2_with fail
  refine (dec_allRight _ 3 3 [fa, fb, t] _ rfl (lit3 w fa fb t) (by omega)).mono ?_
  rintro e w1 ⟨rfl, rfl⟩
  rw [HS.out]
  go_wp2
  go_ret2
  exact ⟨by rw [HM.out]; rfl, (Below.refl _ _).alloc (Nat.le_refl _) _⟩

theorem natAbs_lt (a : Int) (h : i64 a) : a.natAbs < 18446744073709551616 := by unfold i64 at h; omega

set_option maxHeartbeats 1000000 in
theorem dec_mul_yes (a fa b fb t : Int) (sa sb : Bool) (w : World) (ha : i64 a) (hb : i64 b) (hs : allB [fa, fb, t] = true) (qa : decide (a < 0) = sa) (qb : decide (b < 0) = sb) :
    Calls Tryd.prog 27 #[.int .i64 a, .int .i64 fa, .int .i64 b, .int .i64 fb, .int .i64 t] w (Ans (mulM a fa b fb t) w) := by
  have hm := mul_eq a fa b fb t hs
  rw [qa, qb] at hm
  have hf : (0 ≤ fa ∧ fa ≤ 6) ∧ (0 ≤ fb ∧ fb ≤ 6) ∧ (0 ≤ t ∧ t ≤ 6) := by
    rw [all3] at hs
    simp only [Bool.and_eq_true] at hs
    exact ⟨scB_true hs.1, scB_true hs.2.1, scB_true hs.2.2⟩
  obtain ⟨⟨f1, f2⟩, ⟨g1, g2⟩, ⟨t1, t2⟩⟩ := hf
  have HM := Lib.hid hm; have HS := Lib.hid hs
  have HA := Lib.hid (dec_mag a · ha); have HB := Lib.hid (dec_mag b · hb)
  have LA := Lib.hid (natAbs_lt a ha); have LB := Lib.hid (natAbs_lt b hb)
  clear hm hs ha hb
  cases sa <;> cases sb
  all_goals
    go_enter Tryd.func27, Tryd.ntmps27
    go_wp2_with fail
    refine (dec_allRight _ 3 3 [fa, fb, t] _ rfl (lit3 w fa fb t) (by omega)).mono ?_
    rintro e w1 ⟨rfl, rfl⟩
    rw [HS.out]
    go_wp2_with fail
    refine (HA.out _).mono ?_
    rintro e w1 ⟨rfl, rfl⟩
    go_wp2_with fail
    refine (HB.out _).mono ?_
    rintro e w1 ⟨rfl, rfl⟩
    clear HA HB
    revert HM LA LB
    generalize a.natAbs = A
    generalize b.natAbs = B
    intro LA LB HM
    go_wp2_with fail
    refine (dec_product A B _ LA.out LB.out).mono ?_
    rintro e w1 ⟨h1, l1, rfl, hwd, hbl⟩
    have HW := Lib.hid hwd; have HBL := Lib.hid hbl
    clear hwd hbl
    go_wp2_with fail
    refine (dec_shifted h1 l1 _ (t - fa - fb) _ HW.out (by omega) (by omega)).mono ?_
    rintro e w2 ⟨h2, l2, rfl, hwd, hbl⟩
    have HW2 := Lib.hid hwd; have HBL2 := Lib.hid (HBL.out.trans (hbl.mono HBL.out.size))
    clear hwd hbl HW HBL
    go_wp2_with fail
    refine (dec_signed h2 l2 _ _ _ HW2.out).mono ?_
    rintro e w3 ⟨rfl, hbl⟩
    have HB3 := Lib.hid (((HBL2.out.alloc HBL2.out.size _).trans (hbl.mono (by have := HBL2.out.size; simp at *; omega))))
    clear hbl HW2 HBL2
    go_wp2
    go_ret2
    exact ⟨by rw [← HM.out]; rfl, (((Below.refl _ _).alloc (Nat.le_refl _) _)).trans (HB3.out.mono (by simp))⟩

theorem dec_mul (a fa b fb t : Int) (w : World) (ha : i64 a) (hb : i64 b) :
    Calls Tryd.prog 27 #[.int .i64 a, .int .i64 fa, .int .i64 b, .int .i64 fb, .int .i64 t] w (Ans (mulM a fa b fb t) w) := by
  cases hs : allB [fa, fb, t]
  · exact dec_mul_no a fa b fb t w hs
  · exact dec_mul_yes a fa b fb t _ _ w ha hb hs rfl rfl

theorem dec_rescale (n f t : Int) (w : World) (hn : i64 n) : Calls Tryd.prog 19 #[.int .i64 n, .int .i64 f, .int .i64 t] w (Ans (mulM n f 1 0 t) w) := by
  have HN := Lib.hid (dec_mul n f 1 0 t · hn (by unfold i64; omega))
  clear hn
  revert HN
  generalize mulM n f 1 0 t = p
  intro HN
  go_enter Tryd.func19, Tryd.ntmps19
  go_wp2_with fail
  refine (HN.out _).mono ?_
  rintro e w1 ⟨rfl, hb⟩
  have HB := Lib.hid hb
  clear hb
  go_wp2
  go_ret2
  exact ⟨rfl, HB.out⟩
end Go.Proofs.YtgkjgaelclfffaaDoor
