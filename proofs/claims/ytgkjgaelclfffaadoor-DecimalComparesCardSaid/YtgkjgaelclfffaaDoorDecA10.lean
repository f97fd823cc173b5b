/- Package decimal: Compare. -/
import Derived.Test.YtgkjgaelclfffaaDoorDecA5
import Derived.Test.YtgkjgaelclfffaaDoorDecA6
namespace Go.Proofs.YtgkjgaelclfffaaDoor
open Go.RowKit

theorem dec_compare_no (a fa b fb : Int) (w : World) (hs : allB [fa, fb] = false) : Calls Tryd.prog 21 #[.int .i64 a, .int .i64 fa, .int .i64 b, .int .i64 fb] w (Num (compM a fa b fb) w) := by
  have hm : compM a fa b fb = 0 := by
    rw [all2] at hs
    unfold compM
    rw [hs]; rfl
  have HM := Lib.hid hm; have HS := Lib.hid hs
  clear hm hs
  go_enter Tryd.func21, Tryd.ntmps21
  go_wp2_with fail
  refine (dec_allRight _ 2 2 [fa, fb] _ rfl (lit2 w fa fb) (by omega)).mono ?_
  rintro e w1 ⟨rfl, rfl⟩
  rw [HS.out]
  go_wp2
  go_ret
  exact ⟨by rw [HM.out]; rfl, (Below.refl _ _).alloc (Nat.le_refl _) _⟩

set_option maxHeartbeats 400000 in
theorem dec_compare_signs (a fa b fb : Int) (sa sb : Bool) (w : World) (hs : allB [fa, fb] = true) (qa : decide (a < 0) = sa) (qb : decide (b < 0) = sb) (hne : sa ≠ sb) : Calls Tryd.prog 21 #[.int .i64 a, .int .i64 fa, .int .i64 b, .int .i64 fb] w (Num (compM a fa b fb) w) := by
  have hm : compM a fa b fb = Lib.compareInt a b := by
    rw [all2] at hs
    unfold compM Lib.compareInt
    rw [hs, qa, qb]
    cases sa <;> cases sb
    · exact absurd rfl hne
    · simp at qa qb ⊢; omega
    · simp at qa qb ⊢; omega
    · exact absurd rfl hne
  have HM := Lib.hid hm; have HS := Lib.hid hs
  clear hm hs
  cases sa <;> cases sb
  · exact absurd rfl hne
  all_goals first | (exact absurd rfl hne) | skip
  all_goals
    clear hne
    go_enter Tryd.func21, Tryd.ntmps21
    go_wp2_with fail
    refine (dec_allRight _ 2 2 [fa, fb] _ rfl (lit2 w fa fb) (by omega)).mono ?_
    rintro e w1 ⟨rfl, rfl⟩
    rw [HS.out]
    go_wp2_with fail
    refine (Tryd.cmp_Compare_int a b _).mono ?_
    rintro e w1 ⟨rfl, rfl⟩
    go_wp2
    go_ret
    exact ⟨by rw [HM.out]; rfl, (Below.refl _ _).alloc (Nat.le_refl _) _⟩

set_option maxHeartbeats 1000000 in
theorem dec_compare_same (a fa b fb : Int) (s : Bool) (w : World) (ha : i64 a) (hb : i64 b) (hs : allB [fa, fb] = true) (qa : decide (a < 0) = s) (qb : decide (b < 0) = s) : Calls Tryd.prog 21 #[.int .i64 a, .int .i64 fa, .int .i64 b, .int .i64 fb] w (Num (compM a fa b fb) w) := by
  have hf : (0 ≤ fa ∧ fa ≤ 6) ∧ (0 ≤ fb ∧ fb ≤ 6) := by
    rw [all2] at hs
    simp only [Bool.and_eq_true] at hs
    exact ⟨scB_true hs.1, scB_true hs.2⟩
  obtain ⟨⟨f1, f2⟩, ⟨g1, g2⟩⟩ := hf
  have hm : compM a fa b fb = if s then -(Dm.cmp (a.natAbs * 10 ^ fb.toNat) (b.natAbs * 10 ^ fa.toNat)) else Dm.cmp (a.natAbs * 10 ^ fb.toNat) (b.natAbs * 10 ^ fa.toNat) := by
    rw [all2] at hs
    unfold compM
    rw [hs, qa, qb]
    cases s <;> rfl
  have HM := Lib.hid hm; have HS := Lib.hid hs
  have HA := Lib.hid (dec_mag a · ha); have HB := Lib.hid (dec_mag b · hb)
  have LA := Lib.hid (natAbs_lt a ha); have LB := Lib.hid (natAbs_lt b hb)
  obtain ⟨ka, rfl⟩ : ∃ k : Nat, fa = (k : Int) := ⟨fa.toNat, by omega⟩
  obtain ⟨kb, rfl⟩ : ∃ k : Nat, fb = (k : Int) := ⟨fb.toNat, by omega⟩
  simp only [Int.toNat_natCast] at HM
  have HPA := Lib.hid (dec_power ka · (by omega)); have HPB := Lib.hid (dec_power kb · (by omega))
  have LPA := Lib.hid (pow10_lt ka (by omega)); have LPB := Lib.hid (pow10_lt kb (by omega))
  clear hm hs ha hb
  revert HM HPA HPB LPA LPB HA HB LA LB
  generalize 10 ^ ka = pa
  generalize 10 ^ kb = pb
  generalize a.natAbs = A
  generalize b.natAbs = B
  intro HA HB LA LB HM HPA HPB LPA LPB
  cases s
  all_goals
    go_enter Tryd.func21, Tryd.ntmps21
    go_wp2_with fail
    refine (dec_allRight _ 2 2 [(ka : Int), (kb : Int)] _ rfl (lit2 w _ _) (by omega)).mono ?_
    rintro e w1 ⟨rfl, rfl⟩
    rw [HS.out]
    go_wp2_with fail
    refine (HA.out _).mono ?_
    rintro e w1 ⟨rfl, rfl⟩
    clear HA
    go_wp2_with fail
    refine (HPB.out _).mono ?_
    rintro e w1 ⟨rfl, rfl⟩
    clear HPB
    go_wp2_with fail
    refine (dec_product A pb _ LA.out LPB.out).mono ?_
    rintro e w1 ⟨h1, l1, rfl, hwd, hbl⟩
    have HW := Lib.hid hwd; have HBL := Lib.hid hbl
    clear hwd hbl
    go_wp2_with fail
    refine (HB.out _).mono ?_
    rintro e w2 ⟨rfl, rfl⟩
    clear HB
    go_wp2_with fail
    refine (HPA.out _).mono ?_
    rintro e w2 ⟨rfl, rfl⟩
    clear HPA
    go_wp2_with fail
    refine (dec_product B pa _ LB.out LPA.out).mono ?_
    rintro e w2 ⟨h2, l2, rfl, hwd, hbl⟩
    have HW2 := Lib.hid hwd; have HBL2 := Lib.hid (HBL.out.trans (hbl.mono HBL.out.size))
    clear hwd hbl HBL
    go_wp2_with fail
    refine (dec_wcompare h1 l1 _ h2 l2 _ _ HW.out HW2.out).mono ?_
    rintro e w3 ⟨rfl, hbl⟩
    have HB3 := Lib.hid (HBL2.out.trans (hbl.mono HBL2.out.size))
    have hc := cmp_le (A * pb) (B * pa)
    clear hbl HW HW2 HBL2
    revert HM hc
    generalize Dm.cmp (A * pb) (B * pa) = c
    intro HM hc
    obtain ⟨hc1, hc2⟩ := hc
    go_wp2
    go_ret
    exact ⟨by rw [HM.out]; rfl, ((Below.refl _ _).alloc (Nat.le_refl _) _).trans (HB3.out.mono (by simp))⟩

theorem dec_compare (a fa b fb : Int) (w : World) (ha : i64 a) (hb : i64 b) : Calls Tryd.prog 21 #[.int .i64 a, .int .i64 fa, .int .i64 b, .int .i64 fb] w (Num (compM a fa b fb) w) := by
  cases hs : allB [fa, fb]
  · exact dec_compare_no a fa b fb w hs
  · by_cases hq : decide (a < 0) = decide (b < 0)
    · exact dec_compare_same a fa b fb _ w ha hb hs rfl hq.symm
    · exact dec_compare_signs a fa b fb _ _ w hs rfl rfl hq
end Go.Proofs.YtgkjgaelclfffaaDoor
