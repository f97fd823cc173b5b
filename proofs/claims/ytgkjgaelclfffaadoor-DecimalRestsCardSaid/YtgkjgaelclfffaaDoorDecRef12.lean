/- The reference of layer 2: Div. -/
import Derived.Test.YtgkjgaelclfffaaDoorDecRef11
namespace Go.Proofs.YtgkjgaelclfffaaDoor
open Go.RowKit

/-- Div in plain numbers -/
def divM (a fa b fb t : Int) : Int × Int :=
  if scB fa && scB fb && scB t then (if (b == 0) = true then (0, 21) else ansV (rnd (a.natAbs * 10 ^ (fb + t).toNat) (b.natAbs * 10 ^ fa.toNat)) (decide (a < 0) != decide (b < 0))) else (0, 2)

theorem ref_div_no0 (a fa b fb t : Int) (w : World)  (has : scB fa = false) : Calls Tryd.prog 30 #[.int .i64 a, .int .i64 fa, .int .i64 b, .int .i64 fb, .int .i64 t] w (Ans (divM a fa b fb t) w) := by
  have hm : divM a fa b fb t = (0, 2) := by unfold divM; simp [has]
  have HM := Lib.hid hm
  have HF := Lib.hid has
  clear hm has
  go_enter Tryd.func30, Tryd.ntmps30
  go_wp2_with fail
  refine (ref_scale fa _).mono ?_
  rintro e w1 ⟨rfl, rfl⟩
  rw [HF.out]
  go_wp2
  go_ret2
  exact ⟨by rw [HM.out]; rfl, Below.refl _ _⟩

theorem ref_div_no1 (a fa b fb t : Int) (w : World) (has : scB fa = true) (hbs : scB fb = false) : Calls Tryd.prog 30 #[.int .i64 a, .int .i64 fa, .int .i64 b, .int .i64 fb, .int .i64 t] w (Ans (divM a fa b fb t) w) := by
  have hm : divM a fa b fb t = (0, 2) := by unfold divM; simp [has, hbs]
  have HM := Lib.hid hm
  have HF := Lib.hid has
  have HG := Lib.hid hbs
  clear hm has hbs
  go_enter Tryd.func30, Tryd.ntmps30
  go_wp2_with fail
  refine (ref_scale fa _).mono ?_
  rintro e w1 ⟨rfl, rfl⟩
  rw [HF.out]
  go_wp2_with fail
  refine (ref_scale fb _).mono ?_
  rintro e w1 ⟨rfl, rfl⟩
  rw [HG.out]
  go_wp2
  go_ret2
  exact ⟨by rw [HM.out]; rfl, Below.refl _ _⟩

theorem ref_div_no2 (a fa b fb t : Int) (w : World) (has : scB fa = true) (hbs : scB fb = true) (ht : scB t = false) : Calls Tryd.prog 30 #[.int .i64 a, .int .i64 fa, .int .i64 b, .int .i64 fb, .int .i64 t] w (Ans (divM a fa b fb t) w) := by
  have hm : divM a fa b fb t = (0, 2) := by unfold divM; simp [has, hbs, ht]
  have HM := Lib.hid hm
  have HF := Lib.hid has
  have HG := Lib.hid hbs
  have HT := Lib.hid ht
  clear hm has hbs ht
  go_enter Tryd.func30, Tryd.ntmps30
  go_wp2_with fail
  refine (ref_scale fa _).mono ?_
  rintro e w1 ⟨rfl, rfl⟩
  rw [HF.out]
  go_wp2_with fail
  refine (ref_scale fb _).mono ?_
  rintro e w1 ⟨rfl, rfl⟩
  rw [HG.out]
  go_wp2_with fail
  refine (ref_scale t _).mono ?_
  rintro e w1 ⟨rfl, rfl⟩
  rw [HT.out]
  go_wp2
  go_ret2
  exact ⟨by rw [HM.out]; rfl, Below.refl _ _⟩

theorem ref_div_zero (a fa b fb t : Int) (w : World) (has : scB fa = true) (hbs : scB fb = true) (ht : scB t = true) (q0 : (b == 0) = true) : Calls Tryd.prog 30 #[.int .i64 a, .int .i64 fa, .int .i64 b, .int .i64 fb, .int .i64 t] w (Ans (divM a fa b fb t) w) := by
  have hm : divM a fa b fb t = (0, 21) := by unfold divM; rw [has, hbs, ht, q0]; rfl
  have HM := Lib.hid hm
  have HF := Lib.hid has; have HG := Lib.hid hbs; have HT := Lib.hid ht
  clear hm has hbs ht
  go_enter Tryd.func30, Tryd.ntmps30
  go_wp2_with fail
  refine (ref_scale fa _).mono ?_
  rintro e w1 ⟨rfl, rfl⟩
  rw [HF.out]
  go_wp2_with fail
  refine (ref_scale fb _).mono ?_
  rintro e w1 ⟨rfl, rfl⟩
  rw [HG.out]
  go_wp2_with fail
  refine (ref_scale t _).mono ?_
  rintro e w1 ⟨rfl, rfl⟩
  rw [HT.out]
  go_wp2
  go_ret2
  exact ⟨by rw [HM.out]; rfl, Below.refl _ _⟩

set_option maxHeartbeats 400000 in
theorem ref_div_true_true (a fa b fb t : Int) (w : World) (ha : i64 a) (hb : i64 b) (has : scB fa = true) (hbs : scB fb = true) (ht : scB t = true) (qa : decide (a < 0) = true) (qb : decide (b < 0) = true) (q0 : (b == 0) = false) : Calls Tryd.prog 30 #[.int .i64 a, .int .i64 fa, .int .i64 b, .int .i64 fb, .int .i64 t] w (Ans (divM a fa b fb t) w) := by
  have hm : divM a fa b fb t = ansV (rnd (a.natAbs * 10 ^ (fb + t).toNat) (b.natAbs * 10 ^ fa.toNat)) false := by unfold divM; rw [has, hbs, ht, qa, qb, q0]; rfl
  have HM := Lib.hid hm
  have ia := nd_i64 a ha
  have ib := nd_i64 b hb
  have hb0 : 0 < b.natAbs := by have : b ≠ 0 := by simpa using q0
                                omega
  have HA := Lib.hid ha; have HB := Lib.hid hb
  obtain ⟨f0, f1⟩ := scB_true has
  obtain ⟨g0, g1⟩ := scB_true hbs
  obtain ⟨t0, t1⟩ := scB_true ht
  have HF := Lib.hid has; have HG := Lib.hid hbs; have HT := Lib.hid ht
  clear hm ha hb has hbs ht
  go_enter Tryd.func30, Tryd.ntmps30
  go_wp2_with fail
  refine (ref_scale fa _).mono ?_
  rintro e w1 ⟨rfl, rfl⟩
  rw [HF.out]
  go_wp2_with fail
  refine (ref_scale fb _).mono ?_
  rintro e w1 ⟨rfl, rfl⟩
  rw [HG.out]
  go_wp2_with fail
  refine (ref_scale t _).mono ?_
  rintro e w1 ⟨rfl, rfl⟩
  rw [HT.out]
  go_wp2_with fail
  refine (ref_of a _ HA.out).mono ?_
  rintro e w1 ⟨oa, oc, rfl, hi, hb⟩
  rw [Dm.dg_length] at hi ⊢
  have HOI := Lib.hid hi; have HOB := Lib.hid hb
  clear hi hb
  go_wp2_with fail
  refine (shift_n oa _ oc a.natAbs (fb + t) w1 rfl HOI.out (by omega) (by omega)).mono ?_
  rintro e w2 ⟨sa, sc, rfl, hi, hb⟩
  have is := nd_mul10 a.natAbs (fb + t).toNat
  revert HM hi is
  generalize a.natAbs * 10 ^ (fb + t).toNat = S
  intro HM hi is
  rw [Dm.dg_length] at hi ⊢
  have HSI := Lib.hid hi; have HSB := Lib.hid (HOB.out.trans (hb.mono HOB.out.size))
  clear hi hb HOI HOB
  go_wp2_with fail
  refine (ref_of b _ HB.out).mono ?_
  rintro e w3 ⟨pa, pc, rfl, hi, hb⟩
  rw [Dm.dg_length] at hi ⊢
  have HSI2 := Lib.hid (HSI.out.keep hb); have HPI := Lib.hid hi; have HPB := Lib.hid (HSB.out.trans (hb.mono HSB.out.size))
  clear hi hb HSI HSB
  go_wp2_with fail
  refine (shift_n pa _ pc b.natAbs fa w3 rfl HPI.out (by omega) (by omega)).mono ?_
  rintro e w4 ⟨ua, uc, rfl, hi, hb⟩
  have iu := nd_mul10 b.natAbs fa.toNat
  have hpos : 0 < b.natAbs * 10 ^ fa.toNat := Nat.mul_pos hb0 (Nat.pow_pos (by omega))
  revert HM hi iu hpos
  generalize b.natAbs * 10 ^ fa.toNat = U
  intro HM hi iu hpos
  rw [Dm.dg_length] at hi ⊢
  have HUI := Lib.hid hi; have HUB := Lib.hid (HPB.out.trans (hb.mono HPB.out.size)); have HSI3 := Lib.hid (HSI2.out.keep hb)
  have HPOS := Lib.hid hpos
  clear hi hb hpos HSI2 HPI HPB
  go_wp2_with fail
  refine (round_n sa ua _ _ sc uc S U w4 rfl rfl HSI3.out HUI.out (by omega) (by omega) HPOS.out).mono ?_
  rintro e w6 ⟨va, vc, rfl, hi, hb⟩
  rw [Dm.dg_length] at hi ⊢
  have iv := nd_rnd S U
  have HVI := Lib.hid hi; have HVB := Lib.hid (HUB.out.trans (hb.mono HUB.out.size))
  clear hi hb HUI HSI3 HUB
  go_wp2_with fail
  refine (ref_answer va _ vc (rnd S U) false _ rfl HVI.out (by omega)).mono ?_
  rintro e w7 ⟨rfl, hab⟩
  have HAB := Lib.hid (HVB.out.trans (hab.mono HVB.out.size))
  clear hab
  go_wp2
  go_ret2
  exact ⟨by rw [HM.out]; rfl, HAB.out⟩

set_option maxHeartbeats 400000 in
theorem ref_div_true_false (a fa b fb t : Int) (w : World) (ha : i64 a) (hb : i64 b) (has : scB fa = true) (hbs : scB fb = true) (ht : scB t = true) (qa : decide (a < 0) = true) (qb : decide (b < 0) = false) (q0 : (b == 0) = false) : Calls Tryd.prog 30 #[.int .i64 a, .int .i64 fa, .int .i64 b, .int .i64 fb, .int .i64 t] w (Ans (divM a fa b fb t) w) := by
  have hm : divM a fa b fb t = ansV (rnd (a.natAbs * 10 ^ (fb + t).toNat) (b.natAbs * 10 ^ fa.toNat)) true := by unfold divM; rw [has, hbs, ht, qa, qb, q0]; rfl
  have HM := Lib.hid hm
  have ia := nd_i64 a ha
  have ib := nd_i64 b hb
  have hb0 : 0 < b.natAbs := by have : b ≠ 0 := by simpa using q0
                                omega
  have HA := Lib.hid ha; have HB := Lib.hid hb
  obtain ⟨f0, f1⟩ := scB_true has
  obtain ⟨g0, g1⟩ := scB_true hbs
  obtain ⟨t0, t1⟩ := scB_true ht
  have HF := Lib.hid has; have HG := Lib.hid hbs; have HT := Lib.hid ht
  clear hm ha hb has hbs ht
  go_enter Tryd.func30, Tryd.ntmps30
  go_wp2_with fail
  refine (ref_scale fa _).mono ?_
  rintro e w1 ⟨rfl, rfl⟩
  rw [HF.out]
  go_wp2_with fail
  refine (ref_scale fb _).mono ?_
  rintro e w1 ⟨rfl, rfl⟩
  rw [HG.out]
  go_wp2_with fail
  refine (ref_scale t _).mono ?_
  rintro e w1 ⟨rfl, rfl⟩
  rw [HT.out]
  go_wp2_with fail
  refine (ref_of a _ HA.out).mono ?_
  rintro e w1 ⟨oa, oc, rfl, hi, hb⟩
  rw [Dm.dg_length] at hi ⊢
  have HOI := Lib.hid hi; have HOB := Lib.hid hb
  clear hi hb
  go_wp2_with fail
  refine (shift_n oa _ oc a.natAbs (fb + t) w1 rfl HOI.out (by omega) (by omega)).mono ?_
  rintro e w2 ⟨sa, sc, rfl, hi, hb⟩
  have is := nd_mul10 a.natAbs (fb + t).toNat
  revert HM hi is
  generalize a.natAbs * 10 ^ (fb + t).toNat = S
  intro HM hi is
  rw [Dm.dg_length] at hi ⊢
  have HSI := Lib.hid hi; have HSB := Lib.hid (HOB.out.trans (hb.mono HOB.out.size))
  clear hi hb HOI HOB
  go_wp2_with fail
  refine (ref_of b _ HB.out).mono ?_
  rintro e w3 ⟨pa, pc, rfl, hi, hb⟩
  rw [Dm.dg_length] at hi ⊢
  have HSI2 := Lib.hid (HSI.out.keep hb); have HPI := Lib.hid hi; have HPB := Lib.hid (HSB.out.trans (hb.mono HSB.out.size))
  clear hi hb HSI HSB
  go_wp2_with fail
  refine (shift_n pa _ pc b.natAbs fa w3 rfl HPI.out (by omega) (by omega)).mono ?_
  rintro e w4 ⟨ua, uc, rfl, hi, hb⟩
  have iu := nd_mul10 b.natAbs fa.toNat
  have hpos : 0 < b.natAbs * 10 ^ fa.toNat := Nat.mul_pos hb0 (Nat.pow_pos (by omega))
  revert HM hi iu hpos
  generalize b.natAbs * 10 ^ fa.toNat = U
  intro HM hi iu hpos
  rw [Dm.dg_length] at hi ⊢
  have HUI := Lib.hid hi; have HUB := Lib.hid (HPB.out.trans (hb.mono HPB.out.size)); have HSI3 := Lib.hid (HSI2.out.keep hb)
  have HPOS := Lib.hid hpos
  clear hi hb hpos HSI2 HPI HPB
  go_wp2_with fail
  refine (round_n sa ua _ _ sc uc S U w4 rfl rfl HSI3.out HUI.out (by omega) (by omega) HPOS.out).mono ?_
  rintro e w6 ⟨va, vc, rfl, hi, hb⟩
  rw [Dm.dg_length] at hi ⊢
  have iv := nd_rnd S U
  have HVI := Lib.hid hi; have HVB := Lib.hid (HUB.out.trans (hb.mono HUB.out.size))
  clear hi hb HUI HSI3 HUB
  go_wp2_with fail
  refine (ref_answer va _ vc (rnd S U) true _ rfl HVI.out (by omega)).mono ?_
  rintro e w7 ⟨rfl, hab⟩
  have HAB := Lib.hid (HVB.out.trans (hab.mono HVB.out.size))
  clear hab
  go_wp2
  go_ret2
  exact ⟨by rw [HM.out]; rfl, HAB.out⟩

set_option maxHeartbeats 400000 in
theorem ref_div_false_true (a fa b fb t : Int) (w : World) (ha : i64 a) (hb : i64 b) (has : scB fa = true) (hbs : scB fb = true) (ht : scB t = true) (qa : decide (a < 0) = false) (qb : decide (b < 0) = true) (q0 : (b == 0) = false) : Calls Tryd.prog 30 #[.int .i64 a, .int .i64 fa, .int .i64 b, .int .i64 fb, .int .i64 t] w (Ans (divM a fa b fb t) w) := by
  have hm : divM a fa b fb t = ansV (rnd (a.natAbs * 10 ^ (fb + t).toNat) (b.natAbs * 10 ^ fa.toNat)) true := by unfold divM; rw [has, hbs, ht, qa, qb, q0]; rfl
  have HM := Lib.hid hm
  have ia := nd_i64 a ha
  have ib := nd_i64 b hb
  have hb0 : 0 < b.natAbs := by have : b ≠ 0 := by simpa using q0
                                omega
  have HA := Lib.hid ha; have HB := Lib.hid hb
  obtain ⟨f0, f1⟩ := scB_true has
  obtain ⟨g0, g1⟩ := scB_true hbs
  obtain ⟨t0, t1⟩ := scB_true ht
  have HF := Lib.hid has; have HG := Lib.hid hbs; have HT := Lib.hid ht
  clear hm ha hb has hbs ht
  go_enter Tryd.func30, Tryd.ntmps30
  go_wp2_with fail
  refine (ref_scale fa _).mono ?_
  rintro e w1 ⟨rfl, rfl⟩
  rw [HF.out]
  go_wp2_with fail
  refine (ref_scale fb _).mono ?_
  rintro e w1 ⟨rfl, rfl⟩
  rw [HG.out]
  go_wp2_with fail
  refine (ref_scale t _).mono ?_
  rintro e w1 ⟨rfl, rfl⟩
  rw [HT.out]
  go_wp2_with fail
  refine (ref_of a _ HA.out).mono ?_
  rintro e w1 ⟨oa, oc, rfl, hi, hb⟩
  rw [Dm.dg_length] at hi ⊢
  have HOI := Lib.hid hi; have HOB := Lib.hid hb
  clear hi hb
  go_wp2_with fail
  refine (shift_n oa _ oc a.natAbs (fb + t) w1 rfl HOI.out (by omega) (by omega)).mono ?_
  rintro e w2 ⟨sa, sc, rfl, hi, hb⟩
  have is := nd_mul10 a.natAbs (fb + t).toNat
  revert HM hi is
  generalize a.natAbs * 10 ^ (fb + t).toNat = S
  intro HM hi is
  rw [Dm.dg_length] at hi ⊢
  have HSI := Lib.hid hi; have HSB := Lib.hid (HOB.out.trans (hb.mono HOB.out.size))
  clear hi hb HOI HOB
  go_wp2_with fail
  refine (ref_of b _ HB.out).mono ?_
  rintro e w3 ⟨pa, pc, rfl, hi, hb⟩
  rw [Dm.dg_length] at hi ⊢
  have HSI2 := Lib.hid (HSI.out.keep hb); have HPI := Lib.hid hi; have HPB := Lib.hid (HSB.out.trans (hb.mono HSB.out.size))
  clear hi hb HSI HSB
  go_wp2_with fail
  refine (shift_n pa _ pc b.natAbs fa w3 rfl HPI.out (by omega) (by omega)).mono ?_
  rintro e w4 ⟨ua, uc, rfl, hi, hb⟩
  have iu := nd_mul10 b.natAbs fa.toNat
  have hpos : 0 < b.natAbs * 10 ^ fa.toNat := Nat.mul_pos hb0 (Nat.pow_pos (by omega))
  revert HM hi iu hpos
  generalize b.natAbs * 10 ^ fa.toNat = U
  intro HM hi iu hpos
  rw [Dm.dg_length] at hi ⊢
  have HUI := Lib.hid hi; have HUB := Lib.hid (HPB.out.trans (hb.mono HPB.out.size)); have HSI3 := Lib.hid (HSI2.out.keep hb)
  have HPOS := Lib.hid hpos
  clear hi hb hpos HSI2 HPI HPB
  go_wp2_with fail
  refine (round_n sa ua _ _ sc uc S U w4 rfl rfl HSI3.out HUI.out (by omega) (by omega) HPOS.out).mono ?_
  rintro e w6 ⟨va, vc, rfl, hi, hb⟩
  rw [Dm.dg_length] at hi ⊢
  have iv := nd_rnd S U
  have HVI := Lib.hid hi; have HVB := Lib.hid (HUB.out.trans (hb.mono HUB.out.size))
  clear hi hb HUI HSI3 HUB
  go_wp2_with fail
  refine (ref_answer va _ vc (rnd S U) true _ rfl HVI.out (by omega)).mono ?_
  rintro e w7 ⟨rfl, hab⟩
  have HAB := Lib.hid (HVB.out.trans (hab.mono HVB.out.size))
  clear hab
  go_wp2
  go_ret2
  exact ⟨by rw [HM.out]; rfl, HAB.out⟩

set_option maxHeartbeats 400000 in
theorem ref_div_false_false (a fa b fb t : Int) (w : World) (ha : i64 a) (hb : i64 b) (has : scB fa = true) (hbs : scB fb = true) (ht : scB t = true) (qa : decide (a < 0) = false) (qb : decide (b < 0) = false) (q0 : (b == 0) = false) : Calls Tryd.prog 30 #[.int .i64 a, .int .i64 fa, .int .i64 b, .int .i64 fb, .int .i64 t] w (Ans (divM a fa b fb t) w) := by
  have hm : divM a fa b fb t = ansV (rnd (a.natAbs * 10 ^ (fb + t).toNat) (b.natAbs * 10 ^ fa.toNat)) false := by unfold divM; rw [has, hbs, ht, qa, qb, q0]; rfl
  have HM := Lib.hid hm
  have ia := nd_i64 a ha
  have ib := nd_i64 b hb
  have hb0 : 0 < b.natAbs := by have : b ≠ 0 := by simpa using q0
                                omega
  have HA := Lib.hid ha; have HB := Lib.hid hb
  obtain ⟨f0, f1⟩ := scB_true has
  obtain ⟨g0, g1⟩ := scB_true hbs
  obtain ⟨t0, t1⟩ := scB_true ht
  have HF := Lib.hid has; have HG := Lib.hid hbs; have HT := Lib.hid ht
  clear hm ha hb has hbs ht
  go_enter Tryd.func30, Tryd.ntmps30
  go_wp2_with fail
  refine (ref_scale fa _).mono ?_
  rintro e w1 ⟨rfl, rfl⟩
  rw [HF.out]
  go_wp2_with fail
  refine (ref_scale fb _).mono ?_
  rintro e w1 ⟨rfl, rfl⟩
  rw [HG.out]
  go_wp2_with fail
  refine (ref_scale t _).mono ?_
  rintro e w1 ⟨rfl, rfl⟩
  rw [HT.out]
  go_wp2_with fail
  refine (ref_of a _ HA.out).mono ?_
  rintro e w1 ⟨oa, oc, rfl, hi, hb⟩
  rw [Dm.dg_length] at hi ⊢
  have HOI := Lib.hid hi; have HOB := Lib.hid hb
  clear hi hb
  go_wp2_with fail
  refine (shift_n oa _ oc a.natAbs (fb + t) w1 rfl HOI.out (by omega) (by omega)).mono ?_
  rintro e w2 ⟨sa, sc, rfl, hi, hb⟩
  have is := nd_mul10 a.natAbs (fb + t).toNat
  revert HM hi is
  generalize a.natAbs * 10 ^ (fb + t).toNat = S
  intro HM hi is
  rw [Dm.dg_length] at hi ⊢
  have HSI := Lib.hid hi; have HSB := Lib.hid (HOB.out.trans (hb.mono HOB.out.size))
  clear hi hb HOI HOB
  go_wp2_with fail
  refine (ref_of b _ HB.out).mono ?_
  rintro e w3 ⟨pa, pc, rfl, hi, hb⟩
  rw [Dm.dg_length] at hi ⊢
  have HSI2 := Lib.hid (HSI.out.keep hb); have HPI := Lib.hid hi; have HPB := Lib.hid (HSB.out.trans (hb.mono HSB.out.size))
  clear hi hb HSI HSB
  go_wp2_with fail
  refine (shift_n pa _ pc b.natAbs fa w3 rfl HPI.out (by omega) (by omega)).mono ?_
  rintro e w4 ⟨ua, uc, rfl, hi, hb⟩
  have iu := nd_mul10 b.natAbs fa.toNat
  have hpos : 0 < b.natAbs * 10 ^ fa.toNat := Nat.mul_pos hb0 (Nat.pow_pos (by omega))
  revert HM hi iu hpos
  generalize b.natAbs * 10 ^ fa.toNat = U
  intro HM hi iu hpos
  rw [Dm.dg_length] at hi ⊢
  have HUI := Lib.hid hi; have HUB := Lib.hid (HPB.out.trans (hb.mono HPB.out.size)); have HSI3 := Lib.hid (HSI2.out.keep hb)
  have HPOS := Lib.hid hpos
  clear hi hb hpos HSI2 HPI HPB
  go_wp2_with fail
  refine (round_n sa ua _ _ sc uc S U w4 rfl rfl HSI3.out HUI.out (by omega) (by omega) HPOS.out).mono ?_
  rintro e w6 ⟨va, vc, rfl, hi, hb⟩
  rw [Dm.dg_length] at hi ⊢
  have iv := nd_rnd S U
  have HVI := Lib.hid hi; have HVB := Lib.hid (HUB.out.trans (hb.mono HUB.out.size))
  clear hi hb HUI HSI3 HUB
  go_wp2_with fail
  refine (ref_answer va _ vc (rnd S U) false _ rfl HVI.out (by omega)).mono ?_
  rintro e w7 ⟨rfl, hab⟩
  have HAB := Lib.hid (HVB.out.trans (hab.mono HVB.out.size))
  clear hab
  go_wp2
  go_ret2
  exact ⟨by rw [HM.out]; rfl, HAB.out⟩

theorem ref_div (a fa b fb t : Int) (w : World) (ha : i64 a) (hb : i64 b) : Calls Tryd.prog 30 #[.int .i64 a, .int .i64 fa, .int .i64 b, .int .i64 fb, .int .i64 t] w (Ans (divM a fa b fb t) w) := by
  cases has : scB fa
  · exact ref_div_no0 a fa b fb t w has
  cases hbs : scB fb
  · exact ref_div_no1 a fa b fb t w has hbs
  cases ht : scB t
  · exact ref_div_no2 a fa b fb t w has hbs ht
  cases q0 : (b == 0)
  · cases qa : decide (a < 0)
    · cases qb : decide (b < 0)
      · exact ref_div_false_false a fa b fb t w ha hb has hbs ht qa qb q0
      · exact ref_div_false_true a fa b fb t w ha hb has hbs ht qa qb q0
    · cases qb : decide (b < 0)
      · exact ref_div_true_false a fa b fb t w ha hb has hbs ht qa qb q0
      · exact ref_div_true_true a fa b fb t w ha hb has hbs ht qa qb q0
  · exact ref_div_zero a fa b fb t w has hbs ht q0

end Go.Proofs.YtgkjgaelclfffaaDoor
