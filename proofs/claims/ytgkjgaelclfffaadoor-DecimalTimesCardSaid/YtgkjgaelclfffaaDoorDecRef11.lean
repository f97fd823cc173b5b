/- The reference of layer 2: Mul. -/
import Derived.Test.YtgkjgaelclfffaaDoorDecRef10
namespace Go.Proofs.YtgkjgaelclfffaaDoor
open Go.RowKit

/-- Mul in plain numbers -/
def mulM (a fa b fb t : Int) : Int × Int :=
  if scB fa && scB fb && scB t then ansV (rnd (a.natAbs * b.natAbs * 10 ^ t.toNat) (1 * 10 ^ (fa + fb).toNat)) (decide (a < 0) != decide (b < 0)) else (0, 2)

theorem nd_rnd (S U : Nat) : Dm.nd (rnd S U) ≤ Dm.nd S + 1 := by
  refine Dm.nd_le _ _ ?_
  have h1 := rnd_le S U
  have h2 := (Dm.nd_spec S).1
  have h3 : 0 < 10 ^ Dm.nd S := Nat.pow_pos (by omega)
  rw [Nat.pow_succ]
  omega
theorem times_n (a0 a1 : Option Addr) (n0 n1 c0 c1 A B : Nat) (w : World) (e0 : n0 = Dm.nd A) (e1 : n1 = Dm.nd B) (h0 : IntC (.slice a0 n0 c0) (Dm.dg A) w) (h1 : IntC (.slice a1 n1 c1) (Dm.dg B) w) (hA : n0 ≤ 200) (hB : n1 ≤ 200) :
    Calls Tryd.prog 56 #[.slice a0 n0 c0, .slice a1 n1 c1] w (Made (Dm.dg (A * B)) w) := by
  subst e0 e1; exact ref_times a0 a1 c0 c1 A B w h0 h1 hA hB

theorem ref_mul_no0 (a fa b fb t : Int) (w : World)  (has : scB fa = false) : Calls Tryd.prog 28 #[.int .i64 a, .int .i64 fa, .int .i64 b, .int .i64 fb, .int .i64 t] w (Ans (mulM a fa b fb t) w) := by
  have hm : mulM a fa b fb t = (0, 2) := by unfold mulM; simp [has]
  have HM := Lib.hid hm
  have HF := Lib.hid has
  clear hm has
  go_enter Tryd.func28, Tryd.ntmps28
  go_wp2_with fail
  refine (ref_scale fa _).mono ?_
  rintro e w1 ⟨rfl, rfl⟩
  rw [HF.out]
  go_wp2
  go_ret2
  exact ⟨by rw [HM.out]; rfl, Below.refl _ _⟩

theorem ref_mul_no1 (a fa b fb t : Int) (w : World) (has : scB fa = true) (hbs : scB fb = false) : Calls Tryd.prog 28 #[.int .i64 a, .int .i64 fa, .int .i64 b, .int .i64 fb, .int .i64 t] w (Ans (mulM a fa b fb t) w) := by
  have hm : mulM a fa b fb t = (0, 2) := by unfold mulM; simp [has, hbs]
  have HM := Lib.hid hm
  have HF := Lib.hid has
  have HG := Lib.hid hbs
  clear hm has hbs
  go_enter Tryd.func28, Tryd.ntmps28
  go_wp2_with fail
  refine (ref_scale fa _).mono ?_
  rintro e w1 ⟨rfl, rfl⟩
  rw [HF.out]
  go_wp2_with fail
  refine (ref_scale fb _).mono ?_
  rintro e w1 ⟨rfl, rfl⟩
  rw [HG.out]
  go_wp2
  go_ret2
  exact ⟨by rw [HM.out]; rfl, Below.refl _ _⟩

theorem ref_mul_no2 (a fa b fb t : Int) (w : World) (has : scB fa = true) (hbs : scB fb = true) (ht : scB t = false) : Calls Tryd.prog 28 #[.int .i64 a, .int .i64 fa, .int .i64 b, .int .i64 fb, .int .i64 t] w (Ans (mulM a fa b fb t) w) := by
  have hm : mulM a fa b fb t = (0, 2) := by unfold mulM; simp [has, hbs, ht]
  have HM := Lib.hid hm
  have HF := Lib.hid has
  have HG := Lib.hid hbs
  have HT := Lib.hid ht
  clear hm has hbs ht
  go_enter Tryd.func28, Tryd.ntmps28
  go_wp2_with fail
  refine (ref_scale fa _).mono ?_
  rintro e w1 ⟨rfl, rfl⟩
  rw [HF.out]
  go_wp2_with fail
  refine (ref_scale fb _).mono ?_
  rintro e w1 ⟨rfl, rfl⟩
  rw [HG.out]
  go_wp2_with fail
  refine (ref_scale t _).mono ?_
  rintro e w1 ⟨rfl, rfl⟩
  rw [HT.out]
  go_wp2
  go_ret2
  exact ⟨by rw [HM.out]; rfl, Below.refl _ _⟩

set_option maxHeartbeats 400000 in
theorem ref_mul_true_true (a fa b fb t : Int) (w : World) (ha : i64 a) (hb : i64 b) (has : scB fa = true) (hbs : scB fb = true) (ht : scB t = true) (qa : decide (a < 0) = true) (qb : decide (b < 0) = true) : Calls Tryd.prog 28 #[.int .i64 a, .int .i64 fa, .int .i64 b, .int .i64 fb, .int .i64 t] w (Ans (mulM a fa b fb t) w) := by
  have hm : mulM a fa b fb t = ansV (rnd (a.natAbs * b.natAbs * 10 ^ t.toNat) (1 * 10 ^ (fa + fb).toNat)) false := by unfold mulM; simp [has, hbs, ht, qa, qb]
  have HM := Lib.hid hm
  have ia := nd_i64 a ha
  have ib := nd_i64 b hb
  have HA := Lib.hid ha; have HB := Lib.hid hb
  obtain ⟨f0, f1⟩ := scB_true has
  obtain ⟨g0, g1⟩ := scB_true hbs
  obtain ⟨t0, t1⟩ := scB_true ht
  have HF := Lib.hid has; have HG := Lib.hid hbs; have HT := Lib.hid ht
  clear hm ha hb has hbs ht
  go_enter Tryd.func28, Tryd.ntmps28
  go_wp2_with fail
  refine (ref_scale fa _).mono ?_
  rintro e w1 ⟨rfl, rfl⟩
  rw [HF.out]
  go_wp2_with fail
  refine (ref_scale fb _).mono ?_
  rintro e w1 ⟨rfl, rfl⟩
  rw [HG.out]
  go_wp2_with fail
  refine (ref_scale t _).mono ?_
  rintro e w1 ⟨rfl, rfl⟩
  rw [HT.out]
  go_wp2_with fail
  refine (ref_of a _ HA.out).mono ?_
  rintro e w1 ⟨oa, oc, rfl, hi, hb⟩
  rw [Dm.dg_length] at hi ⊢
  have HOI := Lib.hid hi; have HOB := Lib.hid hb
  clear hi hb
  go_wp2_with fail
  refine (ref_of b _ HB.out).mono ?_
  rintro e w2 ⟨pa, pc, rfl, hi, hb⟩
  rw [Dm.dg_length] at hi ⊢
  have HOI2 := Lib.hid (HOI.out.keep hb); have HPI := Lib.hid hi; have HPB := Lib.hid (HOB.out.trans (hb.mono HOB.out.size))
  clear hi hb HOI HOB
  go_wp2_with fail
  refine (times_n oa pa _ _ oc pc a.natAbs b.natAbs w2 rfl rfl HOI2.out HPI.out (by omega) (by omega)).mono ?_
  rintro e w3 ⟨ra, rc, rfl, hi, hb⟩
  have ir := nd_mul_le _ a.natAbs b.natAbs (Nat.le_refl _)
  revert HM hi ir
  generalize a.natAbs * b.natAbs = R
  intro HM hi ir
  rw [Dm.dg_length] at hi ⊢
  have HRI := Lib.hid hi; have HRB := Lib.hid (HPB.out.trans (hb.mono HPB.out.size))
  clear hi hb HOI2 HPI HPB
  go_wp2_with fail
  refine (shift_n ra _ rc R t w3 rfl HRI.out (by omega) (by omega)).mono ?_
  rintro e w4 ⟨sa, sc, rfl, hi, hb⟩
  have is := nd_mul10 R t.toNat
  revert HM hi is
  generalize R * 10 ^ t.toNat = S
  intro HM hi is
  rw [Dm.dg_length] at hi ⊢
  have hba : Below w4.heap.size w4 (w4.alloc (.cells #[.int .i64 1] 3)) := (Below.refl _ w4).alloc (Nat.le_refl _) _
  have HSI := Lib.hid (hi.keep hba); have HSB := Lib.hid (HRB.out.trans ((hb.trans (hba.mono hb.size)).mono HRB.out.size))
  clear hi hb hba HRI HRB
  go_wp2_with fail
  refine (shift_n (some ⟨w4.heap.size, 0, none⟩) 1 1 1 (fa + fb) _ nd_one.symm (lit_one w4) (by omega) (by omega)).mono ?_
  rintro e w5 ⟨ua, uc, rfl, hi, hb⟩
  have iu := nd_mul10 1 (fa + fb).toNat
  rw [nd_one] at iu
  have hpos : 0 < 1 * 10 ^ (fa + fb).toNat := by rw [Nat.one_mul]; exact Nat.pow_pos (by omega)
  revert HM hi iu hpos
  generalize 1 * 10 ^ (fa + fb).toNat = U
  intro HM hi iu hpos
  rw [Dm.dg_length] at hi ⊢
  have HUI := Lib.hid hi; have HUB := Lib.hid (HSB.out.trans (hb.mono HSB.out.size)); have HSI2 := Lib.hid (HSI.out.keep hb)
  have HPOS := Lib.hid hpos
  clear hi hb hpos HSI HSB
  go_wp2_with fail
  refine (round_n sa ua _ _ sc uc S U w5 rfl rfl HSI2.out HUI.out (by omega) (by omega) HPOS.out).mono ?_
  rintro e w6 ⟨va, vc, rfl, hi, hb⟩
  rw [Dm.dg_length] at hi ⊢
  have iv := nd_rnd S U
  have HVI := Lib.hid hi; have HVB := Lib.hid (HUB.out.trans (hb.mono HUB.out.size))
  clear hi hb HUI HSI2 HUB
  go_wp2_with fail
  refine (ref_answer va _ vc (rnd S U) false _ rfl HVI.out (by omega)).mono ?_
  rintro e w7 ⟨rfl, hab⟩
  have HAB := Lib.hid (HVB.out.trans (hab.mono HVB.out.size))
  clear hab
  go_wp2
  go_ret2
  exact ⟨by rw [HM.out]; rfl, HAB.out⟩

set_option maxHeartbeats 400000 in
theorem ref_mul_true_false (a fa b fb t : Int) (w : World) (ha : i64 a) (hb : i64 b) (has : scB fa = true) (hbs : scB fb = true) (ht : scB t = true) (qa : decide (a < 0) = true) (qb : decide (b < 0) = false) : Calls Tryd.prog 28 #[.int .i64 a, .int .i64 fa, .int .i64 b, .int .i64 fb, .int .i64 t] w (Ans (mulM a fa b fb t) w) := by
  have hm : mulM a fa b fb t = ansV (rnd (a.natAbs * b.natAbs * 10 ^ t.toNat) (1 * 10 ^ (fa + fb).toNat)) true := by unfold mulM; simp [has, hbs, ht, qa, qb]
  have HM := Lib.hid hm
  have ia := nd_i64 a ha
  have ib := nd_i64 b hb
  have HA := Lib.hid ha; have HB := Lib.hid hb
  obtain ⟨f0, f1⟩ := scB_true has
  obtain ⟨g0, g1⟩ := scB_true hbs
  obtain ⟨t0, t1⟩ := scB_true ht
  have HF := Lib.hid has; have HG := Lib.hid hbs; have HT := Lib.hid ht
  clear hm ha hb has hbs ht
  go_enter Tryd.func28, Tryd.ntmps28
  go_wp2_with fail
  refine (ref_scale fa _).mono ?_
  rintro e w1 ⟨rfl, rfl⟩
  rw [HF.out]
  go_wp2_with fail
  refine (ref_scale fb _).mono ?_
  rintro e w1 ⟨rfl, rfl⟩
  rw [HG.out]
  go_wp2_with fail
  refine (ref_scale t _).mono ?_
  rintro e w1 ⟨rfl, rfl⟩
  rw [HT.out]
  go_wp2_with fail
  refine (ref_of a _ HA.out).mono ?_
  rintro e w1 ⟨oa, oc, rfl, hi, hb⟩
  rw [Dm.dg_length] at hi ⊢
  have HOI := Lib.hid hi; have HOB := Lib.hid hb
  clear hi hb
  go_wp2_with fail
  refine (ref_of b _ HB.out).mono ?_
  rintro e w2 ⟨pa, pc, rfl, hi, hb⟩
  rw [Dm.dg_length] at hi ⊢
  have HOI2 := Lib.hid (HOI.out.keep hb); have HPI := Lib.hid hi; have HPB := Lib.hid (HOB.out.trans (hb.mono HOB.out.size))
  clear hi hb HOI HOB
  go_wp2_with fail
  refine (times_n oa pa _ _ oc pc a.natAbs b.natAbs w2 rfl rfl HOI2.out HPI.out (by omega) (by omega)).mono ?_
  rintro e w3 ⟨ra, rc, rfl, hi, hb⟩
  have ir := nd_mul_le _ a.natAbs b.natAbs (Nat.le_refl _)
  revert HM hi ir
  generalize a.natAbs * b.natAbs = R
  intro HM hi ir
  rw [Dm.dg_length] at hi ⊢
  have HRI := Lib.hid hi; have HRB := Lib.hid (HPB.out.trans (hb.mono HPB.out.size))
  clear hi hb HOI2 HPI HPB
  go_wp2_with fail
  refine (shift_n ra _ rc R t w3 rfl HRI.out (by omega) (by omega)).mono ?_
  rintro e w4 ⟨sa, sc, rfl, hi, hb⟩
  have is := nd_mul10 R t.toNat
  revert HM hi is
  generalize R * 10 ^ t.toNat = S
  intro HM hi is
  rw [Dm.dg_length] at hi ⊢
  have hba : Below w4.heap.size w4 (w4.alloc (.cells #[.int .i64 1] 3)) := (Below.refl _ w4).alloc (Nat.le_refl _) _
  have HSI := Lib.hid (hi.keep hba); have HSB := Lib.hid (HRB.out.trans ((hb.trans (hba.mono hb.size)).mono HRB.out.size))
  clear hi hb hba HRI HRB
  go_wp2_with fail
  refine (shift_n (some ⟨w4.heap.size, 0, none⟩) 1 1 1 (fa + fb) _ nd_one.symm (lit_one w4) (by omega) (by omega)).mono ?_
  rintro e w5 ⟨ua, uc, rfl, hi, hb⟩
  have iu := nd_mul10 1 (fa + fb).toNat
  rw [nd_one] at iu
  have hpos : 0 < 1 * 10 ^ (fa + fb).toNat := by rw [Nat.one_mul]; exact Nat.pow_pos (by omega)
  revert HM hi iu hpos
  generalize 1 * 10 ^ (fa + fb).toNat = U
  intro HM hi iu hpos
  rw [Dm.dg_length] at hi ⊢
  have HUI := Lib.hid hi; have HUB := Lib.hid (HSB.out.trans (hb.mono HSB.out.size)); have HSI2 := Lib.hid (HSI.out.keep hb)
  have HPOS := Lib.hid hpos
  clear hi hb hpos HSI HSB
  go_wp2_with fail
  refine (round_n sa ua _ _ sc uc S U w5 rfl rfl HSI2.out HUI.out (by omega) (by omega) HPOS.out).mono ?_
  rintro e w6 ⟨va, vc, rfl, hi, hb⟩
  rw [Dm.dg_length] at hi ⊢
  have iv := nd_rnd S U
  have HVI := Lib.hid hi; have HVB := Lib.hid (HUB.out.trans (hb.mono HUB.out.size))
  clear hi hb HUI HSI2 HUB
  go_wp2_with fail
  refine (ref_answer va _ vc (rnd S U) true _ rfl HVI.out (by omega)).mono ?_
  rintro e w7 ⟨rfl, hab⟩
  have HAB := Lib.hid (HVB.out.trans (hab.mono HVB.out.size))
  clear hab
  go_wp2
  go_ret2
  exact ⟨by rw [HM.out]; rfl, HAB.out⟩

set_option maxHeartbeats 400000 in
theorem ref_mul_false_true (a fa b fb t : Int) (w : World) (ha : i64 a) (hb : i64 b) (has : scB fa = true) (hbs : scB fb = true) (ht : scB t = true) (qa : decide (a < 0) = false) (qb : decide (b < 0) = true) : Calls Tryd.prog 28 #[.int .i64 a, .int .i64 fa, .int .i64 b, .int .i64 fb, .int .i64 t] w (Ans (mulM a fa b fb t) w) := by
  have hm : mulM a fa b fb t = ansV (rnd (a.natAbs * b.natAbs * 10 ^ t.toNat) (1 * 10 ^ (fa + fb).toNat)) true := by unfold mulM; simp [has, hbs, ht, qa, qb]
  have HM := Lib.hid hm
  have ia := nd_i64 a ha
  have ib := nd_i64 b hb
  have HA := Lib.hid ha; have HB := Lib.hid hb
  obtain ⟨f0, f1⟩ := scB_true has
  obtain ⟨g0, g1⟩ := scB_true hbs
  obtain ⟨t0, t1⟩ := scB_true ht
  have HF := Lib.hid has; have HG := Lib.hid hbs; have HT := Lib.hid ht
  clear hm ha hb has hbs ht
  go_enter Tryd.func28, Tryd.ntmps28
  go_wp2_with fail
  refine (ref_scale fa _).mono ?_
  rintro e w1 ⟨rfl, rfl⟩
  rw [HF.out]
  go_wp2_with fail
  refine (ref_scale fb _).mono ?_
  rintro e w1 ⟨rfl, rfl⟩
  rw [HG.out]
  go_wp2_with fail
  refine (ref_scale t _).mono ?_
  rintro e w1 ⟨rfl, rfl⟩
  rw [HT.out]
  go_wp2_with fail
  refine (ref_of a _ HA.out).mono ?_
  rintro e w1 ⟨oa, oc, rfl, hi, hb⟩
  rw [Dm.dg_length] at hi ⊢
  have HOI := Lib.hid hi; have HOB := Lib.hid hb
  clear hi hb
  go_wp2_with fail
  refine (ref_of b _ HB.out).mono ?_
  rintro e w2 ⟨pa, pc, rfl, hi, hb⟩
  rw [Dm.dg_length] at hi ⊢
  have HOI2 := Lib.hid (HOI.out.keep hb); have HPI := Lib.hid hi; have HPB := Lib.hid (HOB.out.trans (hb.mono HOB.out.size))
  clear hi hb HOI HOB
  go_wp2_with fail
  refine (times_n oa pa _ _ oc pc a.natAbs b.natAbs w2 rfl rfl HOI2.out HPI.out (by omega) (by omega)).mono ?_
  rintro e w3 ⟨ra, rc, rfl, hi, hb⟩
  have ir := nd_mul_le _ a.natAbs b.natAbs (Nat.le_refl _)
  revert HM hi ir
  generalize a.natAbs * b.natAbs = R
  intro HM hi ir
  rw [Dm.dg_length] at hi ⊢
  have HRI := Lib.hid hi; have HRB := Lib.hid (HPB.out.trans (hb.mono HPB.out.size))
  clear hi hb HOI2 HPI HPB
  go_wp2_with fail
  refine (shift_n ra _ rc R t w3 rfl HRI.out (by omega) (by omega)).mono ?_
  rintro e w4 ⟨sa, sc, rfl, hi, hb⟩
  have is := nd_mul10 R t.toNat
  revert HM hi is
  generalize R * 10 ^ t.toNat = S
  intro HM hi is
  rw [Dm.dg_length] at hi ⊢
  have hba : Below w4.heap.size w4 (w4.alloc (.cells #[.int .i64 1] 3)) := (Below.refl _ w4).alloc (Nat.le_refl _) _
  have HSI := Lib.hid (hi.keep hba); have HSB := Lib.hid (HRB.out.trans ((hb.trans (hba.mono hb.size)).mono HRB.out.size))
  clear hi hb hba HRI HRB
  go_wp2_with fail
  refine (shift_n (some ⟨w4.heap.size, 0, none⟩) 1 1 1 (fa + fb) _ nd_one.symm (lit_one w4) (by omega) (by omega)).mono ?_
  rintro e w5 ⟨ua, uc, rfl, hi, hb⟩
  have iu := nd_mul10 1 (fa + fb).toNat
  rw [nd_one] at iu
  have hpos : 0 < 1 * 10 ^ (fa + fb).toNat := by rw [Nat.one_mul]; exact Nat.pow_pos (by omega)
  revert HM hi iu hpos
  generalize 1 * 10 ^ (fa + fb).toNat = U
  intro HM hi iu hpos
  rw [Dm.dg_length] at hi ⊢
  have HUI := Lib.hid hi; have HUB := Lib.hid (HSB.out.trans (hb.mono HSB.out.size)); have HSI2 := Lib.hid (HSI.out.keep hb)
  have HPOS := Lib.hid hpos
  clear hi hb hpos HSI HSB
  go_wp2_with fail
  refine (round_n sa ua _ _ sc uc S U w5 rfl rfl HSI2.out HUI.out (by omega) (by omega) HPOS.out).mono ?_
  rintro e w6 ⟨va, vc, rfl, hi, hb⟩
  rw [Dm.dg_length] at hi ⊢
  have iv := nd_rnd S U
  have HVI := Lib.hid hi; have HVB := Lib.hid (HUB.out.trans (hb.mono HUB.out.size))
  clear hi hb HUI HSI2 HUB
  go_wp2_with fail
  refine (ref_answer va _ vc (rnd S U) true _ rfl HVI.out (by omega)).mono ?_
  rintro e w7 ⟨rfl, hab⟩
  have HAB := Lib.hid (HVB.out.trans (hab.mono HVB.out.size))
  clear hab
  go_wp2
  go_ret2
  exact ⟨by rw [HM.out]; rfl, HAB.out⟩

set_option maxHeartbeats 400000 in
theorem ref_mul_false_false (a fa b fb t : Int) (w : World) (ha : i64 a) (hb : i64 b) (has : scB fa = true) (hbs : scB fb = true) (ht : scB t = true) (qa : decide (a < 0) = false) (qb : decide (b < 0) = false) : Calls Tryd.prog 28 #[.int .i64 a, .int .i64 fa, .int .i64 b, .int .i64 fb, .int .i64 t] w (Ans (mulM a fa b fb t) w) := by
  have hm : mulM a fa b fb t = ansV (rnd (a.natAbs * b.natAbs * 10 ^ t.toNat) (1 * 10 ^ (fa + fb).toNat)) false := by unfold mulM; simp [has, hbs, ht, qa, qb]
  have HM := Lib.hid hm
  have ia := nd_i64 a ha
  have ib := nd_i64 b hb
  have HA := Lib.hid ha; have HB := Lib.hid hb
  obtain ⟨f0, f1⟩ := scB_true has
  obtain ⟨g0, g1⟩ := scB_true hbs
  obtain ⟨t0, t1⟩ := scB_true ht
  have HF := Lib.hid has; have HG := Lib.hid hbs; have HT := Lib.hid ht
  clear hm ha hb has hbs ht
  go_enter Tryd.func28, Tryd.ntmps28
  go_wp2_with fail
  refine (ref_scale fa _).mono ?_
  rintro e w1 ⟨rfl, rfl⟩
  rw [HF.out]
  go_wp2_with fail
  refine (ref_scale fb _).mono ?_
  rintro e w1 ⟨rfl, rfl⟩
  rw [HG.out]
  go_wp2_with fail
  refine (ref_scale t _).mono ?_
  rintro e w1 ⟨rfl, rfl⟩
  rw [HT.out]
  go_wp2_with fail
  refine (ref_of a _ HA.out).mono ?_
  rintro e w1 ⟨oa, oc, rfl, hi, hb⟩
  rw [Dm.dg_length] at hi ⊢
  have HOI := Lib.hid hi; have HOB := Lib.hid hb
  clear hi hb
  go_wp2_with fail
  refine (ref_of b _ HB.out).mono ?_
  rintro e w2 ⟨pa, pc, rfl, hi, hb⟩
  rw [Dm.dg_length] at hi ⊢
  have HOI2 := Lib.hid (HOI.out.keep hb); have HPI := Lib.hid hi; have HPB := Lib.hid (HOB.out.trans (hb.mono HOB.out.size))
  clear hi hb HOI HOB
  go_wp2_with fail
  refine (times_n oa pa _ _ oc pc a.natAbs b.natAbs w2 rfl rfl HOI2.out HPI.out (by omega) (by omega)).mono ?_
  rintro e w3 ⟨ra, rc, rfl, hi, hb⟩
  have ir := nd_mul_le _ a.natAbs b.natAbs (Nat.le_refl _)
  revert HM hi ir
  generalize a.natAbs * b.natAbs = R
  intro HM hi ir
  rw [Dm.dg_length] at hi ⊢
  have HRI := Lib.hid hi; have HRB := Lib.hid (HPB.out.trans (hb.mono HPB.out.size))
  clear hi hb HOI2 HPI HPB
  go_wp2_with fail
  refine (shift_n ra _ rc R t w3 rfl HRI.out (by omega) (by omega)).mono ?_
  rintro e w4 ⟨sa, sc, rfl, hi, hb⟩
  have is := nd_mul10 R t.toNat
  revert HM hi is
  generalize R * 10 ^ t.toNat = S
  intro HM hi is
  rw [Dm.dg_length] at hi ⊢
  have hba : Below w4.heap.size w4 (w4.alloc (.cells #[.int .i64 1] 3)) := (Below.refl _ w4).alloc (Nat.le_refl _) _
  have HSI := Lib.hid (hi.keep hba); have HSB := Lib.hid (HRB.out.trans ((hb.trans (hba.mono hb.size)).mono HRB.out.size))
  clear hi hb hba HRI HRB
  go_wp2_with fail
  refine (shift_n (some ⟨w4.heap.size, 0, none⟩) 1 1 1 (fa + fb) _ nd_one.symm (lit_one w4) (by omega) (by omega)).mono ?_
  rintro e w5 ⟨ua, uc, rfl, hi, hb⟩
  have iu := nd_mul10 1 (fa + fb).toNat
  rw [nd_one] at iu
  have hpos : 0 < 1 * 10 ^ (fa + fb).toNat := by rw [Nat.one_mul]; exact Nat.pow_pos (by omega)
  revert HM hi iu hpos
  generalize 1 * 10 ^ (fa + fb).toNat = U
  intro HM hi iu hpos
  rw [Dm.dg_length] at hi ⊢
  have HUI := Lib.hid hi; have HUB := Lib.hid (HSB.out.trans (hb.mono HSB.out.size)); have HSI2 := Lib.hid (HSI.out.keep hb)
  have HPOS := Lib.hid hpos
  clear hi hb hpos HSI HSB
  go_wp2_with fail
  refine (round_n sa ua _ _ sc uc S U w5 rfl rfl HSI2.out HUI.out (by omega) (by omega) HPOS.out).mono ?_
  rintro e w6 ⟨va, vc, rfl, hi, hb⟩
  rw [Dm.dg_length] at hi ⊢
  have iv := nd_rnd S U
  have HVI := Lib.hid hi; have HVB := Lib.hid (HUB.out.trans (hb.mono HUB.out.size))
  clear hi hb HUI HSI2 HUB
  go_wp2_with fail
  refine (ref_answer va _ vc (rnd S U) false _ rfl HVI.out (by omega)).mono ?_
  rintro e w7 ⟨rfl, hab⟩
  have HAB := Lib.hid (HVB.out.trans (hab.mono HVB.out.size))
  clear hab
  go_wp2
  go_ret2
  exact ⟨by rw [HM.out]; rfl, HAB.out⟩

theorem ref_mul (a fa b fb t : Int) (w : World) (ha : i64 a) (hb : i64 b) : Calls Tryd.prog 28 #[.int .i64 a, .int .i64 fa, .int .i64 b, .int .i64 fb, .int .i64 t] w (Ans (mulM a fa b fb t) w) := by
  cases has : scB fa
  · exact ref_mul_no0 a fa b fb t w has
  cases hbs : scB fb
  · exact ref_mul_no1 a fa b fb t w has hbs
  cases ht : scB t
  · exact ref_mul_no2 a fa b fb t w has hbs ht
  cases qa : decide (a < 0)
  · cases qb : decide (b < 0)
    · exact ref_mul_false_false a fa b fb t w ha hb has hbs ht qa qb
    · exact ref_mul_false_true a fa b fb t w ha hb has hbs ht qa qb
  · cases qb : decide (b < 0)
    · exact ref_mul_true_false a fa b fb t w ha hb has hbs ht qa qb
    · exact ref_mul_true_true a fa b fb t w ha hb has hbs ht qa qb

end Go.Proofs.YtgkjgaelclfffaaDoor
