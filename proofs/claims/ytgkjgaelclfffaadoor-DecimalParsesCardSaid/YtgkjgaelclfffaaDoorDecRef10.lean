/- The reference of layer 2: Sum and Diff. -/
import Derived.Test.YtgkjgaelclfffaaDoorDecRef9
namespace Go.Proofs.YtgkjgaelclfffaaDoor
open Go.RowKit

/-- Sum and Diff in plain numbers -/
def sumM (a b : Int) : Int × Int := if decide (a < 0) == decide (b < 0) then ansV (a.natAbs + b.natAbs) (decide (a < 0)) else (a + b, 0)
def diffM (a b : Int) : Int × Int := if decide (a < 0) == decide (b < 0) then (a - b, 0) else ansV (a.natAbs + b.natAbs) (decide (a < 0))

theorem nd_sum (a b : Int) (ha : i64 a) (hb : i64 b) : Dm.nd (a.natAbs + b.natAbs) ≤ 20 := by
  unfold i64 at ha hb
  refine Dm.nd_le _ 20 ?_
  have : (10 : Nat) ^ 20 = 100000000000000000000 := by decide +kernel
  omega

set_option maxHeartbeats 800000 in
theorem ref_sum (a b : Int) (w : World) (ha : i64 a) (hb : i64 b) : Calls Tryd.prog 24 #[.int .i64 a, .int .i64 b] w (Ans (sumM a b) w) := by
  have ia := nd_i64 a ha
  have ib := nd_i64 b hb
  have iab := nd_sum a b ha hb
  have HA := Lib.hid ha; have HB := Lib.hid hb
  by_cases h1 : a < 0
  · by_cases h2 : b < 0
    · skip
      have qa : decide (a < 0) = true := by simpa using h1
      have qb : decide (b < 0) = true := by simpa using h2
      have hm : sumM a b = ansV (a.natAbs + b.natAbs) true := by unfold sumM; rw [qa, qb]; rfl
      have HM := Lib.hid hm
      clear hm
      go_enter Tryd.func24, Tryd.ntmps24
      go_wp2_with fail
      refine (ref_of a _ HA.out).mono ?_
      rintro e w1 ⟨oa, oc, rfl, hoi, hob⟩
      rw [Dm.dg_length] at hoi ⊢
      have HOI := Lib.hid hoi; have HOB := Lib.hid hob
      clear hoi hob
      go_wp2_with fail
      refine (ref_of b _ HB.out).mono ?_
      rintro e w2 ⟨pa, pc, rfl, hpi, hpb⟩
      rw [Dm.dg_length] at hpi ⊢
      have HOI2 := Lib.hid (HOI.out.keep hpb); have HPI := Lib.hid hpi; have HPB := Lib.hid (HOB.out.trans (hpb.mono HOB.out.size))
      clear hpi hpb
      go_wp2_with fail
      refine (plus_n oa pa _ _ oc pc a.natAbs b.natAbs w2 rfl rfl HOI2.out HPI.out (by omega) (by omega)).mono ?_
      rintro e w3 ⟨va, vc, rfl, hvi, hvb⟩
      rw [Dm.dg_length] at hvi ⊢
      have HVI := Lib.hid hvi; have HVB := Lib.hid (HPB.out.trans (hvb.mono HPB.out.size))
      clear hvi hvb
      go_wp2_with fail
      refine (ref_answer va _ vc (a.natAbs + b.natAbs) true _ rfl HVI.out (by omega)).mono ?_
      rintro e w4 ⟨rfl, hab⟩
      have HAB := Lib.hid (HVB.out.trans (hab.mono HVB.out.size))
      clear hab
      go_wp2
      go_ret2
      exact ⟨by rw [HM.out]; rfl, HAB.out⟩
    · skip
      have qa : decide (a < 0) = true := by simpa using h1
      have qb : decide (b < 0) = false := by simpa using h2
      have hm : sumM a b = (a + b, 0) := by unfold sumM; rw [qa, qb]; rfl
      have HM := Lib.hid hm
      clear hm
      unfold i64 at ha hb
      go_enter Tryd.func24, Tryd.ntmps24
      go_wp2
      go_ret2
      exact ⟨by rw [HM.out]; rfl, Below.refl _ _⟩
  · by_cases h2 : b < 0
    · skip
      have qa : decide (a < 0) = false := by simpa using h1
      have qb : decide (b < 0) = true := by simpa using h2
      have hm : sumM a b = (a + b, 0) := by unfold sumM; rw [qa, qb]; rfl
      have HM := Lib.hid hm
      clear hm
      unfold i64 at ha hb
      go_enter Tryd.func24, Tryd.ntmps24
      go_wp2
      go_ret2
      exact ⟨by rw [HM.out]; rfl, Below.refl _ _⟩
    · skip
      have qa : decide (a < 0) = false := by simpa using h1
      have qb : decide (b < 0) = false := by simpa using h2
      have hm : sumM a b = ansV (a.natAbs + b.natAbs) false := by unfold sumM; rw [qa, qb]; rfl
      have HM := Lib.hid hm
      clear hm
      go_enter Tryd.func24, Tryd.ntmps24
      go_wp2_with fail
      refine (ref_of a _ HA.out).mono ?_
      rintro e w1 ⟨oa, oc, rfl, hoi, hob⟩
      rw [Dm.dg_length] at hoi ⊢
      have HOI := Lib.hid hoi; have HOB := Lib.hid hob
      clear hoi hob
      go_wp2_with fail
      refine (ref_of b _ HB.out).mono ?_
      rintro e w2 ⟨pa, pc, rfl, hpi, hpb⟩
      rw [Dm.dg_length] at hpi ⊢
      have HOI2 := Lib.hid (HOI.out.keep hpb); have HPI := Lib.hid hpi; have HPB := Lib.hid (HOB.out.trans (hpb.mono HOB.out.size))
      clear hpi hpb
      go_wp2_with fail
      refine (plus_n oa pa _ _ oc pc a.natAbs b.natAbs w2 rfl rfl HOI2.out HPI.out (by omega) (by omega)).mono ?_
      rintro e w3 ⟨va, vc, rfl, hvi, hvb⟩
      rw [Dm.dg_length] at hvi ⊢
      have HVI := Lib.hid hvi; have HVB := Lib.hid (HPB.out.trans (hvb.mono HPB.out.size))
      clear hvi hvb
      go_wp2_with fail
      refine (ref_answer va _ vc (a.natAbs + b.natAbs) false _ rfl HVI.out (by omega)).mono ?_
      rintro e w4 ⟨rfl, hab⟩
      have HAB := Lib.hid (HVB.out.trans (hab.mono HVB.out.size))
      clear hab
      go_wp2
      go_ret2
      exact ⟨by rw [HM.out]; rfl, HAB.out⟩

set_option maxHeartbeats 800000 in
theorem ref_diff (a b : Int) (w : World) (ha : i64 a) (hb : i64 b) : Calls Tryd.prog 26 #[.int .i64 a, .int .i64 b] w (Ans (diffM a b) w) := by
  have ia := nd_i64 a ha
  have ib := nd_i64 b hb
  have iab := nd_sum a b ha hb
  have HA := Lib.hid ha; have HB := Lib.hid hb
  by_cases h1 : a < 0
  · by_cases h2 : b < 0
    · skip
      have qa : decide (a < 0) = true := by simpa using h1
      have qb : decide (b < 0) = true := by simpa using h2
      have hm : diffM a b = (a - b, 0) := by unfold diffM; rw [qa, qb]; rfl
      have HM := Lib.hid hm
      clear hm
      unfold i64 at ha hb
      go_enter Tryd.func26, Tryd.ntmps26
      go_wp2
      go_ret2
      exact ⟨by rw [HM.out]; rfl, Below.refl _ _⟩
    · skip
      have qa : decide (a < 0) = true := by simpa using h1
      have qb : decide (b < 0) = false := by simpa using h2
      have hm : diffM a b = ansV (a.natAbs + b.natAbs) true := by unfold diffM; rw [qa, qb]; rfl
      have HM := Lib.hid hm
      clear hm
      go_enter Tryd.func26, Tryd.ntmps26
      go_wp2_with fail
      refine (ref_of a _ HA.out).mono ?_
      rintro e w1 ⟨oa, oc, rfl, hoi, hob⟩
      rw [Dm.dg_length] at hoi ⊢
      have HOI := Lib.hid hoi; have HOB := Lib.hid hob
      clear hoi hob
      go_wp2_with fail
      refine (ref_of b _ HB.out).mono ?_
      rintro e w2 ⟨pa, pc, rfl, hpi, hpb⟩
      rw [Dm.dg_length] at hpi ⊢
      have HOI2 := Lib.hid (HOI.out.keep hpb); have HPI := Lib.hid hpi; have HPB := Lib.hid (HOB.out.trans (hpb.mono HOB.out.size))
      clear hpi hpb
      go_wp2_with fail
      refine (plus_n oa pa _ _ oc pc a.natAbs b.natAbs w2 rfl rfl HOI2.out HPI.out (by omega) (by omega)).mono ?_
      rintro e w3 ⟨va, vc, rfl, hvi, hvb⟩
      rw [Dm.dg_length] at hvi ⊢
      have HVI := Lib.hid hvi; have HVB := Lib.hid (HPB.out.trans (hvb.mono HPB.out.size))
      clear hvi hvb
      go_wp2_with fail
      refine (ref_answer va _ vc (a.natAbs + b.natAbs) true _ rfl HVI.out (by omega)).mono ?_
      rintro e w4 ⟨rfl, hab⟩
      have HAB := Lib.hid (HVB.out.trans (hab.mono HVB.out.size))
      clear hab
      go_wp2
      go_ret2
      exact ⟨by rw [HM.out]; rfl, HAB.out⟩
  · by_cases h2 : b < 0
    · skip
      have qa : decide (a < 0) = false := by simpa using h1
      have qb : decide (b < 0) = true := by simpa using h2
      have hm : diffM a b = ansV (a.natAbs + b.natAbs) false := by unfold diffM; rw [qa, qb]; rfl
      have HM := Lib.hid hm
      clear hm
      go_enter Tryd.func26, Tryd.ntmps26
      go_wp2_with fail
      refine (ref_of a _ HA.out).mono ?_
      rintro e w1 ⟨oa, oc, rfl, hoi, hob⟩
      rw [Dm.dg_length] at hoi ⊢
      have HOI := Lib.hid hoi; have HOB := Lib.hid hob
      clear hoi hob
      go_wp2_with fail
      refine (ref_of b _ HB.out).mono ?_
      rintro e w2 ⟨pa, pc, rfl, hpi, hpb⟩
      rw [Dm.dg_length] at hpi ⊢
      have HOI2 := Lib.hid (HOI.out.keep hpb); have HPI := Lib.hid hpi; have HPB := Lib.hid (HOB.out.trans (hpb.mono HOB.out.size))
      clear hpi hpb
      go_wp2_with fail
      refine (plus_n oa pa _ _ oc pc a.natAbs b.natAbs w2 rfl rfl HOI2.out HPI.out (by omega) (by omega)).mono ?_
      rintro e w3 ⟨va, vc, rfl, hvi, hvb⟩
      rw [Dm.dg_length] at hvi ⊢
      have HVI := Lib.hid hvi; have HVB := Lib.hid (HPB.out.trans (hvb.mono HPB.out.size))
      clear hvi hvb
      go_wp2_with fail
      refine (ref_answer va _ vc (a.natAbs + b.natAbs) false _ rfl HVI.out (by omega)).mono ?_
      rintro e w4 ⟨rfl, hab⟩
      have HAB := Lib.hid (HVB.out.trans (hab.mono HVB.out.size))
      clear hab
      go_wp2
      go_ret2
      exact ⟨by rw [HM.out]; rfl, HAB.out⟩
    · skip
      have qa : decide (a < 0) = false := by simpa using h1
      have qb : decide (b < 0) = false := by simpa using h2
      have hm : diffM a b = (a - b, 0) := by unfold diffM; rw [qa, qb]; rfl
      have HM := Lib.hid hm
      clear hm
      unfold i64 at ha hb
      go_enter Tryd.func26, Tryd.ntmps26
      go_wp2
      go_ret2
      exact ⟨by rw [HM.out]; rfl, Below.refl _ _⟩

end Go.Proofs.YtgkjgaelclfffaaDoor
