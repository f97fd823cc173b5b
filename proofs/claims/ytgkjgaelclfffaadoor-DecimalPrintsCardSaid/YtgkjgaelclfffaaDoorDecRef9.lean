/- The reference of layer 2: Rescale. -/
import Derived.Test.YtgkjgaelclfffaaDoorDecRef8
namespace Go.Proofs.YtgkjgaelclfffaaDoor
open Go.RowKit

/-- Rescale in plain numbers -/
def rescM (n f t : Int) : Int × Int :=
  if scB f && scB t then (if f ≤ t then ansV (n.natAbs * 10 ^ (t - f).toNat) (decide (n < 0)) else ansV (rnd n.natAbs (1 * 10 ^ (f - t).toNat)) (decide (n < 0))) else (0, 2)

set_option maxHeartbeats 400000 in
theorem ref_rescale (n f t : Int) (w : World) (hn : i64 n) : Calls Tryd.prog 20 #[.int .i64 n, .int .i64 f, .int .i64 t] w (Ans (rescM n f t) w) := by
  by_cases hf : scB f = true
  · by_cases ht : scB t = true
    · obtain ⟨f0, f1⟩ := scB_true hf
      obtain ⟨t0, t1⟩ := scB_true ht
      have hnd := nd_i64 n hn
      have HF := Lib.hid hf; have HT := Lib.hid ht; have HN := Lib.hid hn
      clear hn
      obtain ⟨sg, hsg⟩ : ∃ sg : Bool, decide (n < 0) = sg := ⟨_, rfl⟩
      by_cases hft : f ≤ t
      · have hm : rescM n f t = ansV (n.natAbs * 10 ^ (t - f).toNat) sg := by unfold rescM; rw [hf, ht, hsg]; simp [hft]
        have HM := Lib.hid hm
        have q : decide (f ≤ t) = true := by simpa using hft
        clear hm hf ht
        go_enter Tryd.func20, Tryd.ntmps20
        go_wp2_with fail
        refine (ref_scale f _).mono ?_
        rintro e w1 ⟨rfl, rfl⟩
        rw [HF.out]
        go_wp2_with fail
        refine (ref_scale t _).mono ?_
        rintro e w1 ⟨rfl, rfl⟩
        rw [HT.out]
        go_wp2_with fail
        refine (ref_of n _ HN.out).mono ?_
        rintro e w1 ⟨oa, oc, rfl, hoi, hob⟩
        rw [Dm.dg_length] at hoi ⊢
        have HOI := Lib.hid hoi; have HOB := Lib.hid hob
        clear hoi hob
        go_wp2_with fail
        refine (shift_n oa _ oc n.natAbs (t - f) _ rfl HOI.out (by omega) (by omega)).mono ?_
        rintro e w2 ⟨pa, pc, rfl, hpi, hpb⟩
        rw [Dm.dg_length] at hpi ⊢
        have hnd2 := nd_mul10 n.natAbs (t - f).toNat
        have HPI := Lib.hid hpi; have HPB := Lib.hid (HOB.out.trans (hpb.mono HOB.out.size))
        clear hpi hpb
        go_wp2_with fail
        refine (ref_answer pa _ pc _ sg _ rfl HPI.out (by omega)).mono ?_
        rintro e w3 ⟨rfl, hab⟩
        have HAB := Lib.hid (HPB.out.trans (hab.mono HPB.out.size))
        clear hab
        go_wp2
        go_ret2
        exact ⟨by rw [HM.out]; rfl, HAB.out⟩
      · have hm : rescM n f t = ansV (rnd n.natAbs (1 * 10 ^ (f - t).toNat)) sg := by unfold rescM; rw [hf, ht, hsg]; simp [hft]
        have HM := Lib.hid hm
        have q : decide (f ≤ t) = false := by simpa using hft
        clear hm hf ht
        go_enter Tryd.func20, Tryd.ntmps20
        go_wp2_with fail
        refine (ref_scale f _).mono ?_
        rintro e w1 ⟨rfl, rfl⟩
        rw [HF.out]
        go_wp2_with fail
        refine (ref_scale t _).mono ?_
        rintro e w1 ⟨rfl, rfl⟩
        rw [HT.out]
        go_wp2_with fail
        refine (ref_of n _ HN.out).mono ?_
        rintro e w1 ⟨oa, oc, rfl, hoi, hob⟩
        rw [Dm.dg_length] at hoi ⊢
        have hba : Below w1.heap.size w1 (w1.alloc (.cells #[.int .i64 1] 3)) := (Below.refl _ w1).alloc (Nat.le_refl _) _
        have HOI := Lib.hid (hoi.keep hba); have HOB := Lib.hid (hob.trans (hba.mono hob.size))
        clear hoi hob hba
        go_wp2_with fail
        refine (shift_n (some ⟨w1.heap.size, 0, none⟩) 1 1 1 (f - t) _ nd_one.symm (lit_one w1) (by omega) (by omega)).mono ?_
        rintro e w2 ⟨pa, pc, rfl, hpi, hpb⟩
        have hnd2 := nd_mul10 1 (f - t).toNat
        rw [nd_one] at hnd2
        have hpos : 0 < 1 * 10 ^ (f - t).toNat := by rw [Nat.one_mul]; exact Nat.pow_pos (by omega)
        revert HM hpi hnd2 hpos
        generalize 1 * 10 ^ (f - t).toNat = B
        intro HM hpi hnd2 hpos
        rw [Dm.dg_length] at hpi ⊢
        have HPI := Lib.hid hpi; have HPB := Lib.hid (HOB.out.trans (hpb.mono HOB.out.size)); have HOI2 := Lib.hid (HOI.out.keep hpb)
        clear hpi hpb
        have HPOS := Lib.hid hpos
        clear hpos
        go_wp2_with fail
        refine (round_n oa pa _ _ oc pc n.natAbs B w2 rfl rfl HOI2.out HPI.out (by omega) (by omega) HPOS.out).mono ?_
        rintro e w3 ⟨va, vc, rfl, hvi, hvb⟩
        rw [Dm.dg_length] at hvi ⊢
        have hnd3 : Dm.nd (rnd n.natAbs B) ≤ 20 := by
          refine Dm.nd_le _ 20 ?_
          have h1 := rnd_le n.natAbs B
          have h2 : (10 : Nat) ^ 20 = 100000000000000000000 := by decide +kernel
          have h3 := HN.out
          unfold i64 at h3
          omega
        have HVI := Lib.hid hvi; have HVB := Lib.hid (HPB.out.trans (hvb.mono HPB.out.size))
        clear hvi hvb
        go_wp2_with fail
        refine (ref_answer va _ vc _ sg _ rfl HVI.out (by omega)).mono ?_
        rintro e w4 ⟨rfl, hab⟩
        have HAB := Lib.hid (HVB.out.trans (hab.mono HVB.out.size))
        clear hab
        go_wp2
        go_ret2
        exact ⟨by rw [HM.out]; rfl, HAB.out⟩
    · have hm : rescM n f t = (0, 2) := by unfold rescM; rw [hf]; simp [ht]
      have ht' : scB t = false := by simpa using ht
      have HM := Lib.hid hm; have HF := Lib.hid hf; have HT := Lib.hid ht'
      clear hm hf ht ht'
      go_enter Tryd.func20, Tryd.ntmps20
      go_wp2_with fail
      refine (ref_scale f _).mono ?_
      rintro e w1 ⟨rfl, rfl⟩
      rw [HF.out]
      go_wp2_with fail
      refine (ref_scale t _).mono ?_
      rintro e w1 ⟨rfl, rfl⟩
      rw [HT.out]
      go_wp2
      go_ret2
      exact ⟨by rw [HM.out]; rfl, Below.refl _ _⟩
  · have hf' : scB f = false := by simpa using hf
    have hm : rescM n f t = (0, 2) := by unfold rescM; rw [hf']; simp
    have HM := Lib.hid hm; have HF := Lib.hid hf'
    clear hm hf hf'
    go_enter Tryd.func20, Tryd.ntmps20
    go_wp2_with fail
    refine (ref_scale f _).mono ?_
    rintro e w1 ⟨rfl, rfl⟩
    rw [HF.out]
    go_wp2
    go_ret2
    exact ⟨by rw [HM.out]; rfl, Below.refl _ _⟩

end Go.Proofs.YtgkjgaelclfffaaDoor
