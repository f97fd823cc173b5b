/- The reference of layer 2: answer, Scale, the number of digits. -/
import Derived.Test.YtamclbagafcmgaaDoorDecRa
namespace Go.Proofs.YtamclbagafcmgaaDoor
open Go.RowKit

/-- a number with a sign, and the error -/
def ansV (A : Nat) (minus : Bool) : Int × Int :=
  if minus then (if A ≤ 9223372036854775808 then (-(A : Int), 0) else (0, 20)) else (if A ≤ 9223372036854775807 then ((A : Int), 0) else (0, 20))
/-- a valid scale -/
def scB (s : Int) : Bool := decide (0 ≤ s) && decide (s ≤ 6)
theorem scB_true {s : Int} (h : scB s = true) : 0 ≤ s ∧ s ≤ 6 := by simpa [scB] using h
theorem ref_scale (s : Int) (w : World) : Calls Tryd.prog 27 #[.int .i64 s] w fun e w' => e = .returned (.bool (scB s)) ∧ w = w' := by
  by_cases h0 : 0 ≤ s
  · by_cases h1 : s ≤ 6
    · have hs : Hid (scB s = true) := by show _ = _; simp [scB, h0, h1]
      have q0 : decide (0 ≤ s) = true := by simpa using h0
      have q1 : decide (s ≤ 6) = true := by simpa using h1
      go_enter Tryd.func27, Tryd.ntmps27
      go_wp2
      go_ret
      exact ⟨by rw [hs.out]; rfl, rfl⟩
    · have hs : Hid (scB s = false) := by show _ = _; simp [scB, h1]
      have q0 : decide (0 ≤ s) = true := by simpa using h0
      have q1 : decide (s ≤ 6) = false := by simpa using h1
      go_enter Tryd.func27, Tryd.ntmps27
      go_wp2
      go_ret
      exact ⟨by rw [hs.out]; rfl, rfl⟩
  · have hs : Hid (scB s = false) := by show _ = _; simp [scB, h0]
    have q0 : decide (0 ≤ s) = false := by simpa using h0
    go_enter Tryd.func27, Tryd.ntmps27
    go_wp2
    go_ret
    exact ⟨by rw [hs.out]; rfl, rfl⟩
/-- numbers that are ints -/
def i64 (n : Int) : Prop := -9223372036854775808 ≤ n ∧ n ≤ 9223372036854775807
theorem nd_i64 (n : Int) (h : i64 n) : Dm.nd n.natAbs ≤ 19 := by
  unfold i64 at h
  refine Dm.nd_le _ 19 ?_
  have : (10 : Nat) ^ 19 = 10000000000000000000 := by decide +kernel
  omega
theorem nd_mul10 (A k : Nat) : Dm.nd (A * 10 ^ k) ≤ Dm.nd A + k := by
  refine Dm.nd_le _ _ ?_
  rw [Nat.pow_add]
  exact Nat.mul_lt_mul_of_pos_right (Dm.nd_spec A).1 (Nat.pow_pos (by omega))
theorem shift_n (a : Option Addr) (n c A : Nat) (k : Int) (w : World) (e0 : n = Dm.nd A) (h : IntC (.slice a n c) (Dm.dg A) w) (hA : n ≤ 1000) (hk : 0 ≤ k ∧ k ≤ 1000) :
    Calls Tryd.prog 48 #[.slice a n c, .int .i64 k] w (Made (Dm.dg (A * 10 ^ k.toNat)) w) := by
  subst e0
  obtain ⟨m, rfl⟩ : ∃ m : Nat, k = (m : Int) := ⟨k.toNat, by omega⟩
  rw [Int.toNat_natCast]
  exact ref_shift a c A m w h hA (by omega)
end Go.Proofs.YtamclbagafcmgaaDoor
/- The reference of layer 2: Mul. -/
namespace Go.Proofs.YtamclbagafcmgaaDoor
open Go.RowKit

/-- Mul in plain numbers -/
def mulM (a fa b fb t : Int) : Int × Int :=
  if scB fa && scB fb && scB t then ansV (rnd (a.natAbs * b.natAbs * 10 ^ t.toNat) (1 * 10 ^ (fa + fb).toNat)) (decide (a < 0) != decide (b < 0)) else (0, 2)
end Go.Proofs.YtamclbagafcmgaaDoor
/- The reference of layer 2: Compare. -/
namespace Go.Proofs.YtamclbagafcmgaaDoor
open Go.RowKit

/-- what a function that answers a number leaves -/
def Num (n : Int) (w : World) (e : Ending) (w' : World) : Prop := e = .returned (.int .i64 n) ∧ Below w.heap.size w w'
/-- Compare in plain numbers -/
def compM (a fa b fb : Int) : Int :=
  if scB fa && scB fb then
    (if decide (a < 0) then (if decide (b < 0) then -(Dm.cmp (a.natAbs * 10 ^ fb.toNat) (b.natAbs * 10 ^ fa.toNat)) else -1)
      else (if decide (b < 0) then 1 else Dm.cmp (a.natAbs * 10 ^ fb.toNat) (b.natAbs * 10 ^ fa.toNat)))
  else 0
theorem cmp_le (A B : Nat) : -1 ≤ Dm.cmp A B ∧ Dm.cmp A B ≤ 1 := by unfold Dm.cmp; split <;> (try split) <;> omega
theorem ref_compare_no0 (a fa b fb : Int) (w : World) (hf : scB fa = false) : Calls Tryd.prog 38 #[.int .i64 a, .int .i64 fa, .int .i64 b, .int .i64 fb] w (Num (compM a fa b fb) w) := by
  have hm : compM a fa b fb = 0 := by unfold compM; simp [hf]
  have HM := Lib.hid hm; have HF := Lib.hid hf
  clear hm hf
  go_enter Tryd.func38, Tryd.ntmps38
  go_wp2_with fail
  refine (ref_scale fa _).mono ?_
  rintro e w1 ⟨rfl, rfl⟩
  rw [HF.out]
  go_wp2
  go_ret
  exact ⟨by rw [HM.out]; rfl, Below.refl _ _⟩
theorem ref_compare_no1 (a fa b fb : Int) (w : World) (hf : scB fa = true) (hg : scB fb = false) : Calls Tryd.prog 38 #[.int .i64 a, .int .i64 fa, .int .i64 b, .int .i64 fb] w (Num (compM a fa b fb) w) := by
  have hm : compM a fa b fb = 0 := by unfold compM; simp [hf, hg]
  have HM := Lib.hid hm; have HF := Lib.hid hf; have HG := Lib.hid hg
  clear hm hf hg
  go_enter Tryd.func38, Tryd.ntmps38
  go_wp2_with fail
  refine (ref_scale fa _).mono ?_
  rintro e w1 ⟨rfl, rfl⟩
  rw [HF.out]
  go_wp2_with fail
  refine (ref_scale fb _).mono ?_
  rintro e w1 ⟨rfl, rfl⟩
  rw [HG.out]
  go_wp2
  go_ret
  exact ⟨by rw [HM.out]; rfl, Below.refl _ _⟩
set_option maxHeartbeats 400000 in
theorem ref_compare_true_true (a fa b fb : Int) (w : World) (ha : i64 a) (hb : i64 b) (hf : scB fa = true) (hg : scB fb = true) (qa : decide (a < 0) = true) (qb : decide (b < 0) = true) : Calls Tryd.prog 38 #[.int .i64 a, .int .i64 fa, .int .i64 b, .int .i64 fb] w (Num (compM a fa b fb) w) := by
  have qa' : decide (0 ≤ a) = false := by simp at qa ⊢; omega
  have qb' : decide (0 ≤ b) = false := by simp at qb ⊢; omega
  have hm : compM a fa b fb = -(Dm.cmp (a.natAbs * 10 ^ fb.toNat) (b.natAbs * 10 ^ fa.toNat)) := by unfold compM; rw [hf, hg, qa, qb]; rfl
  have HM := Lib.hid hm
  have ia := nd_i64 a ha
  have ib := nd_i64 b hb
  have HA := Lib.hid ha; have HB := Lib.hid hb
  obtain ⟨f0, f1⟩ := scB_true hf
  obtain ⟨g0, g1⟩ := scB_true hg
  have HF := Lib.hid hf; have HG := Lib.hid hg
  clear hm ha hb hf hg
  go_enter Tryd.func38, Tryd.ntmps38
  go_wp2_with fail
  refine (ref_scale fa _).mono ?_
  rintro e w1 ⟨rfl, rfl⟩
  rw [HF.out]
  go_wp2_with fail
  refine (ref_scale fb _).mono ?_
  rintro e w1 ⟨rfl, rfl⟩
  rw [HG.out]
  go_wp2_with fail
  refine (ref_of a _ HA.out).mono ?_
  rintro e w1 ⟨oa, oc, rfl, hi, hb⟩
  rw [Dm.dg_length] at hi ⊢
  have HOI := Lib.hid hi; have HOB := Lib.hid hb
  clear hi hb
  go_wp2_with fail
  refine (shift_n oa _ oc a.natAbs fb w1 rfl HOI.out (by omega) (by omega)).mono ?_
  rintro e w2 ⟨sa, sc, rfl, hi, hb⟩
  have is := nd_mul10 a.natAbs fb.toNat
  revert HM hi is
  generalize a.natAbs * 10 ^ fb.toNat = S
  intro HM hi is
  rw [Dm.dg_length] at hi ⊢
  have HSI := Lib.hid hi; have HSB := Lib.hid (HOB.out.trans (hb.mono HOB.out.size))
  clear hi hb HOI HOB
  go_wp2_with fail
  refine (ref_of b _ HB.out).mono ?_
  rintro e w3 ⟨pa, pc, rfl, hi, hb⟩
  rw [Dm.dg_length] at hi ⊢
  have HSI2 := Lib.hid (HSI.out.keep hb); have HPI := Lib.hid hi; have HPB := Lib.hid (HSB.out.trans (hb.mono HSB.out.size))
  clear hi hb HSI HSB
  go_wp2_with fail
  refine (shift_n pa _ pc b.natAbs fa w3 rfl HPI.out (by omega) (by omega)).mono ?_
  rintro e w4 ⟨ua, uc, rfl, hi, hb⟩
  have iu := nd_mul10 b.natAbs fa.toNat
  revert HM hi iu
  generalize b.natAbs * 10 ^ fa.toNat = U
  intro HM hi iu
  rw [Dm.dg_length] at hi ⊢
  have HUI := Lib.hid hi; have HUB := Lib.hid (HPB.out.trans (hb.mono HPB.out.size)); have HSI3 := Lib.hid (HSI2.out.keep hb)
  clear hi hb HSI2 HPI HPB
  go_wp2_with fail
  refine (cmp_n sa ua _ _ sc uc S U w4 rfl rfl HSI3.out HUI.out (by omega) (by omega)).mono ?_
  rintro e w6 ⟨rfl, hb⟩
  have hc := cmp_le S U
  revert HM hc
  generalize Dm.cmp S U = c
  intro HM hc
  have HVB := Lib.hid (HUB.out.trans (hb.mono HUB.out.size))
  clear hb HUI HSI3 HUB
  go_wp2
  go_ret
  exact ⟨by rw [HM.out]; rfl, HVB.out⟩
set_option maxHeartbeats 400000 in
theorem ref_compare_true_false (a fa b fb : Int) (w : World) (_ha : i64 a) (_hb : i64 b) (hf : scB fa = true) (hg : scB fb = true) (qa : decide (a < 0) = true) (qb : decide (b < 0) = false) : Calls Tryd.prog 38 #[.int .i64 a, .int .i64 fa, .int .i64 b, .int .i64 fb] w (Num (compM a fa b fb) w) := by
  have qa' : decide (0 ≤ a) = false := by simp at qa ⊢; omega
  have qb' : decide (0 ≤ b) = true := by simp at qb ⊢; omega
  have hm : compM a fa b fb = -1 := by unfold compM; rw [hf, hg, qa, qb]; rfl
  have HM := Lib.hid hm; have HF := Lib.hid hf; have HG := Lib.hid hg
  clear hm hf hg
  go_enter Tryd.func38, Tryd.ntmps38
  go_wp2_with fail
  refine (ref_scale fa _).mono ?_
  rintro e w1 ⟨rfl, rfl⟩
  rw [HF.out]
  go_wp2_with fail
  refine (ref_scale fb _).mono ?_
  rintro e w1 ⟨rfl, rfl⟩
  rw [HG.out]
  go_wp2
  go_ret
  exact ⟨by rw [HM.out]; rfl, Below.refl _ _⟩
set_option maxHeartbeats 400000 in
theorem ref_compare_false_true (a fa b fb : Int) (w : World) (_ha : i64 a) (_hb : i64 b) (hf : scB fa = true) (hg : scB fb = true) (qa : decide (a < 0) = false) (qb : decide (b < 0) = true) : Calls Tryd.prog 38 #[.int .i64 a, .int .i64 fa, .int .i64 b, .int .i64 fb] w (Num (compM a fa b fb) w) := by
  have qa' : decide (0 ≤ a) = true := by simp at qa ⊢; omega
  have qb' : decide (0 ≤ b) = false := by simp at qb ⊢; omega
  have hm : compM a fa b fb = 1 := by unfold compM; rw [hf, hg, qa, qb]; rfl
  have HM := Lib.hid hm; have HF := Lib.hid hf; have HG := Lib.hid hg
  clear hm hf hg
  go_enter Tryd.func38, Tryd.ntmps38
  go_wp2_with fail
  refine (ref_scale fa _).mono ?_
  rintro e w1 ⟨rfl, rfl⟩
  rw [HF.out]
  go_wp2_with fail
  refine (ref_scale fb _).mono ?_
  rintro e w1 ⟨rfl, rfl⟩
  rw [HG.out]
  go_wp2
  go_ret
  exact ⟨by rw [HM.out]; rfl, Below.refl _ _⟩
set_option maxHeartbeats 400000 in
theorem ref_compare_false_false (a fa b fb : Int) (w : World) (ha : i64 a) (hb : i64 b) (hf : scB fa = true) (hg : scB fb = true) (qa : decide (a < 0) = false) (qb : decide (b < 0) = false) : Calls Tryd.prog 38 #[.int .i64 a, .int .i64 fa, .int .i64 b, .int .i64 fb] w (Num (compM a fa b fb) w) := by
  have qa' : decide (0 ≤ a) = true := by simp at qa ⊢; omega
  have qb' : decide (0 ≤ b) = true := by simp at qb ⊢; omega
  have hm : compM a fa b fb = (Dm.cmp (a.natAbs * 10 ^ fb.toNat) (b.natAbs * 10 ^ fa.toNat)) := by unfold compM; rw [hf, hg, qa, qb]; rfl
  have HM := Lib.hid hm
  have ia := nd_i64 a ha
  have ib := nd_i64 b hb
  have HA := Lib.hid ha; have HB := Lib.hid hb
  obtain ⟨f0, f1⟩ := scB_true hf
  obtain ⟨g0, g1⟩ := scB_true hg
  have HF := Lib.hid hf; have HG := Lib.hid hg
  clear hm ha hb hf hg
  go_enter Tryd.func38, Tryd.ntmps38
  go_wp2_with fail
  refine (ref_scale fa _).mono ?_
  rintro e w1 ⟨rfl, rfl⟩
  rw [HF.out]
  go_wp2_with fail
  refine (ref_scale fb _).mono ?_
  rintro e w1 ⟨rfl, rfl⟩
  rw [HG.out]
  go_wp2_with fail
  refine (ref_of a _ HA.out).mono ?_
  rintro e w1 ⟨oa, oc, rfl, hi, hb⟩
  rw [Dm.dg_length] at hi ⊢
  have HOI := Lib.hid hi; have HOB := Lib.hid hb
  clear hi hb
  go_wp2_with fail
  refine (shift_n oa _ oc a.natAbs fb w1 rfl HOI.out (by omega) (by omega)).mono ?_
  rintro e w2 ⟨sa, sc, rfl, hi, hb⟩
  have is := nd_mul10 a.natAbs fb.toNat
  revert HM hi is
  generalize a.natAbs * 10 ^ fb.toNat = S
  intro HM hi is
  rw [Dm.dg_length] at hi ⊢
  have HSI := Lib.hid hi; have HSB := Lib.hid (HOB.out.trans (hb.mono HOB.out.size))
  clear hi hb HOI HOB
  go_wp2_with fail
  refine (ref_of b _ HB.out).mono ?_
  rintro e w3 ⟨pa, pc, rfl, hi, hb⟩
  rw [Dm.dg_length] at hi ⊢
  have HSI2 := Lib.hid (HSI.out.keep hb); have HPI := Lib.hid hi; have HPB := Lib.hid (HSB.out.trans (hb.mono HSB.out.size))
  clear hi hb HSI HSB
  go_wp2_with fail
  refine (shift_n pa _ pc b.natAbs fa w3 rfl HPI.out (by omega) (by omega)).mono ?_
  rintro e w4 ⟨ua, uc, rfl, hi, hb⟩
  have iu := nd_mul10 b.natAbs fa.toNat
  revert HM hi iu
  generalize b.natAbs * 10 ^ fa.toNat = U
  intro HM hi iu
  rw [Dm.dg_length] at hi ⊢
  have HUI := Lib.hid hi; have HUB := Lib.hid (HPB.out.trans (hb.mono HPB.out.size)); have HSI3 := Lib.hid (HSI2.out.keep hb)
  clear hi hb HSI2 HPI HPB
  go_wp2_with fail
  refine (cmp_n sa ua _ _ sc uc S U w4 rfl rfl HSI3.out HUI.out (by omega) (by omega)).mono ?_
  rintro e w6 ⟨rfl, hb⟩
  have hc := cmp_le S U
  revert HM hc
  generalize Dm.cmp S U = c
  intro HM hc
  have HVB := Lib.hid (HUB.out.trans (hb.mono HUB.out.size))
  clear hb HUI HSI3 HUB
  go_wp2
  go_ret
  exact ⟨by rw [HM.out]; rfl, HVB.out⟩
theorem ref_compare (a fa b fb : Int) (w : World) (ha : i64 a) (hb : i64 b) : Calls Tryd.prog 38 #[.int .i64 a, .int .i64 fa, .int .i64 b, .int .i64 fb] w (Num (compM a fa b fb) w) := by
  cases hf : scB fa
  · exact ref_compare_no0 a fa b fb w hf
  cases hg : scB fb
  · exact ref_compare_no1 a fa b fb w hf hg
  cases qa : decide (a < 0)
  · cases qb : decide (b < 0)
    · exact ref_compare_false_false a fa b fb w ha hb hf hg qa qb
    · exact ref_compare_false_true a fa b fb w ha hb hf hg qa qb
  · cases qb : decide (b < 0)
    · exact ref_compare_true_false a fa b fb w ha hb hf hg qa qb
    · exact ref_compare_true_true a fa b fb w ha hb hf hg qa qb
end Go.Proofs.YtamclbagafcmgaaDoor
