/- The reference of layer 2: Int and answer: a number with a sign, or that it is beyond the ends. -/
import Derived.Test.YtfnnhhhkdfgefaaGreatDoorDecRa
namespace Go.Proofs.YtfnnhhhkdfgefaaGreatDoor
open Go.RowKit

/-- what Int answers: v where A is at most M -/
def inAns (A M : Nat) (v : Int) : Value := if A ≤ M then .tuple #[.int .i64 v, .bool true] else .tuple #[.int .i64 0, .bool false]
set_option maxHeartbeats 2000000 in
set_option maxRecDepth 100000 in
theorem ref_int_false (a0 : Option Addr) (c0 A : Nat) (w : World) (h0 : IntC (.slice a0 (Dm.nd A) c0) (Dm.dg A) w) (hA : Dm.nd A ≤ 1000) :
    Calls Tryz.prog 41 #[.slice a0 (Dm.nd A) c0, .bool false] w fun e w' => e = .returned (inAns A 9223372036854775807 ((A : Int))) ∧ Below w.heap.size w w' := by
  have hm20 : Dm.nd 9223372036854775807 ≤ 20 := Dm.nd_le _ 20 (by decide +kernel)
  have hm21 : Dm.nd 9223372036854775808 ≤ 20 := Dm.nd_le _ 20 (by decide +kernel)
  have H0 := Lib.hid h0
  clear h0
  go_enter Tryz.func41, Tryz.ntmps41
  go_wp2_with fail
  refine (ref_of_pos 9223372036854775807 _ (by omega)).mono ?_
  rintro e w1 ⟨ma, mc, rfl, hmi, hmb⟩
  rw [Dm.dg_length] at hmi ⊢
  have HMI := Lib.hid hmi
  have HMB := Lib.hid hmb
  clear hmi hmb
  have HPI := HMI
  have HPB := HMB
  have H02 := Lib.hid (H0.out.keep HPB.out)
  go_wp2_with fail
  refine (ref_cmp a0 ma c0 mc A 9223372036854775807 _ H02.out HPI.out (by omega) (by omega)).mono ?_
  rintro e w3 ⟨rfl, hcb⟩
  have HB3 := Lib.hid (HPB.out.trans (hcb.mono HPB.out.size))
  clear hcb H02 HPI HPB
  by_cases hle : A ≤ 9223372036854775807
  · have hcm : decide (0 < Dm.cmp A 9223372036854775807) = false := by rw [decide_eq_false_iff_not]; unfold Dm.cmp; split; omega; split; omega; omega
    have hfin : inAns A 9223372036854775807 ((A : Int)) = .tuple #[.int .i64 ((A : Int)), .bool true] := if_pos hle
    have HFIN := Lib.hid hfin
    have hAn := (Dm.nd_spec A).1
    have hd0 : ∀ j, j < Dm.nd A → (Dm.dg A).getD j 0 = ((A / 10 ^ j % 10 : Nat) : Int) := fun j hj => Dm.dg_get A j hj
    have HD0 := Lib.hid hd0
    have HAN := Lib.hid hAn
    clear hfin hd0 hAn
    generalize Dm.cmp A 9223372036854775807 = cm at *
    generalize Dm.nd A = nA at *
    generalize Dm.nd 9223372036854775807 = nm at *
    generalize Dm.nd 9223372036854775808 = nm2 at *
    go_wp2
    go_loopw [7, 8] (fun nv iv wx => ∃ j : Nat, j ≤ nA ∧ iv = .int .i64 ((j : Int) - 1) ∧ nv = .int .i64 (((A / 10 ^ j : Nat) : Int)) ∧ Hid (Below w.heap.size w wx)) (fun _ iv _ => (intOf iv + 1).toNat)
    case atStart => exact ⟨nA, Nat.le_refl _, rfl, by rw [Nat.div_eq_of_lt HAN.out]; rfl, HB3⟩
    case round =>
      obtain ⟨j, hj, rfl, rfl, HB⟩ := hrel
      cases j with
      | zero =>
        simp only [Nat.pow_zero, Nat.div_one]
        go_wp2
        go_ret2
        exact ⟨by rw [HFIN.out]; rfl, HB.out⟩
      | succ i =>
        have hj1 : (((i + 1 : Nat) : Int) - 1) = (i : Int) := by omega
        rw [hj1]
        clear hj1
        obtain ⟨g0, o0, rfl, hg0, hcell0⟩ := (H0.out.keep HB.out).at i (by omega)
        rw [HD0.out i (by omega)] at hcell0
        have hx9 : A / 10 ^ i % 10 ≤ 9 := Nat.le_of_lt_succ (Nat.mod_lt _ (by omega))
        have hds := Dm.div_step A i
        have hdl := Nat.div_le_self A (10 ^ i)
        generalize A / 10 ^ i % 10 = x at *
        generalize hPP : A / 10 ^ i = P' at *
        generalize A / 10 ^ (i + 1) = PP at *
        have HPP := Lib.hid hPP
        have HDS := Lib.hid hds
        have hb1 : PP * 10 + x ≤ 9223372036854775807 := by omega
        clear hPP hds
        go_wp2
        go_roundw
        case rel => exact ⟨i, by omega, by go_num, by rw [HPP.out, HDS.out]; go_num, HB⟩
        case measure => simp [intOf]
  · have hcm : decide (0 < Dm.cmp A 9223372036854775807) = true := by rw [decide_eq_true_iff]; unfold Dm.cmp; rw [if_neg (by omega), if_pos (by omega)]; omega
    have hfin : inAns A 9223372036854775807 ((A : Int)) = .tuple #[.int .i64 0, .bool false] := if_neg hle
    have HFIN := Lib.hid hfin
    clear hfin
    generalize Dm.cmp A 9223372036854775807 = cm at *
    go_wp2
    go_ret2
    exact ⟨by rw [HFIN.out]; rfl, HB3.out⟩
set_option maxHeartbeats 2000000 in
set_option maxRecDepth 100000 in
theorem ref_int_true (a0 : Option Addr) (c0 A : Nat) (w : World) (h0 : IntC (.slice a0 (Dm.nd A) c0) (Dm.dg A) w) (hA : Dm.nd A ≤ 1000) :
    Calls Tryz.prog 41 #[.slice a0 (Dm.nd A) c0, .bool true] w fun e w' => e = .returned (inAns A 9223372036854775808 (-(A : Int))) ∧ Below w.heap.size w w' := by
  have hm20 : Dm.nd 9223372036854775807 ≤ 20 := Dm.nd_le _ 20 (by decide +kernel)
  have hm21 : Dm.nd 9223372036854775808 ≤ 20 := Dm.nd_le _ 20 (by decide +kernel)
  have H0 := Lib.hid h0
  clear h0
  go_enter Tryz.func41, Tryz.ntmps41
  go_wp2_with fail
  refine (ref_of_pos 9223372036854775807 _ (by omega)).mono ?_
  rintro e w1 ⟨ma, mc, rfl, hmi, hmb⟩
  rw [Dm.dg_length] at hmi ⊢
  have HMI := Lib.hid hmi
  have HMB := Lib.hid hmb
  clear hmi hmb
  have hba : Below w1.heap.size w1 (w1.alloc (.cells #[.int .i64 1] 3)) := (Below.refl _ w1).alloc (Nat.le_refl _) _
  have HM1 := Lib.hid (HMI.out.keep hba)
  have HB1 := Lib.hid (HMB.out.trans (hba.mono HMB.out.size))
  clear hba
  go_wp2_with fail
  refine (plus_n ma (some ⟨w1.heap.size, 0, none⟩) _ 1 mc 1 9223372036854775807 1 _ rfl nd_one.symm HM1.out (lit_one w1) (by omega) (by omega)).mono ?_
  rintro e w2 ⟨pa, pc, rfl, hpi, hpb⟩
  rw [Dm.dg_length] at hpi ⊢
  have HPI := Lib.hid hpi
  have HPB := Lib.hid (HB1.out.trans (hpb.mono HB1.out.size))
  clear hpi hpb
  have H02 := Lib.hid (H0.out.keep HPB.out)
  go_wp2_with fail
  refine (ref_cmp a0 pa c0 pc A 9223372036854775808 _ H02.out HPI.out (by omega) (by omega)).mono ?_
  rintro e w3 ⟨rfl, hcb⟩
  have HB3 := Lib.hid (HPB.out.trans (hcb.mono HPB.out.size))
  clear hcb H02 HPI HPB
  by_cases hle : A ≤ 9223372036854775808
  · have hcm : decide (0 < Dm.cmp A 9223372036854775808) = false := by rw [decide_eq_false_iff_not]; unfold Dm.cmp; split; omega; split; omega; omega
    have hfin : inAns A 9223372036854775808 (-(A : Int)) = .tuple #[.int .i64 (-(A : Int)), .bool true] := if_pos hle
    have HFIN := Lib.hid hfin
    have hAn := (Dm.nd_spec A).1
    have hd0 : ∀ j, j < Dm.nd A → (Dm.dg A).getD j 0 = ((A / 10 ^ j % 10 : Nat) : Int) := fun j hj => Dm.dg_get A j hj
    have HD0 := Lib.hid hd0
    have HAN := Lib.hid hAn
    clear hfin hd0 hAn
    generalize Dm.cmp A 9223372036854775808 = cm at *
    generalize Dm.nd A = nA at *
    generalize Dm.nd 9223372036854775807 = nm at *
    generalize Dm.nd 9223372036854775808 = nm2 at *
    go_wp2
    go_loopw [7, 8] (fun nv iv wx => ∃ j : Nat, j ≤ nA ∧ iv = .int .i64 ((j : Int) - 1) ∧ nv = .int .i64 (-((A / 10 ^ j : Nat) : Int)) ∧ Hid (Below w.heap.size w wx)) (fun _ iv _ => (intOf iv + 1).toNat)
    case atStart => exact ⟨nA, Nat.le_refl _, rfl, by rw [Nat.div_eq_of_lt HAN.out]; rfl, HB3⟩
    case round =>
      obtain ⟨j, hj, rfl, rfl, HB⟩ := hrel
      cases j with
      | zero =>
        simp only [Nat.pow_zero, Nat.div_one]
        go_wp2
        go_ret2
        exact ⟨by rw [HFIN.out]; rfl, HB.out⟩
      | succ i =>
        have hj1 : (((i + 1 : Nat) : Int) - 1) = (i : Int) := by omega
        rw [hj1]
        clear hj1
        obtain ⟨g0, o0, rfl, hg0, hcell0⟩ := (H0.out.keep HB.out).at i (by omega)
        rw [HD0.out i (by omega)] at hcell0
        have hx9 : A / 10 ^ i % 10 ≤ 9 := Nat.le_of_lt_succ (Nat.mod_lt _ (by omega))
        have hds := Dm.div_step A i
        have hdl := Nat.div_le_self A (10 ^ i)
        generalize A / 10 ^ i % 10 = x at *
        generalize hPP : A / 10 ^ i = P' at *
        generalize A / 10 ^ (i + 1) = PP at *
        have HPP := Lib.hid hPP
        have HDS := Lib.hid hds
        have hb1 : PP * 10 + x ≤ 9223372036854775808 := by omega
        clear hPP hds
        go_wp2
        go_roundw
        case rel => exact ⟨i, by omega, by go_num, by rw [HPP.out, HDS.out]; go_num, HB⟩
        case measure => simp [intOf]
  · have hcm : decide (0 < Dm.cmp A 9223372036854775808) = true := by rw [decide_eq_true_iff]; unfold Dm.cmp; rw [if_neg (by omega), if_pos (by omega)]; omega
    have hfin : inAns A 9223372036854775808 (-(A : Int)) = .tuple #[.int .i64 0, .bool false] := if_neg hle
    have HFIN := Lib.hid hfin
    clear hfin
    generalize Dm.cmp A 9223372036854775808 = cm at *
    go_wp2
    go_ret2
    exact ⟨by rw [HFIN.out]; rfl, HB3.out⟩
end Go.Proofs.YtfnnhhhkdfgefaaGreatDoor
/- The reference of layer 2: answer, Scale, the number of digits. -/
namespace Go.Proofs.YtfnnhhhkdfgefaaGreatDoor
open Go.RowKit

/-- a number with a sign, and the error -/
def ansV (A : Nat) (minus : Bool) : Int × Int :=
  if minus then (if A ≤ 9223372036854775808 then (-(A : Int), 0) else (0, 20)) else (if A ≤ 9223372036854775807 then ((A : Int), 0) else (0, 20))
/-- what a function that answers a number and an error leaves -/
def Ans (p : Int × Int) (w : World) (e : Ending) (w' : World) : Prop := e = .returned (.tuple #[.int .i64 p.1, .int .i64 p.2]) ∧ Below w.heap.size w w'
set_option maxHeartbeats 1000000 in
theorem ref_answer (a0 : Option Addr) (n0 c0 A : Nat) (minus : Bool) (w : World) (e0 : n0 = Dm.nd A) (h0 : IntC (.slice a0 n0 c0) (Dm.dg A) w) (hA : n0 ≤ 1000) :
    Calls Tryz.prog 51 #[.slice a0 n0 c0, .bool minus] w (Ans (ansV A minus) w) := by
  subst e0
  have H0 := Lib.hid h0
  clear h0
  cases minus
  · by_cases hle : A ≤ 9223372036854775807
    · have e1 : inAns A 9223372036854775807 (A : Int) = .tuple #[.int .i64 (A : Int), .bool true] := if_pos hle
      have e2 : ansV A false = ((A : Int), 0) := by simp [ansV, hle]
      have E1 := Lib.hid e1; have E2 := Lib.hid e2
      clear e1 e2
      go_enter Tryz.func51, Tryz.ntmps51
      go_wp2_with fail
      refine (ref_int_false a0 c0 A _ H0.out hA).mono ?_
      rintro e w1 ⟨rfl, hb⟩
      have HB := Lib.hid hb
      clear hb
      rw [E1.out]
      go_wp2
      go_ret2
      exact ⟨by rw [E2.out]; rfl, HB.out⟩
    · have e1 : inAns A 9223372036854775807 (A : Int) = .tuple #[.int .i64 0, .bool false] := if_neg hle
      have e2 : ansV A false = (0, 20) := by simp [ansV, hle]
      have E1 := Lib.hid e1; have E2 := Lib.hid e2
      clear e1 e2
      go_enter Tryz.func51, Tryz.ntmps51
      go_wp2_with fail
      refine (ref_int_false a0 c0 A _ H0.out hA).mono ?_
      rintro e w1 ⟨rfl, hb⟩
      have HB := Lib.hid hb
      clear hb
      rw [E1.out]
      go_wp2
      go_ret2
      exact ⟨by rw [E2.out]; rfl, HB.out⟩
  · by_cases hle : A ≤ 9223372036854775808
    · have e1 : inAns A 9223372036854775808 (-(A : Int)) = .tuple #[.int .i64 (-(A : Int)), .bool true] := if_pos hle
      have e2 : ansV A true = (-(A : Int), 0) := by simp [ansV, hle]
      have E1 := Lib.hid e1; have E2 := Lib.hid e2
      clear e1 e2
      go_enter Tryz.func51, Tryz.ntmps51
      go_wp2_with fail
      refine (ref_int_true a0 c0 A _ H0.out hA).mono ?_
      rintro e w1 ⟨rfl, hb⟩
      have HB := Lib.hid hb
      clear hb
      rw [E1.out]
      go_wp2
      go_ret2
      exact ⟨by rw [E2.out]; rfl, HB.out⟩
    · have e1 : inAns A 9223372036854775808 (-(A : Int)) = .tuple #[.int .i64 0, .bool false] := if_neg hle
      have e2 : ansV A true = (0, 20) := by simp [ansV, hle]
      have E1 := Lib.hid e1; have E2 := Lib.hid e2
      clear e1 e2
      go_enter Tryz.func51, Tryz.ntmps51
      go_wp2_with fail
      refine (ref_int_true a0 c0 A _ H0.out hA).mono ?_
      rintro e w1 ⟨rfl, hb⟩
      have HB := Lib.hid hb
      clear hb
      rw [E1.out]
      go_wp2
      go_ret2
      exact ⟨by rw [E2.out]; rfl, HB.out⟩
/-- a valid scale -/
def scB (s : Int) : Bool := decide (0 ≤ s) && decide (s ≤ 6)
theorem scB_true {s : Int} (h : scB s = true) : 0 ≤ s ∧ s ≤ 6 := by simpa [scB] using h
theorem ref_scale (s : Int) (w : World) : Calls Tryz.prog 38 #[.int .i64 s] w fun e w' => e = .returned (.bool (scB s)) ∧ w = w' := by
  by_cases h0 : 0 ≤ s
  · by_cases h1 : s ≤ 6
    · have hs : Hid (scB s = true) := by show _ = _; simp [scB, h0, h1]
      have q0 : decide (0 ≤ s) = true := by simpa using h0
      have q1 : decide (s ≤ 6) = true := by simpa using h1
      go_enter Tryz.func38, Tryz.ntmps38
      go_wp2
      go_ret
      exact ⟨by rw [hs.out]; rfl, rfl⟩
    · have hs : Hid (scB s = false) := by show _ = _; simp [scB, h1]
      have q0 : decide (0 ≤ s) = true := by simpa using h0
      have q1 : decide (s ≤ 6) = false := by simpa using h1
      go_enter Tryz.func38, Tryz.ntmps38
      go_wp2
      go_ret
      exact ⟨by rw [hs.out]; rfl, rfl⟩
  · have hs : Hid (scB s = false) := by show _ = _; simp [scB, h0]
    have q0 : decide (0 ≤ s) = false := by simpa using h0
    go_enter Tryz.func38, Tryz.ntmps38
    go_wp2
    go_ret
    exact ⟨by rw [hs.out]; rfl, rfl⟩
/-- numbers that are ints -/
def i64 (n : Int) : Prop := -9223372036854775808 ≤ n ∧ n ≤ 9223372036854775807
theorem nd_i64 (n : Int) (h : i64 n) : Dm.nd n.natAbs ≤ 19 := by
  unfold i64 at h
  refine Dm.nd_le _ 19 ?_
  have : (10 : Nat) ^ 19 = 10000000000000000000 := by decide +kernel
  omega
theorem nd_mul10 (A k : Nat) : Dm.nd (A * 10 ^ k) ≤ Dm.nd A + k := by
  refine Dm.nd_le _ _ ?_
  rw [Nat.pow_add]
  exact Nat.mul_lt_mul_of_pos_right (Dm.nd_spec A).1 (Nat.pow_pos (by omega))
theorem shift_n (a : Option Addr) (n c A : Nat) (k : Int) (w : World) (e0 : n = Dm.nd A) (h : IntC (.slice a n c) (Dm.dg A) w) (hA : n ≤ 1000) (hk : 0 ≤ k ∧ k ≤ 1000) :
    Calls Tryz.prog 52 #[.slice a n c, .int .i64 k] w (Made (Dm.dg (A * 10 ^ k.toNat)) w) := by
  subst e0
  obtain ⟨m, rfl⟩ : ∃ m : Nat, k = (m : Int) := ⟨k.toNat, by omega⟩
  rw [Int.toNat_natCast]
  exact ref_shift a c A m w h hA (by omega)
theorem round_n (a0 a1 : Option Addr) (n0 n1 c0 c1 A B : Nat) (w : World) (e0 : n0 = Dm.nd A) (e1 : n1 = Dm.nd B) (h0 : IntC (.slice a0 n0 c0) (Dm.dg A) w) (h1 : IntC (.slice a1 n1 c1) (Dm.dg B) w) (hA : n0 ≤ 200) (hB : n1 ≤ 200) (hB0 : 0 < B) :
    Calls Tryz.prog 54 #[.slice a0 n0 c0, .slice a1 n1 c1] w (Made (Dm.dg (rnd A B)) w) := by
  subst e0 e1; exact ref_round a0 a1 c0 c1 A B w h0 h1 hA hB hB0
theorem rnd_le (A B : Nat) : rnd A B ≤ A + 1 := by
  unfold rnd
  have := Nat.div_le_self A B
  split <;> omega
end Go.Proofs.YtfnnhhhkdfgefaaGreatDoor
/- The reference of layer 2: Rescale. -/
namespace Go.Proofs.YtfnnhhhkdfgefaaGreatDoor
open Go.RowKit

/-- Rescale in plain numbers -/
def rescM (n f t : Int) : Int × Int :=
  if scB f && scB t then (if f ≤ t then ansV (n.natAbs * 10 ^ (t - f).toNat) (decide (n < 0)) else ansV (rnd n.natAbs (1 * 10 ^ (f - t).toNat)) (decide (n < 0))) else (0, 2)
set_option maxHeartbeats 400000 in
theorem ref_rescale (n f t : Int) (w : World) (hn : i64 n) : Calls Tryz.prog 39 #[.int .i64 n, .int .i64 f, .int .i64 t] w (Ans (rescM n f t) w) := by
  by_cases hf : scB f = true
  · by_cases ht : scB t = true
    · obtain ⟨f0, f1⟩ := scB_true hf
      obtain ⟨t0, t1⟩ := scB_true ht
      have hnd := nd_i64 n hn
      have HF := Lib.hid hf; have HT := Lib.hid ht; have HN := Lib.hid hn
      clear hn
      obtain ⟨sg, hsg⟩ : ∃ sg : Bool, decide (n < 0) = sg := ⟨_, rfl⟩
      by_cases hft : f ≤ t
      · have hm : rescM n f t = ansV (n.natAbs * 10 ^ (t - f).toNat) sg := by unfold rescM; rw [hf, ht, hsg]; simp [hft]
        have HM := Lib.hid hm
        have q : decide (f ≤ t) = true := by simpa using hft
        clear hm hf ht
        go_enter Tryz.func39, Tryz.ntmps39
        go_wp2_with fail
        refine (ref_scale f _).mono ?_
        rintro e w1 ⟨rfl, rfl⟩
        rw [HF.out]
        go_wp2_with fail
        refine (ref_scale t _).mono ?_
        rintro e w1 ⟨rfl, rfl⟩
        rw [HT.out]
        go_wp2_with fail
        refine (ref_of n _ HN.out).mono ?_
        rintro e w1 ⟨oa, oc, rfl, hoi, hob⟩
        rw [Dm.dg_length] at hoi ⊢
        have HOI := Lib.hid hoi; have HOB := Lib.hid hob
        clear hoi hob
        go_wp2_with fail
        refine (shift_n oa _ oc n.natAbs (t - f) _ rfl HOI.out (by omega) (by omega)).mono ?_
        rintro e w2 ⟨pa, pc, rfl, hpi, hpb⟩
        rw [Dm.dg_length] at hpi ⊢
        have hnd2 := nd_mul10 n.natAbs (t - f).toNat
        have HPI := Lib.hid hpi; have HPB := Lib.hid (HOB.out.trans (hpb.mono HOB.out.size))
        clear hpi hpb
        go_wp2_with fail
        refine (ref_answer pa _ pc _ sg _ rfl HPI.out (by omega)).mono ?_
        rintro e w3 ⟨rfl, hab⟩
        have HAB := Lib.hid (HPB.out.trans (hab.mono HPB.out.size))
        clear hab
        go_wp2
        go_ret2
        exact ⟨by rw [HM.out]; rfl, HAB.out⟩
      · have hm : rescM n f t = ansV (rnd n.natAbs (1 * 10 ^ (f - t).toNat)) sg := by unfold rescM; rw [hf, ht, hsg]; simp [hft]
        have HM := Lib.hid hm
        have q : decide (f ≤ t) = false := by simpa using hft
        clear hm hf ht
        go_enter Tryz.func39, Tryz.ntmps39
        go_wp2_with fail
        refine (ref_scale f _).mono ?_
        rintro e w1 ⟨rfl, rfl⟩
        rw [HF.out]
        go_wp2_with fail
        refine (ref_scale t _).mono ?_
        rintro e w1 ⟨rfl, rfl⟩
        rw [HT.out]
        go_wp2_with fail
        refine (ref_of n _ HN.out).mono ?_
        rintro e w1 ⟨oa, oc, rfl, hoi, hob⟩
        rw [Dm.dg_length] at hoi ⊢
        have hba : Below w1.heap.size w1 (w1.alloc (.cells #[.int .i64 1] 3)) := (Below.refl _ w1).alloc (Nat.le_refl _) _
        have HOI := Lib.hid (hoi.keep hba); have HOB := Lib.hid (hob.trans (hba.mono hob.size))
        clear hoi hob hba
        go_wp2_with fail
        refine (shift_n (some ⟨w1.heap.size, 0, none⟩) 1 1 1 (f - t) _ nd_one.symm (lit_one w1) (by omega) (by omega)).mono ?_
        rintro e w2 ⟨pa, pc, rfl, hpi, hpb⟩
        have hnd2 := nd_mul10 1 (f - t).toNat
        rw [nd_one] at hnd2
        have hpos : 0 < 1 * 10 ^ (f - t).toNat := by rw [Nat.one_mul]; exact Nat.pow_pos (by omega)
        revert HM hpi hnd2 hpos
        generalize 1 * 10 ^ (f - t).toNat = B
        intro HM hpi hnd2 hpos
        rw [Dm.dg_length] at hpi ⊢
        have HPI := Lib.hid hpi; have HPB := Lib.hid (HOB.out.trans (hpb.mono HOB.out.size)); have HOI2 := Lib.hid (HOI.out.keep hpb)
        clear hpi hpb
        have HPOS := Lib.hid hpos
        clear hpos
        go_wp2_with fail
        refine (round_n oa pa _ _ oc pc n.natAbs B w2 rfl rfl HOI2.out HPI.out (by omega) (by omega) HPOS.out).mono ?_
        rintro e w3 ⟨va, vc, rfl, hvi, hvb⟩
        rw [Dm.dg_length] at hvi ⊢
        have hnd3 : Dm.nd (rnd n.natAbs B) ≤ 20 := by
          refine Dm.nd_le _ 20 ?_
          have h1 := rnd_le n.natAbs B
          have h2 : (10 : Nat) ^ 20 = 100000000000000000000 := by decide +kernel
          have h3 := HN.out
          unfold i64 at h3
          omega
        have HVI := Lib.hid hvi; have HVB := Lib.hid (HPB.out.trans (hvb.mono HPB.out.size))
        clear hvi hvb
        go_wp2_with fail
        refine (ref_answer va _ vc _ sg _ rfl HVI.out (by omega)).mono ?_
        rintro e w4 ⟨rfl, hab⟩
        have HAB := Lib.hid (HVB.out.trans (hab.mono HVB.out.size))
        clear hab
        go_wp2
        go_ret2
        exact ⟨by rw [HM.out]; rfl, HAB.out⟩
    · have hm : rescM n f t = (0, 2) := by unfold rescM; rw [hf]; simp [ht]
      have ht' : scB t = false := by simpa using ht
      have HM := Lib.hid hm; have HF := Lib.hid hf; have HT := Lib.hid ht'
      clear hm hf ht ht'
      go_enter Tryz.func39, Tryz.ntmps39
      go_wp2_with fail
      refine (ref_scale f _).mono ?_
      rintro e w1 ⟨rfl, rfl⟩
      rw [HF.out]
      go_wp2_with fail
      refine (ref_scale t _).mono ?_
      rintro e w1 ⟨rfl, rfl⟩
      rw [HT.out]
      go_wp2
      go_ret2
      exact ⟨by rw [HM.out]; rfl, Below.refl _ _⟩
  · have hf' : scB f = false := by simpa using hf
    have hm : rescM n f t = (0, 2) := by unfold rescM; rw [hf']; simp
    have HM := Lib.hid hm; have HF := Lib.hid hf'
    clear hm hf hf'
    go_enter Tryz.func39, Tryz.ntmps39
    go_wp2_with fail
    refine (ref_scale f _).mono ?_
    rintro e w1 ⟨rfl, rfl⟩
    rw [HF.out]
    go_wp2
    go_ret2
    exact ⟨by rw [HM.out]; rfl, Below.refl _ _⟩
end Go.Proofs.YtfnnhhhkdfgefaaGreatDoor
/- The reference of layer 2: Mul. -/
namespace Go.Proofs.YtfnnhhhkdfgefaaGreatDoor
open Go.RowKit

/-- Mul in plain numbers -/
def mulM (a fa b fb t : Int) : Int × Int :=
  if scB fa && scB fb && scB t then ansV (rnd (a.natAbs * b.natAbs * 10 ^ t.toNat) (1 * 10 ^ (fa + fb).toNat)) (decide (a < 0) != decide (b < 0)) else (0, 2)
end Go.Proofs.YtfnnhhhkdfgefaaGreatDoor
/- The reference of layer 2: Div. -/
namespace Go.Proofs.YtfnnhhhkdfgefaaGreatDoor
open Go.RowKit

/-- Div in plain numbers -/
def divM (a fa b fb t : Int) : Int × Int :=
  if scB fa && scB fb && scB t then (if (b == 0) = true then (0, 21) else ansV (rnd (a.natAbs * 10 ^ (fb + t).toNat) (b.natAbs * 10 ^ fa.toNat)) (decide (a < 0) != decide (b < 0))) else (0, 2)
end Go.Proofs.YtfnnhhhkdfgefaaGreatDoor
/- The reference of layer 2: Compare. -/
namespace Go.Proofs.YtfnnhhhkdfgefaaGreatDoor
open Go.RowKit

/-- what a function that answers a number leaves -/
def Num (n : Int) (w : World) (e : Ending) (w' : World) : Prop := e = .returned (.int .i64 n) ∧ Below w.heap.size w w'
/-- Compare in plain numbers -/
def compM (a fa b fb : Int) : Int :=
  if scB fa && scB fb then
    (if decide (a < 0) then (if decide (b < 0) then -(Dm.cmp (a.natAbs * 10 ^ fb.toNat) (b.natAbs * 10 ^ fa.toNat)) else -1)
      else (if decide (b < 0) then 1 else Dm.cmp (a.natAbs * 10 ^ fb.toNat) (b.natAbs * 10 ^ fa.toNat)))
  else 0
theorem cmp_le (A B : Nat) : -1 ≤ Dm.cmp A B ∧ Dm.cmp A B ≤ 1 := by unfold Dm.cmp; split <;> (try split) <;> omega
end Go.Proofs.YtfnnhhhkdfgefaaGreatDoor
