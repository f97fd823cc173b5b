/- The reference of layer 2: Int and answer: a number with a sign, or that it is beyond the ends. -/
import Derived.Test.YtgkjgaelclfffaaDoorDecRef6
namespace Go.Proofs.YtgkjgaelclfffaaDoor
open Go.RowKit

/-- what Int answers: v where A is at most M -/
def inAns (A M : Nat) (v : Int) : Value := if A ≤ M then .tuple #[.int .i64 v, .bool true] else .tuple #[.int .i64 0, .bool false]

set_option maxHeartbeats 2000000 in
set_option maxRecDepth 100000 in
theorem ref_int_false (a0 : Option Addr) (c0 A : Nat) (w : World) (h0 : IntC (.slice a0 (Dm.nd A) c0) (Dm.dg A) w) (hA : Dm.nd A ≤ 1000) :
    Calls Tryd.prog 37 #[.slice a0 (Dm.nd A) c0, .bool false] w fun e w' => e = .returned (inAns A 9223372036854775807 ((A : Int))) ∧ Below w.heap.size w w' := by
  have hm20 : Dm.nd 9223372036854775807 ≤ 20 := Dm.nd_le _ 20 (by decide +kernel)
  have hm21 : Dm.nd 9223372036854775808 ≤ 20 := Dm.nd_le _ 20 (by decide +kernel)
  have H0 := Lib.hid h0
  clear h0
  go_enter Tryd.func37, Tryd.ntmps37
  go_wp2_with fail
  refine (ref_of_pos 9223372036854775807 _ (by omega)).mono ?_
  rintro e w1 ⟨ma, mc, rfl, hmi, hmb⟩
  rw [Dm.dg_length] at hmi ⊢
  have HMI := Lib.hid hmi
  have HMB := Lib.hid hmb
  clear hmi hmb
  have HPI := HMI
  have HPB := HMB
  have H02 := Lib.hid (H0.out.keep HPB.out)
  go_wp2_with fail
  refine (ref_cmp a0 ma c0 mc A 9223372036854775807 _ H02.out HPI.out (by omega) (by omega)).mono ?_
  rintro e w3 ⟨rfl, hcb⟩
  have HB3 := Lib.hid (HPB.out.trans (hcb.mono HPB.out.size))
  clear hcb H02 HPI HPB
  by_cases hle : A ≤ 9223372036854775807
  · have hcm : decide (0 < Dm.cmp A 9223372036854775807) = false := by rw [decide_eq_false_iff_not]; unfold Dm.cmp; split; omega; split; omega; omega
    have hfin : inAns A 9223372036854775807 ((A : Int)) = .tuple #[.int .i64 ((A : Int)), .bool true] := if_pos hle
    have HFIN := Lib.hid hfin
    have hAn := (Dm.nd_spec A).1
    have hd0 : ∀ j, j < Dm.nd A → (Dm.dg A).getD j 0 = ((A / 10 ^ j % 10 : Nat) : Int) := fun j hj => Dm.dg_get A j hj
    have HD0 := Lib.hid hd0
    have HAN := Lib.hid hAn
    clear hfin hd0 hAn
    generalize Dm.cmp A 9223372036854775807 = cm at *
    generalize Dm.nd A = nA at *
    generalize Dm.nd 9223372036854775807 = nm at *
    generalize Dm.nd 9223372036854775808 = nm2 at *
    go_wp2
    go_loopw [7, 8] (fun nv iv wx => ∃ j : Nat, j ≤ nA ∧ iv = .int .i64 ((j : Int) - 1) ∧ nv = .int .i64 (((A / 10 ^ j : Nat) : Int)) ∧ Hid (Below w.heap.size w wx)) (fun _ iv _ => (intOf iv + 1).toNat)
    case atStart => exact ⟨nA, Nat.le_refl _, rfl, by rw [Nat.div_eq_of_lt HAN.out]; rfl, HB3⟩
    case round =>
      obtain ⟨j, hj, rfl, rfl, HB⟩ := hrel
      cases j with
      | zero =>
        simp only [Nat.pow_zero, Nat.div_one]
        go_wp2
        go_ret2
        exact ⟨by rw [HFIN.out]; rfl, HB.out⟩
      | succ i =>
        have hj1 : (((i + 1 : Nat) : Int) - 1) = (i : Int) := by omega
        rw [hj1]
        clear hj1
        obtain ⟨g0, o0, rfl, hg0, hcell0⟩ := (H0.out.keep HB.out).at i (by omega)
        rw [HD0.out i (by omega)] at hcell0
        have hx9 : A / 10 ^ i % 10 ≤ 9 := Nat.le_of_lt_succ (Nat.mod_lt _ (by omega))
        have hds := Dm.div_step A i
        have hdl := Nat.div_le_self A (10 ^ i)
        generalize A / 10 ^ i % 10 = x at *
        generalize hPP : A / 10 ^ i = P' at *
        generalize A / 10 ^ (i + 1) = PP at *
        have HPP := Lib.hid hPP
        have HDS := Lib.hid hds
        have hb1 : PP * 10 + x ≤ 9223372036854775807 := by omega
        clear hPP hds
        go_wp2
        go_roundw
        case rel => exact ⟨i, by omega, by go_num, by rw [HPP.out, HDS.out]; go_num, HB⟩
        case measure => simp [intOf]
  · have hcm : decide (0 < Dm.cmp A 9223372036854775807) = true := by rw [decide_eq_true_iff]; unfold Dm.cmp; rw [if_neg (by omega), if_pos (by omega)]; omega
    have hfin : inAns A 9223372036854775807 ((A : Int)) = .tuple #[.int .i64 0, .bool false] := if_neg hle
    have HFIN := Lib.hid hfin
    clear hfin
    generalize Dm.cmp A 9223372036854775807 = cm at *
    go_wp2
    go_ret2
    exact ⟨by rw [HFIN.out]; rfl, HB3.out⟩

set_option maxHeartbeats 2000000 in
set_option maxRecDepth 100000 in
theorem ref_int_true (a0 : Option Addr) (c0 A : Nat) (w : World) (h0 : IntC (.slice a0 (Dm.nd A) c0) (Dm.dg A) w) (hA : Dm.nd A ≤ 1000) :
    Calls Tryd.prog 37 #[.slice a0 (Dm.nd A) c0, .bool true] w fun e w' => e = .returned (inAns A 9223372036854775808 (-(A : Int))) ∧ Below w.heap.size w w' := by
  have hm20 : Dm.nd 9223372036854775807 ≤ 20 := Dm.nd_le _ 20 (by decide +kernel)
  have hm21 : Dm.nd 9223372036854775808 ≤ 20 := Dm.nd_le _ 20 (by decide +kernel)
  have H0 := Lib.hid h0
  clear h0
  go_enter Tryd.func37, Tryd.ntmps37
  go_wp2_with fail
  refine (ref_of_pos 9223372036854775807 _ (by omega)).mono ?_
  rintro e w1 ⟨ma, mc, rfl, hmi, hmb⟩
  rw [Dm.dg_length] at hmi ⊢
  have HMI := Lib.hid hmi
  have HMB := Lib.hid hmb
  clear hmi hmb
  have hba : Below w1.heap.size w1 (w1.alloc (.cells #[.int .i64 1] 3)) := (Below.refl _ w1).alloc (Nat.le_refl _) _
  have HM1 := Lib.hid (HMI.out.keep hba)
  have HB1 := Lib.hid (HMB.out.trans (hba.mono HMB.out.size))
  clear hba
  go_wp2_with fail
  refine (plus_n ma (some ⟨w1.heap.size, 0, none⟩) _ 1 mc 1 9223372036854775807 1 _ rfl nd_one.symm HM1.out (lit_one w1) (by omega) (by omega)).mono ?_
  rintro e w2 ⟨pa, pc, rfl, hpi, hpb⟩
  rw [Dm.dg_length] at hpi ⊢
  have HPI := Lib.hid hpi
  have HPB := Lib.hid (HB1.out.trans (hpb.mono HB1.out.size))
  clear hpi hpb
  have H02 := Lib.hid (H0.out.keep HPB.out)
  go_wp2_with fail
  refine (ref_cmp a0 pa c0 pc A 9223372036854775808 _ H02.out HPI.out (by omega) (by omega)).mono ?_
  rintro e w3 ⟨rfl, hcb⟩
  have HB3 := Lib.hid (HPB.out.trans (hcb.mono HPB.out.size))
  clear hcb H02 HPI HPB
  by_cases hle : A ≤ 9223372036854775808
  · have hcm : decide (0 < Dm.cmp A 9223372036854775808) = false := by rw [decide_eq_false_iff_not]; unfold Dm.cmp; split; omega; split; omega; omega
    have hfin : inAns A 9223372036854775808 (-(A : Int)) = .tuple #[.int .i64 (-(A : Int)), .bool true] := if_pos hle
    have HFIN := Lib.hid hfin
    have hAn := (Dm.nd_spec A).1
    have hd0 : ∀ j, j < Dm.nd A → (Dm.dg A).getD j 0 = ((A / 10 ^ j % 10 : Nat) : Int) := fun j hj => Dm.dg_get A j hj
    have HD0 := Lib.hid hd0
    have HAN := Lib.hid hAn
    clear hfin hd0 hAn
    generalize Dm.cmp A 9223372036854775808 = cm at *
    generalize Dm.nd A = nA at *
    generalize Dm.nd 9223372036854775807 = nm at *
    generalize Dm.nd 9223372036854775808 = nm2 at *
    go_wp2
    go_loopw [7, 8] (fun nv iv wx => ∃ j : Nat, j ≤ nA ∧ iv = .int .i64 ((j : Int) - 1) ∧ nv = .int .i64 (-((A / 10 ^ j : Nat) : Int)) ∧ Hid (Below w.heap.size w wx)) (fun _ iv _ => (intOf iv + 1).toNat)
    case atStart => exact ⟨nA, Nat.le_refl _, rfl, by rw [Nat.div_eq_of_lt HAN.out]; rfl, HB3⟩
    case round =>
      obtain ⟨j, hj, rfl, rfl, HB⟩ := hrel
      cases j with
      | zero =>
        simp only [Nat.pow_zero, Nat.div_one]
        go_wp2
        go_ret2
        exact ⟨by rw [HFIN.out]; rfl, HB.out⟩
      | succ i =>
        have hj1 : (((i + 1 : Nat) : Int) - 1) = (i : Int) := by omega
        rw [hj1]
        clear hj1
        obtain ⟨g0, o0, rfl, hg0, hcell0⟩ := (H0.out.keep HB.out).at i (by omega)
        rw [HD0.out i (by omega)] at hcell0
        have hx9 : A / 10 ^ i % 10 ≤ 9 := Nat.le_of_lt_succ (Nat.mod_lt _ (by omega))
        have hds := Dm.div_step A i
        have hdl := Nat.div_le_self A (10 ^ i)
        generalize A / 10 ^ i % 10 = x at *
        generalize hPP : A / 10 ^ i = P' at *
        generalize A / 10 ^ (i + 1) = PP at *
        have HPP := Lib.hid hPP
        have HDS := Lib.hid hds
        have hb1 : PP * 10 + x ≤ 9223372036854775808 := by omega
        clear hPP hds
        go_wp2
        go_roundw
        case rel => exact ⟨i, by omega, by go_num, by rw [HPP.out, HDS.out]; go_num, HB⟩
        case measure => simp [intOf]
  · have hcm : decide (0 < Dm.cmp A 9223372036854775808) = true := by rw [decide_eq_true_iff]; unfold Dm.cmp; rw [if_neg (by omega), if_pos (by omega)]; omega
    have hfin : inAns A 9223372036854775808 (-(A : Int)) = .tuple #[.int .i64 0, .bool false] := if_neg hle
    have HFIN := Lib.hid hfin
    clear hfin
    generalize Dm.cmp A 9223372036854775808 = cm at *
    go_wp2
    go_ret2
    exact ⟨by rw [HFIN.out]; rfl, HB3.out⟩

end Go.Proofs.YtgkjgaelclfffaaDoor
