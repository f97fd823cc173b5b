/- The reference of layer 2: Minus on digits. -/
import Derived.Test.YtgkjgaelclfffaaDoorDecRef3
namespace Go.Proofs.YtgkjgaelclfffaaDoor
open Go.RowKit

set_option maxHeartbeats 4000000 in
set_option maxRecDepth 100000 in
theorem ref_minus (a0 a1 : Option Addr) (c0 c1 A B : Nat) (w : World) (h0 : IntC (.slice a0 (Dm.nd A) c0) (Dm.dg A) w) (h1 : IntC (.slice a1 (Dm.nd B) c1) (Dm.dg B) w) (hA : Dm.nd A ≤ 900) (hB : Dm.nd B ≤ 900) (hBA : B ≤ A) :
    Calls Tryd.prog 73 #[.slice a0 (Dm.nd A) c0, .slice a1 (Dm.nd B) c1] w (Made (Dm.dg (A - B)) w) := by
  obtain ⟨i0, hi0, hz0, hz1, hz2⟩ := info_parts info3
  have HI0 := Lib.hid hi0; have HZ0 := Lib.hid hz0; have HZ1 := Lib.hid hz1; have HZ2 := Lib.hid hz2
  clear hi0 hz0 hz1 hz2
  have hd0 : ∀ j, j < Dm.nd A → (Dm.dg A).getD j 0 = ((A / 10 ^ j % 10 : Nat) : Int) := fun j hj => Dm.dg_get A j hj
  have hd1 : ∀ j, j < Dm.nd B → (Dm.dg B).getD j 0 = ((B / 10 ^ j % 10 : Nat) : Int) := fun j hj => Dm.dg_get B j hj
  have hlB : ∀ j, Dm.nd B ≤ j → B < 10 ^ j := fun j hj => Nat.lt_of_lt_of_le (Dm.nd_spec B).1 (Nat.pow_le_pow_right (by omega) hj)
  have hAn : A - B < 10 ^ Dm.nd A := by have := (Dm.nd_spec A).1; omega
  have H0 := Lib.hid h0; have H1 := Lib.hid h1; have HD0 := Lib.hid hd0; have HD1 := Lib.hid hd1
  have HLB := Lib.hid hlB; have HAN := Lib.hid hAn; have HBA := Lib.hid hBA
  clear h0 h1 hd0 hd1 hlB hAn hBA
  generalize Dm.nd A = nA at *
  generalize Dm.nd B = nB at *
  go_enter Tryd.func73, Tryd.ntmps73
  go_wp2
  go_loopw [5, 6, 7] (fun o cv iv wr => ∃ (k : Nat) (oa : Option Addr) (oc : Nat), o = .slice oa k oc ∧ cv = .int .i64 ((Dm.bor A B k : Nat) : Int) ∧ iv = .int .i64 (k : Int) ∧ k ≤ nA ∧ Hid (wr.ownsRow w.heap.size 3 1 (.slice oa k oc) k (ic (Dm.lowd k (A - B)))) ∧ Hid (Below w.heap.size w wr)) (fun _ _ iv _ => nA - (intOf iv).toNat)
  case atStart => exact ⟨0, none, 0, rfl, by rw [Dm.bor_zero]; rfl, rfl, by omega, World.ownsRow_nil _ _ _ _, Below.refl _ _⟩
  case round =>
    obtain ⟨k, oa, oc, rfl, rfl, rfl, hk, HO, HB⟩ := hrel
    have hsz := HB.out.size
    by_cases hiA : k < nA
    · have hbl := Dm.bor_le A B k
      have hlow := Dm.lowd_snoc k (A - B)
      have hbs := Dm.bor_succ A B k
      have hdf := Dm.dif_digit A B k HBA.out
      have hy0 : nB ≤ k → B / 10 ^ k % 10 = 0 := fun h => by rw [Nat.div_eq_of_lt (HLB.out k h)]
      have hx9 : A / 10 ^ k % 10 ≤ 9 := Nat.le_of_lt_succ (Nat.mod_lt _ (by omega))
      have hy9 : B / 10 ^ k % 10 ≤ 9 := Nat.le_of_lt_succ (Nat.mod_lt _ (by omega))
      have hd9 : (A - B) / 10 ^ k % 10 ≤ 9 := Nat.le_of_lt_succ (Nat.mod_lt _ (by omega))
      obtain ⟨g0, o0, rfl, hg0, hcell0⟩ := (H0.out.keep HB.out).at k hiA
      rw [HD0.out k hiA] at hcell0
      have hdB := HD1.out k
      generalize A / 10 ^ k % 10 = x at *
      generalize B / 10 ^ k % 10 = y at *
      generalize (A - B) / 10 ^ k % 10 = dd at *
      generalize Dm.bor A B k = bb at *
      have HLW := Lib.hid hlow
      have HBS := Lib.hid hbs
      clear hlow hbs
      have q1 : decide (k < nA) = true := by simp; omega
      have q3 : decide ((k : Int) < (nA : Int)) = true := by simp; omega
      by_cases hiB : k < nB
      · obtain ⟨g1, o1, rfl, hg1, hcell1⟩ := (H1.out.keep HB.out).at k hiB
        rw [hdB hiB] at hcell1
        clear hdB hy0
        have q2 : decide (k < nB) = true := by simp; omega
        have q4 : decide ((k : Int) < (nB : Int)) = true := by simp; omega
        by_cases hng : x < bb + y
        · skip
          have hneg : decide ((x : Int) - (bb : Int) - (y : Int) < 0) = true := by simp; omega
          have hsum : (x : Int) - (bb : Int) - (y : Int) + 10 = (dd : Int) := by omega

          go_wp2_with (at_builtin; refine wpList_append_src _ rfl (.tmp 35) (.tmp 37) 53 53 rfl w.heap.size 3 i0 (.int .i64 0) 1 8 Tryd.underlying53 HI0.out HZ0.out HZ1.out HZ2.out rfl (.slice oa k oc) k (ic (Dm.lowd k (A - B))) rfl (HO.out.alloc _) _ 1 (ic [(dd : Int)]) rfl ?qsm1 ?qam1 ?qbm1 ?qcm1 ?_)
          case qsm1 => exact lit_src wr _
          case qam1 => unfold maxLen; omega
          case qbm1 => omega
          case qcm1 => first | (simp; omega) | omega
          intro v2 w2 hown hgrow hat
          have hbel := (HB.out.alloc hsz _).grown hgrow (by simp; omega) (fun i hi => (HO.out.lt i hi).1)
          have hown2 : w2.ownsRow w.heap.size 3 1 v2 (k + 1) (ic (Dm.lowd (k + 1) (A - B))) := by
            rw [HLW.out, ic_append]; exact hown
          obtain ⟨a2, c2, hv2⟩ : ∃ a2 c2, v2 = .slice a2 (k + 1) c2 := by
            obtain ⟨a2, c2, e⟩ := (IntC.of_own hown2).form
            rw [Dm.lowd_length] at e; exact ⟨a2, c2, e⟩
          rw [hv2] at hown2 ⊢
          have HO2 := Lib.hid hown2
          have HB2 := Lib.hid hbel
          clear hown hgrow hat hbel hown2 hv2
          go_wp2
          go_roundw
          case rel => exact ⟨k + 1, a2, c2, rfl, by rw [HBS.out, if_pos (by omega)]; rfl, by go_num, by omega, HO2, HB2⟩
          case measure => simp [intOf]; omega
        · skip
          have hneg : decide ((x : Int) - (bb : Int) - (y : Int) < 0) = false := by simp; omega
          have hsum : (x : Int) - (bb : Int) - (y : Int) = (dd : Int) := by omega

          go_wp2_with (at_builtin; refine wpList_append_src _ rfl (.tmp 35) (.tmp 37) 53 53 rfl w.heap.size 3 i0 (.int .i64 0) 1 8 Tryd.underlying53 HI0.out HZ0.out HZ1.out HZ2.out rfl (.slice oa k oc) k (ic (Dm.lowd k (A - B))) rfl (HO.out.alloc _) _ 1 (ic [(dd : Int)]) rfl ?qsm2 ?qam2 ?qbm2 ?qcm2 ?_)
          case qsm2 => exact lit_src wr _
          case qam2 => unfold maxLen; omega
          case qbm2 => omega
          case qcm2 => first | (simp; omega) | omega
          intro v2 w2 hown hgrow hat
          have hbel := (HB.out.alloc hsz _).grown hgrow (by simp; omega) (fun i hi => (HO.out.lt i hi).1)
          have hown2 : w2.ownsRow w.heap.size 3 1 v2 (k + 1) (ic (Dm.lowd (k + 1) (A - B))) := by
            rw [HLW.out, ic_append]; exact hown
          obtain ⟨a2, c2, hv2⟩ : ∃ a2 c2, v2 = .slice a2 (k + 1) c2 := by
            obtain ⟨a2, c2, e⟩ := (IntC.of_own hown2).form
            rw [Dm.lowd_length] at e; exact ⟨a2, c2, e⟩
          rw [hv2] at hown2 ⊢
          have HO2 := Lib.hid hown2
          have HB2 := Lib.hid hbel
          clear hown hgrow hat hbel hown2 hv2
          go_wp2
          go_roundw
          case rel => exact ⟨k + 1, a2, c2, rfl, by rw [HBS.out, if_neg (by omega)]; rfl, by go_num, by omega, HO2, HB2⟩
          case measure => simp [intOf]; omega
      · have hy := hy0 (by omega)
        subst hy
        clear hdB hy0
        have q2 : decide (k < nB) = false := by simp; omega
        have q4 : decide ((k : Int) < (nB : Int)) = false := by simp; omega
        by_cases hng : x < bb + 0
        · skip
          have hneg : decide ((x : Int) - (bb : Int) < 0) = true := by simp; omega
          have hsum : (x : Int) - (bb : Int) + 10 = (dd : Int) := by omega

          go_wp2_with (at_builtin; refine wpList_append_src _ rfl (.tmp 35) (.tmp 37) 53 53 rfl w.heap.size 3 i0 (.int .i64 0) 1 8 Tryd.underlying53 HI0.out HZ0.out HZ1.out HZ2.out rfl (.slice oa k oc) k (ic (Dm.lowd k (A - B))) rfl (HO.out.alloc _) _ 1 (ic [(dd : Int)]) rfl ?qsm3 ?qam3 ?qbm3 ?qcm3 ?_)
          case qsm3 => exact lit_src wr _
          case qam3 => unfold maxLen; omega
          case qbm3 => omega
          case qcm3 => first | (simp; omega) | omega
          intro v2 w2 hown hgrow hat
          have hbel := (HB.out.alloc hsz _).grown hgrow (by simp; omega) (fun i hi => (HO.out.lt i hi).1)
          have hown2 : w2.ownsRow w.heap.size 3 1 v2 (k + 1) (ic (Dm.lowd (k + 1) (A - B))) := by
            rw [HLW.out, ic_append]; exact hown
          obtain ⟨a2, c2, hv2⟩ : ∃ a2 c2, v2 = .slice a2 (k + 1) c2 := by
            obtain ⟨a2, c2, e⟩ := (IntC.of_own hown2).form
            rw [Dm.lowd_length] at e; exact ⟨a2, c2, e⟩
          rw [hv2] at hown2 ⊢
          have HO2 := Lib.hid hown2
          have HB2 := Lib.hid hbel
          clear hown hgrow hat hbel hown2 hv2
          go_wp2
          go_roundw
          case rel => exact ⟨k + 1, a2, c2, rfl, by rw [HBS.out, if_pos (by omega)]; rfl, by go_num, by omega, HO2, HB2⟩
          case measure => simp [intOf]; omega
        · skip
          have hneg : decide ((x : Int) - (bb : Int) < 0) = false := by simp; omega
          have hsum : (x : Int) - (bb : Int) = (dd : Int) := by omega

          go_wp2_with (at_builtin; refine wpList_append_src _ rfl (.tmp 35) (.tmp 37) 53 53 rfl w.heap.size 3 i0 (.int .i64 0) 1 8 Tryd.underlying53 HI0.out HZ0.out HZ1.out HZ2.out rfl (.slice oa k oc) k (ic (Dm.lowd k (A - B))) rfl (HO.out.alloc _) _ 1 (ic [(dd : Int)]) rfl ?qsm4 ?qam4 ?qbm4 ?qcm4 ?_)
          case qsm4 => exact lit_src wr _
          case qam4 => unfold maxLen; omega
          case qbm4 => omega
          case qcm4 => first | (simp; omega) | omega
          intro v2 w2 hown hgrow hat
          have hbel := (HB.out.alloc hsz _).grown hgrow (by simp; omega) (fun i hi => (HO.out.lt i hi).1)
          have hown2 : w2.ownsRow w.heap.size 3 1 v2 (k + 1) (ic (Dm.lowd (k + 1) (A - B))) := by
            rw [HLW.out, ic_append]; exact hown
          obtain ⟨a2, c2, hv2⟩ : ∃ a2 c2, v2 = .slice a2 (k + 1) c2 := by
            obtain ⟨a2, c2, e⟩ := (IntC.of_own hown2).form
            rw [Dm.lowd_length] at e; exact ⟨a2, c2, e⟩
          rw [hv2] at hown2 ⊢
          have HO2 := Lib.hid hown2
          have HB2 := Lib.hid hbel
          clear hown hgrow hat hbel hown2 hv2
          go_wp2
          go_roundw
          case rel => exact ⟨k + 1, a2, c2, rfl, by rw [HBS.out, if_neg (by omega)]; rfl, by go_num, by omega, HO2, HB2⟩
          case measure => simp [intOf]; omega
    · obtain rfl : k = nA := by omega
      have q1 : decide (k < k) = false := by simp
      have hint := IntC.of_own HO.out
      have HINT := Lib.hid hint
      clear hint
      go_wp2_with fail
      refine (ref_trim oa oc k (A - B) _ HINT.out HAN.out (by omega)).mono ?_
      rintro e w1 ⟨a2, c2, rfl, hi2, rfl⟩
      have HI2 := Lib.hid hi2
      clear hi2
      go_wp2
      go_ret
      exact ⟨a2, c2, rfl, HI2.out, HB.out⟩

end Go.Proofs.YtgkjgaelclfffaaDoor
