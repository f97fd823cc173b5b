/- The reference of layer 2: Shift, Plus, Minus on digits. -/
import Derived.Test.YtgkjgaelclfffaaDoorDecRef2
namespace Go.Proofs.YtgkjgaelclfffaaDoor
open Go.RowKit

theorem made_zeros (k : Nat) : (madeCells #[.int .i64 0] k).toList = ic (List.replicate k 0) := by
  apply List.ext_getElem
  · simp [madeCells, ic]
  · intro i h1 h2
    simp [madeCells, ic] at h1 ⊢
    rw [Nat.mod_one]; rfl

set_option maxHeartbeats 1000000 in
set_option maxRecDepth 100000 in
theorem ref_shift (a : Option Addr) (c A k : Nat) (w : World) (h : IntC (.slice a (Dm.nd A) c) (Dm.dg A) w) (hA : Dm.nd A ≤ 1000) (hk : k ≤ 1000) :
    Calls Tryd.prog 44 #[.slice a (Dm.nd A) c, .int .i64 (k : Int)] w (Made (Dm.dg (A * 10 ^ k)) w) := by
  by_cases h0 : A = 0
  · subst h0
    have hz : Dm.nd 0 = 0 := Dm.nd_zero
    go_enter Tryd.func44, Tryd.ntmps44
    go_wp2
    go_ret
    refine ⟨none, 0, ?_, ?_, Below.refl _ _⟩
    · rw [Nat.zero_mul, Dm.dg_zero]; rfl
    · rw [Nat.zero_mul, Dm.dg_zero]; exact .inl ⟨_, _, rfl, rfl⟩
  · obtain ⟨i0, hi0, hz0, hz1, hz2⟩ := info_parts info3
    have hmk : ∀ wx : World, (Instr.makeSlice 53 (.int .i64 (k : Int)) (.int .i64 (k : Int))).run Tryd.prog wx = .ok (.slice (some ⟨wx.heap.size, 0, none⟩) k k) (wx.alloc (.cells (madeCells #[.int .i64 0] k) 3)) := fun wx => by
      have := run_make (P := Tryd.prog) wx 53 3 i0 (.int .i64 0) Tryd.underlying53 hi0 hz0 .i64 .i64 (k : Int) (k : Int) (by omega) (by omega) (by rw [hz2]; omega) (by omega)
      rw [hz1] at this
      simpa [Value.cells] using this
    have hown0 : (w.alloc (.cells (madeCells #[.int .i64 0] k) 3)).ownsRow w.heap.size 3 1 (.slice (some ⟨w.heap.size, 0, none⟩) k k) k (ic (List.replicate k 0)) := by
      refine ⟨by simp [ic], .inr ⟨w.heap.size, k, _, rfl, Nat.le_refl _, heap_alloc_new w _, Nat.le_refl _, by unfold maxLen; omega, by simp [madeCells], ?_⟩⟩
      rw [List.take_of_length_le (by simp [madeCells]), made_zeros]
    have hdg := Dm.dg_shift A k h0
    have hl : Dm.nd (A * 10 ^ k) = k + Dm.nd A := Dm.nd_shift A k h0
    have hsrc := (h.keep (w' := w.alloc (.cells (madeCells #[.int .i64 0] k) 3)) ((Below.refl _ w).alloc (Nat.le_refl _) _)).src
    rw [Dm.dg_length] at hsrc
    have hpos : 0 < Dm.nd A := by rcases (Dm.nd_spec A).2 with e | e; omega; exact e.1
    have HI0 := Lib.hid hi0; have HZ0 := Lib.hid hz0; have HZ1 := Lib.hid hz1; have HZ2 := Lib.hid hz2
    have HOW := Lib.hid hown0
    have HDG := Lib.hid hdg
    have HL := Lib.hid hl
    have HS := Lib.hid hsrc
    clear hi0 hz0 hz1 hz2 hown0 hdg hl hsrc h
    have hMC : ∃ zs, madeCells #[Value.int .i64 0] k = zs := ⟨_, rfl⟩
    obtain ⟨zs, hzs⟩ := hMC
    rw [hzs] at hmk HOW HS
    clear hzs
    generalize hn : Dm.nd A = n at *
    have hne : ((n : Int) == 0) = false := by simp; omega
    clear hn
    go_enter Tryd.func44, Tryd.ntmps44
    go_wp2_with (at_builtin; refine wpList_append_src _ rfl (.tmp 9) (.tmp 10) 53 53 rfl w.heap.size 3 i0 (.int .i64 0) 1 8 Tryd.underlying53 HI0.out HZ0.out HZ1.out HZ2.out rfl _ k (ic (List.replicate k 0)) rfl HOW.out (.slice a n c) n (ic (Dm.dg A)) rfl HS.out ?qa ?qb ?qc ?_)
    case qa => unfold maxLen; omega
    case qb => omega
    case qc => simp
    intro v2 w2 hown hgrow hat
    have hbel := ((Below.refl _ w).alloc (Nat.le_refl _) _).grown hgrow (by simp) (by intro i hi; simp [Value.ownBlock] at hi; omega)
    rw [← ic_append, ← HDG.out] at hown
    obtain ⟨a2, c2, hv2⟩ := (IntC.of_own hown).form
    have HO := Lib.hid (IntC.of_own hown)
    have HB := Lib.hid hbel
    clear hown hgrow hat hbel
    rw [hv2] at HO
    rw [hv2]
    go_wp2
    go_ret
    exact ⟨a2, c2, rfl, HO.out, HB.out⟩

set_option maxHeartbeats 4000000 in
set_option maxRecDepth 100000 in
theorem ref_plus (a0 a1 : Option Addr) (c0 c1 A B : Nat) (w : World) (h0 : IntC (.slice a0 (Dm.nd A) c0) (Dm.dg A) w) (h1 : IntC (.slice a1 (Dm.nd B) c1) (Dm.dg B) w) (hA : Dm.nd A ≤ 1000) (hB : Dm.nd B ≤ 1000) :
    Calls Tryd.prog 53 #[.slice a0 (Dm.nd A) c0, .slice a1 (Dm.nd B) c1] w (Made (Dm.dg (A + B)) w) := by
  obtain ⟨i0, hi0, hz0, hz1, hz2⟩ := info_parts info3
  have HI0 := Lib.hid hi0; have HZ0 := Lib.hid hz0; have HZ1 := Lib.hid hz1; have HZ2 := Lib.hid hz2
  clear hi0 hz0 hz1 hz2
  have hd0 : ∀ j, j < Dm.nd A → (Dm.dg A).getD j 0 = ((A / 10 ^ j % 10 : Nat) : Int) := fun j hj => Dm.dg_get A j hj
  have hd1 : ∀ j, j < Dm.nd B → (Dm.dg B).getD j 0 = ((B / 10 ^ j % 10 : Nat) : Int) := fun j hj => Dm.dg_get B j hj
  have hgA : ∀ j, j < Dm.nd A → 10 ^ j ≤ A := fun j hj => by
    rcases (Dm.nd_spec A).2 with e | e
    · rw [e, Dm.nd_zero] at hj; omega
    · exact Nat.le_trans (Nat.pow_le_pow_right (by omega) (by omega)) e.2
  have hgB : ∀ j, j < Dm.nd B → 10 ^ j ≤ B := fun j hj => by
    rcases (Dm.nd_spec B).2 with e | e
    · rw [e, Dm.nd_zero] at hj; omega
    · exact Nat.le_trans (Nat.pow_le_pow_right (by omega) (by omega)) e.2
  have hlA : ∀ j, Dm.nd A ≤ j → A < 10 ^ j := fun j hj => Nat.lt_of_lt_of_le (Dm.nd_spec A).1 (Nat.pow_le_pow_right (by omega) hj)
  have hlB : ∀ j, Dm.nd B ≤ j → B < 10 ^ j := fun j hj => Nat.lt_of_lt_of_le (Dm.nd_spec B).1 (Nat.pow_le_pow_right (by omega) hj)
  have H0 := Lib.hid h0; have H1 := Lib.hid h1; have HD0 := Lib.hid hd0; have HD1 := Lib.hid hd1
  have HGA := Lib.hid hgA; have HGB := Lib.hid hgB; have HLA := Lib.hid hlA; have HLB := Lib.hid hlB
  clear h0 h1 hd0 hd1 hgA hgB hlA hlB
  generalize Dm.nd A = nA at *
  generalize Dm.nd B = nB at *
  go_enter Tryd.func53, Tryd.ntmps53
  go_wp2
  go_loopw [5, 6, 7] (fun o cv iv wr => ∃ (k : Nat) (oa : Option Addr) (oc : Nat), o = .slice oa k oc ∧ cv = .int .i64 ((Dm.car A B k : Nat) : Int) ∧ iv = .int .i64 (k : Int) ∧ k ≤ max nA nB + 1 ∧ Hid (k = 0 ∨ 10 ^ (k - 1) ≤ A + B) ∧ Hid (wr.ownsRow w.heap.size 3 1 (.slice oa k oc) k (ic (Dm.lowd k (A + B)))) ∧ Hid (Below w.heap.size w wr) ∧ Hid (k = max nA nB + 1 → Dm.car A B k = 0)) (fun _ _ iv _ => max nA nB + 2 - (intOf iv).toNat)
  case atStart => exact ⟨0, none, 0, rfl, by rw [Dm.car_zero]; rfl, rfl, by omega, .inl rfl, World.ownsRow_nil _ _ _ _, Below.refl _ _, fun h => by omega⟩
  case round =>
    obtain ⟨k, oa, oc, rfl, rfl, rfl, hk, HK, HO, HB, HT⟩ := hrel
    have hsz := HB.out.size
    have hcl := Dm.car_le A B k
    have hlow := Dm.lowd_snoc k (A + B)
    rw [Dm.sum_digit] at hlow
    have hcs := Dm.car_succ A B k
    have hx0 : nA ≤ k → A / 10 ^ k % 10 = 0 := fun h => by rw [Nat.div_eq_of_lt (HLA.out k h)]
    have hy0 : nB ≤ k → B / 10 ^ k % 10 = 0 := fun h => by rw [Nat.div_eq_of_lt (HLB.out k h)]
    have hx9 : A / 10 ^ k % 10 ≤ 9 := Nat.le_of_lt_succ (Nat.mod_lt _ (by omega))
    have hy9 : B / 10 ^ k % 10 ≤ 9 := Nat.le_of_lt_succ (Nat.mod_lt _ (by omega))
    have hsge := Dm.sum_ge A B k
    have hslt := Dm.sum_lt A B k
    have hdA := HD0.out k
    have hdB := HD1.out k
    generalize A / 10 ^ k % 10 = x at *
    generalize B / 10 ^ k % 10 = y at *
    generalize Dm.car A B k = cc at *
    obtain ⟨dd, hdd⟩ : ∃ dd : Nat, (cc + x + y) % 10 = dd := ⟨_, rfl⟩
    obtain ⟨ee, hee⟩ : ∃ ee : Nat, (cc + x + y) / 10 = ee := ⟨_, rfl⟩
    rw [hdd] at hlow
    rw [hee] at hcs
    have HLW := Lib.hid hlow
    have HEE := Lib.hid hcs
    have HSGE := Lib.hid hsge
    have HSLT := Lib.hid hslt
    clear hlow hcs hsge hslt
    by_cases hiA : k < nA
    · obtain ⟨g0, o0, rfl, hg0, hcell0⟩ := (H0.out.keep HB.out).at k hiA
      rw [hdA hiA] at hcell0
      by_cases hiB : k < nB
      · obtain ⟨g1, o1, rfl, hg1, hcell1⟩ := (H1.out.keep HB.out).at k hiB
        rw [hdB hiB] at hcell1
        clear hdA hdB hx0 hy0
        have q1 : decide (k < nA) = true := by simp; omega
        have q3 : decide ((k : Int) < (nA : Int)) = true := by simp; omega
        have q2 : decide (k < nB) = true := by simp; omega
        have q4 : decide ((k : Int) < (nB : Int)) = true := by simp; omega
        have hmod : ((cc : Int) + (x : Int) + (y : Int)) % 10 = (dd : Int) := by omega
        have hdiv : ((cc : Int) + (x : Int) + (y : Int)) / 10 = (ee : Int) := by omega
        have HGE : Hid (10 ^ k ≤ A + B) := by show _ ≤ _; have := HGA.out k hiA; omega
        have HTOP : Hid (k + 1 = max nA nB + 1 → Dm.car A B (k + 1) = 0) := fun h => by omega

        go_wp2_with (at_builtin; refine wpList_append_src _ rfl (.tmp 44) (.tmp 47) 53 53 rfl w.heap.size 3 i0 (.int .i64 0) 1 8 Tryd.underlying53 HI0.out HZ0.out HZ1.out HZ2.out rfl (.slice oa k oc) k (ic (Dm.lowd k (A + B))) rfl (HO.out.alloc _) _ 1 (ic [(dd : Int)]) rfl ?qsp1 ?qap1 ?qbp1 ?qcp1 ?_)
        case qsp1 => exact lit_src wr _
        case qap1 => unfold maxLen; omega
        case qbp1 => omega
        case qcp1 => simp; omega
        intro v2 w2 hown hgrow hat
        have hbel := (HB.out.alloc hsz _).grown hgrow (by simp; omega) (fun i hi => (HO.out.lt i hi).1)
        have hown2 : w2.ownsRow w.heap.size 3 1 v2 (k + 1) (ic (Dm.lowd (k + 1) (A + B))) := by
          rw [HLW.out, ic_append]; exact hown
        obtain ⟨a2, c2, hv2⟩ : ∃ a2 c2, v2 = .slice a2 (k + 1) c2 := by
          obtain ⟨a2, c2, e⟩ := (IntC.of_own hown2).form
          rw [Dm.lowd_length] at e; exact ⟨a2, c2, e⟩
        rw [hv2] at hown2 ⊢
        have HO2 := Lib.hid hown2
        have HB2 := Lib.hid hbel
        clear hown hgrow hat hbel hown2 hv2
        go_wp2
        go_roundw
        case rel => exact ⟨k + 1, a2, c2, rfl, by rw [HEE.out]; first | rw [hdiv] | (rw [← hdiv]; rfl) | (simp; omega), by go_num, by omega, .inr HGE.out, HO2, HB2, HTOP⟩
        case measure => simp [intOf]; omega
      · have hy := hy0 (by omega)
        subst hy
        clear hdA hdB hx0 hy0
        have q1 : decide (k < nA) = true := by simp; omega
        have q3 : decide ((k : Int) < (nA : Int)) = true := by simp; omega
        have q2 : decide (k < nB) = false := by simp; omega
        have q4 : decide ((k : Int) < (nB : Int)) = false := by simp; omega
        have hmod : ((cc : Int) + (x : Int)) % 10 = (dd : Int) := by omega
        have hdiv : ((cc : Int) + (x : Int)) / 10 = (ee : Int) := by omega
        have HGE : Hid (10 ^ k ≤ A + B) := by show _ ≤ _; have := HGA.out k hiA; omega
        have HTOP : Hid (k + 1 = max nA nB + 1 → Dm.car A B (k + 1) = 0) := fun h => by omega

        go_wp2_with (at_builtin; refine wpList_append_src _ rfl (.tmp 44) (.tmp 47) 53 53 rfl w.heap.size 3 i0 (.int .i64 0) 1 8 Tryd.underlying53 HI0.out HZ0.out HZ1.out HZ2.out rfl (.slice oa k oc) k (ic (Dm.lowd k (A + B))) rfl (HO.out.alloc _) _ 1 (ic [(dd : Int)]) rfl ?qsp2 ?qap2 ?qbp2 ?qcp2 ?_)
        case qsp2 => exact lit_src wr _
        case qap2 => unfold maxLen; omega
        case qbp2 => omega
        case qcp2 => simp; omega
        intro v2 w2 hown hgrow hat
        have hbel := (HB.out.alloc hsz _).grown hgrow (by simp; omega) (fun i hi => (HO.out.lt i hi).1)
        have hown2 : w2.ownsRow w.heap.size 3 1 v2 (k + 1) (ic (Dm.lowd (k + 1) (A + B))) := by
          rw [HLW.out, ic_append]; exact hown
        obtain ⟨a2, c2, hv2⟩ : ∃ a2 c2, v2 = .slice a2 (k + 1) c2 := by
          obtain ⟨a2, c2, e⟩ := (IntC.of_own hown2).form
          rw [Dm.lowd_length] at e; exact ⟨a2, c2, e⟩
        rw [hv2] at hown2 ⊢
        have HO2 := Lib.hid hown2
        have HB2 := Lib.hid hbel
        clear hown hgrow hat hbel hown2 hv2
        go_wp2
        go_roundw
        case rel => exact ⟨k + 1, a2, c2, rfl, by rw [HEE.out]; first | rw [hdiv] | (rw [← hdiv]; rfl) | (simp; omega), by go_num, by omega, .inr HGE.out, HO2, HB2, HTOP⟩
        case measure => simp [intOf]; omega
    · have hx := hx0 (by omega)
      subst hx
      by_cases hiB : k < nB
      · obtain ⟨g1, o1, rfl, hg1, hcell1⟩ := (H1.out.keep HB.out).at k hiB
        rw [hdB hiB] at hcell1
        clear hdA hdB hx0 hy0
        have q1 : decide (k < nA) = false := by simp; omega
        have q3 : decide ((k : Int) < (nA : Int)) = false := by simp; omega
        have q2 : decide (k < nB) = true := by simp; omega
        have q4 : decide ((k : Int) < (nB : Int)) = true := by simp; omega
        have hmod : ((cc : Int) + (y : Int)) % 10 = (dd : Int) := by omega
        have hdiv : ((cc : Int) + (y : Int)) / 10 = (ee : Int) := by omega
        have HGE : Hid (10 ^ k ≤ A + B) := by show _ ≤ _; have := HGB.out k hiB; omega
        have HTOP : Hid (k + 1 = max nA nB + 1 → Dm.car A B (k + 1) = 0) := fun h => by omega

        go_wp2_with (at_builtin; refine wpList_append_src _ rfl (.tmp 44) (.tmp 47) 53 53 rfl w.heap.size 3 i0 (.int .i64 0) 1 8 Tryd.underlying53 HI0.out HZ0.out HZ1.out HZ2.out rfl (.slice oa k oc) k (ic (Dm.lowd k (A + B))) rfl (HO.out.alloc _) _ 1 (ic [(dd : Int)]) rfl ?qsp3 ?qap3 ?qbp3 ?qcp3 ?_)
        case qsp3 => exact lit_src wr _
        case qap3 => unfold maxLen; omega
        case qbp3 => omega
        case qcp3 => simp; omega
        intro v2 w2 hown hgrow hat
        have hbel := (HB.out.alloc hsz _).grown hgrow (by simp; omega) (fun i hi => (HO.out.lt i hi).1)
        have hown2 : w2.ownsRow w.heap.size 3 1 v2 (k + 1) (ic (Dm.lowd (k + 1) (A + B))) := by
          rw [HLW.out, ic_append]; exact hown
        obtain ⟨a2, c2, hv2⟩ : ∃ a2 c2, v2 = .slice a2 (k + 1) c2 := by
          obtain ⟨a2, c2, e⟩ := (IntC.of_own hown2).form
          rw [Dm.lowd_length] at e; exact ⟨a2, c2, e⟩
        rw [hv2] at hown2 ⊢
        have HO2 := Lib.hid hown2
        have HB2 := Lib.hid hbel
        clear hown hgrow hat hbel hown2 hv2
        go_wp2
        go_roundw
        case rel => exact ⟨k + 1, a2, c2, rfl, by rw [HEE.out]; first | rw [hdiv] | (rw [← hdiv]; rfl) | (simp; omega), by go_num, by omega, .inr HGE.out, HO2, HB2, HTOP⟩
        case measure => simp [intOf]; omega
      · have hy := hy0 (by omega)
        subst hy
        clear hdA hdB hx0 hy0
        rcases Nat.eq_zero_or_pos cc with hc | hc
        · subst hc
          have hfin : Dm.lowd k (A + B) = Dm.dg (A + B) := Dm.lowd_eq k _ (HSLT.out (HLA.out k (by omega)) (HLB.out k (by omega)) rfl) HK.out
          have HFIN := Lib.hid hfin
          have q1 : decide (k < nA) = false := by simp; omega
          have q2 : decide (k < nB) = false := by simp; omega
          have q3 : decide ((k : Int) < (nA : Int)) = false := by simp; omega
          have q4 : decide ((k : Int) < (nB : Int)) = false := by simp; omega
          clear hfin
          have hl : Hid ((Dm.dg (A + B)).length = k) := by show _ = _; rw [← HFIN.out, Dm.lowd_length]
          go_wp2
          go_ret
          refine ⟨oa, oc, by rw [hl.out]; rfl, ?_, HB.out⟩
          have h2 := IntC.of_own HO.out
          rw [HFIN.out] at h2
          rw [hl.out]
          exact h2
        · have hc1 : cc = 1 := by omega
          subst hc1
          have hkm : k ≤ max nA nB := by
            rcases Nat.lt_or_ge (max nA nB) k with hh | hh
            · have := HT.out (by omega); omega
            · exact hh
          obtain rfl : dd = 1 := by omega
          obtain rfl : ee = 0 := by omega
          have q1 : decide (k < nA) = false := by simp; omega
          have q3 : decide ((k : Int) < (nA : Int)) = false := by simp; omega
          have q2 : decide (k < nB) = false := by simp; omega
          have q4 : decide ((k : Int) < (nB : Int)) = false := by simp; omega
          have hdiv : ((1 : Int)) / 10 = 0 := by omega
          have HGE : Hid (10 ^ k ≤ A + B) := HSGE.out hc
          have HTOP : Hid (k + 1 = max nA nB + 1 → Dm.car A B (k + 1) = 0) := fun h => by rw [HEE.out]

          go_wp2_with (at_builtin; refine wpList_append_src _ rfl (.tmp 44) (.tmp 47) 53 53 rfl w.heap.size 3 i0 (.int .i64 0) 1 8 Tryd.underlying53 HI0.out HZ0.out HZ1.out HZ2.out rfl (.slice oa k oc) k (ic (Dm.lowd k (A + B))) rfl (HO.out.alloc _) _ 1 (ic [(1 : Int)]) rfl ?qsp4 ?qap4 ?qbp4 ?qcp4 ?_)
          case qsp4 => exact lit_src wr _
          case qap4 => unfold maxLen; omega
          case qbp4 => omega
          case qcp4 => first | (simp; omega) | omega
          intro v2 w2 hown hgrow hat
          have hbel := (HB.out.alloc hsz _).grown hgrow (by simp; omega) (fun i hi => (HO.out.lt i hi).1)
          have hown2 : w2.ownsRow w.heap.size 3 1 v2 (k + 1) (ic (Dm.lowd (k + 1) (A + B))) := by
            rw [HLW.out, ic_append]; exact hown
          obtain ⟨a2, c2, hv2⟩ : ∃ a2 c2, v2 = .slice a2 (k + 1) c2 := by
            obtain ⟨a2, c2, e⟩ := (IntC.of_own hown2).form
            rw [Dm.lowd_length] at e; exact ⟨a2, c2, e⟩
          rw [hv2] at hown2 ⊢
          have HO2 := Lib.hid hown2
          have HB2 := Lib.hid hbel
          clear hown hgrow hat hbel hown2 hv2
          go_wp2
          go_roundw
          case rel => exact ⟨k + 1, a2, c2, rfl, by rw [HEE.out]; first | rw [hdiv] | (rw [← hdiv]; rfl) | (simp; omega), by go_num, by omega, .inr HGE.out, HO2, HB2, HTOP⟩
          case measure => simp [intOf]; omega

end Go.Proofs.YtgkjgaelclfffaaDoor
