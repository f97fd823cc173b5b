/- The reference of layer 2: Of, trim, Cmp, Shift, Plus, Minus on digits. -/
import Derived.Test.YtamclbagafcmgaaDoorDecKit
import Derived.Deep.QuietTactic
import Derived.BigQuiet
namespace Go.Proofs.YtamclbagafcmgaaDoor
open Go.RowKit

set_option maxHeartbeats 1000000 in
set_option maxRecDepth 100000 in
theorem ref_of_pos (m : Nat) (w : World) (hm : m ≤ 9223372036854775807) : Calls Tryd.prog 49 #[.int .i64 ((m : Int))] w (Made (Dm.dg m) w) := by
  obtain ⟨i0, hi0, hz0, hz1, hz2⟩ := info_parts info3
  have HI0 := Lib.hid hi0; have HZ0 := Lib.hid hz0; have HZ1 := Lib.hid hz1; have HZ2 := Lib.hid hz2
  clear hi0 hz0 hz1 hz2
  go_enter Tryd.func49, Tryd.ntmps49
  go_wp2
  go_loopw [0, 3] (fun q d wr => ∃ (k : Nat) (a : Option Addr) (c : Nat), q = .int .i64 (((m / 10 ^ k : Nat) : Int)) ∧ d = .slice a k c ∧ Hid (k = 0 ∨ 10 ^ (k - 1) ≤ m) ∧ Hid (wr.ownsRow w.heap.size 3 1 (.slice a k c) k (ic (Dm.lowd k m))) ∧ Hid (Below w.heap.size w wr)) (fun q _ _ => (intOf q).natAbs)
  case atStart => exact ⟨0, none, 0, by simp, rfl, .inl rfl, World.ownsRow_nil _ _ _ _, Below.refl _ _⟩
  case round =>
      obtain ⟨k, a, c, rfl, rfl, HK, HO, HB⟩ := hrel
      have hk8 : k ≤ 100 := by
        rcases Nat.lt_or_ge 100 k with h | h
        · rcases HK.out with e | e
          · omega
          · have : 10 ^ 100 ≤ 10 ^ (k - 1) := Nat.pow_le_pow_right (by omega) (by omega)
            have h2 : (9223372036854775808 : Nat) < 10 ^ 100 := by decide +kernel
            omega
        · exact h
      have hsz := HB.out.size
      obtain ⟨qq, hqq⟩ : ∃ qq : Nat, m / 10 ^ k = qq := ⟨_, rfl⟩
      have hqm : qq ≤ 9223372036854775808 := by have := Nat.div_le_self m (10 ^ k); omega
      have hqm2 : qq ≤ 9223372036854775807 := by have := Nat.div_le_self m (10 ^ k); omega
      rcases Nat.eq_zero_or_pos qq with hz | hp
      · subst hz
        rw [hqq]
        have hfin : Hid (Dm.lowd k m = Dm.dg m) := by
          have hp : 0 < 10 ^ k := Nat.pow_pos (by omega)
          refine Dm.lowd_eq k m ?_ HK.out
          rw [Nat.div_eq_zero_iff] at hqq
          omega
        have hnl : Hid (Dm.nd m = k) := by show (Dm.dg m).length = k; rw [← hfin.out, Dm.lowd_length]
        have HB3 := HB
        clear hqq
        go_wp2
        go_ret
        refine ⟨a, c, by rw [Dm.dg_length, hnl.out]; rfl, ?_, HB3.out⟩
        have h2 := IntC.of_own HO.out
        rw [hfin.out] at h2
        rw [Dm.dg_length, hnl.out]
        exact h2
      · rw [hqq]
        have hlow : Dm.lowd (k + 1) m = Dm.lowd k m ++ [((qq % 10 : Nat) : Int)] := by rw [Dm.lowd_snoc, hqq]
        have hnx : m / 10 ^ (k + 1) = qq / 10 := by rw [Nat.pow_succ, ← Nat.div_div_eq_div_mul, hqq]
        have hge : 10 ^ k ≤ m := (Nat.div_pos_iff.1 (by rw [hqq]; exact hp : 0 < m / 10 ^ k)).2
        have HLW := Lib.hid hlow
        have HNX := Lib.hid hnx
        have HGE := Lib.hid hge
        clear hqq hlow hnx hge
        have hne : ((qq : Int) != 0) = true := by simp; omega
        obtain ⟨r, hr⟩ : ∃ r : Nat, qq % 10 = r := ⟨_, rfl⟩
        have hr9 : r ≤ 9 := by omega
        have hri : ((qq : Int) % 10) = (r : Int) := by omega
        rw [hr] at HLW
        clear hr
        have hlt0 : decide ((r : Int) < 0) = false := by simp
        go_wp2_with (at_builtin; refine wpList_append_src _ rfl (.tmp 13) (.tmp 15) 79 79 rfl w.heap.size 3 i0 (.int .i64 0) 1 8 Tryd.underlying79 HI0.out HZ0.out HZ1.out HZ2.out rfl (.slice a k c) k (ic (Dm.lowd k m)) rfl (HO.out.alloc _) _ 1 (ic [(r : Int)]) rfl ?qsp1 ?qap1 ?qbp1 ?qcp1 ?_)
        case qsp1 => exact lit_src wr _
        case qap1 => unfold maxLen; omega
        case qbp1 => omega
        case qcp1 => simp; omega
        intro v2 w2 hown hgrow hat
        have hbel := (HB.out.alloc hsz _).grown hgrow (by simp; omega) (fun i hi => (HO.out.lt i hi).1)
        have hown2 : w2.ownsRow w.heap.size 3 1 v2 (k + 1) (ic (Dm.lowd (k + 1) m)) := by
          rw [HLW.out, ic_append]; exact hown
        obtain ⟨a2, c2, hv2⟩ : ∃ a2 c2, v2 = .slice a2 (k + 1) c2 := by
          obtain ⟨a2, c2, e⟩ := (IntC.of_own hown2).form
          rw [Dm.lowd_length] at e; exact ⟨a2, c2, e⟩
        rw [hv2] at hown2 ⊢
        have HO2 := Lib.hid hown2
        have HB2 := Lib.hid hbel
        clear hown hgrow hat hbel hown2 hv2
        go_wp2
        go_roundw
        case rel => exact ⟨k + 1, a2, c2, by rw [HNX.out]; go_num, rfl, .inr HGE.out, HO2, HB2⟩
        case measure => simp [intOf]; omega
set_option maxHeartbeats 1000000 in
set_option maxRecDepth 100000 in
theorem ref_of_neg (m : Nat) (w : World) (hm : m ≤ 9223372036854775808) : Calls Tryd.prog 49 #[.int .i64 (-(m : Int))] w (Made (Dm.dg m) w) := by
  obtain ⟨i0, hi0, hz0, hz1, hz2⟩ := info_parts info3
  have HI0 := Lib.hid hi0; have HZ0 := Lib.hid hz0; have HZ1 := Lib.hid hz1; have HZ2 := Lib.hid hz2
  clear hi0 hz0 hz1 hz2
  go_enter Tryd.func49, Tryd.ntmps49
  go_wp2
  go_loopw [0, 3] (fun q d wr => ∃ (k : Nat) (a : Option Addr) (c : Nat), q = .int .i64 (-((m / 10 ^ k : Nat) : Int)) ∧ d = .slice a k c ∧ Hid (k = 0 ∨ 10 ^ (k - 1) ≤ m) ∧ Hid (wr.ownsRow w.heap.size 3 1 (.slice a k c) k (ic (Dm.lowd k m))) ∧ Hid (Below w.heap.size w wr)) (fun q _ _ => (intOf q).natAbs)
  case atStart => exact ⟨0, none, 0, by simp, rfl, .inl rfl, World.ownsRow_nil _ _ _ _, Below.refl _ _⟩
  case round =>
      obtain ⟨k, a, c, rfl, rfl, HK, HO, HB⟩ := hrel
      have hk8 : k ≤ 100 := by
        rcases Nat.lt_or_ge 100 k with h | h
        · rcases HK.out with e | e
          · omega
          · have : 10 ^ 100 ≤ 10 ^ (k - 1) := Nat.pow_le_pow_right (by omega) (by omega)
            have h2 : (9223372036854775808 : Nat) < 10 ^ 100 := by decide +kernel
            omega
        · exact h
      have hsz := HB.out.size
      obtain ⟨qq, hqq⟩ : ∃ qq : Nat, m / 10 ^ k = qq := ⟨_, rfl⟩
      have hqm : qq ≤ 9223372036854775808 := by have := Nat.div_le_self m (10 ^ k); omega
      rcases Nat.eq_zero_or_pos qq with hz | hp
      · subst hz
        rw [hqq]
        have hfin : Hid (Dm.lowd k m = Dm.dg m) := by
          have hp : 0 < 10 ^ k := Nat.pow_pos (by omega)
          refine Dm.lowd_eq k m ?_ HK.out
          rw [Nat.div_eq_zero_iff] at hqq
          omega
        have hnl : Hid (Dm.nd m = k) := by show (Dm.dg m).length = k; rw [← hfin.out, Dm.lowd_length]
        have HB3 := HB
        clear hqq
        go_wp2
        go_ret
        refine ⟨a, c, by rw [Dm.dg_length, hnl.out]; rfl, ?_, HB3.out⟩
        have h2 := IntC.of_own HO.out
        rw [hfin.out] at h2
        rw [Dm.dg_length, hnl.out]
        exact h2
      · rw [hqq]
        have hlow : Dm.lowd (k + 1) m = Dm.lowd k m ++ [((qq % 10 : Nat) : Int)] := by rw [Dm.lowd_snoc, hqq]
        have hnx : m / 10 ^ (k + 1) = qq / 10 := by rw [Nat.pow_succ, ← Nat.div_div_eq_div_mul, hqq]
        have hge : 10 ^ k ≤ m := (Nat.div_pos_iff.1 (by rw [hqq]; exact hp : 0 < m / 10 ^ k)).2
        have HLW := Lib.hid hlow
        have HNX := Lib.hid hnx
        have HGE := Lib.hid hge
        clear hqq hlow hnx hge
        have ht : (-(qq : Int)).tmod 10 = -((qq % 10 : Nat) : Int) := by rw [Int.neg_tmod, Int.tmod_eq_emod_of_nonneg (by omega)]; omega
        have hd : (-(qq : Int)).tdiv 10 = -((qq / 10 : Nat) : Int) := by rw [Int.neg_tdiv, Int.tdiv_eq_ediv_of_nonneg (by omega)]; omega
        have hne : (-(qq : Int) != 0) = true := by simp; omega
        obtain ⟨r, hr⟩ : ∃ r : Nat, qq % 10 = r := ⟨_, rfl⟩
        have hr9 : r ≤ 9 := by omega
        rw [hr] at ht HLW
        have HR := Lib.hid hr
        clear hr
        rcases Nat.eq_zero_or_pos r with hr0 | hrp
        · subst hr0
          go_wp2_with (at_builtin; refine wpList_append_src _ rfl (.tmp 13) (.tmp 15) 79 79 rfl w.heap.size 3 i0 (.int .i64 0) 1 8 Tryd.underlying79 HI0.out HZ0.out HZ1.out HZ2.out rfl (.slice a k c) k (ic (Dm.lowd k m)) rfl (HO.out.alloc _) _ 1 (ic [((0 : Nat) : Int)]) rfl ?qsn1 ?qan1 ?qbn1 ?qcn1 ?_)
          case qsn1 => exact lit_src wr _
          case qan1 => unfold maxLen; omega
          case qbn1 => omega
          case qcn1 => simp; omega
          intro v2 w2 hown hgrow hat
          have hbel := (HB.out.alloc hsz _).grown hgrow (by simp; omega) (fun i hi => (HO.out.lt i hi).1)
          have hown2 : w2.ownsRow w.heap.size 3 1 v2 (k + 1) (ic (Dm.lowd (k + 1) m)) := by
            rw [HLW.out, ic_append]; exact hown
          obtain ⟨a2, c2, hv2⟩ : ∃ a2 c2, v2 = .slice a2 (k + 1) c2 := by
            obtain ⟨a2, c2, e⟩ := (IntC.of_own hown2).form
            rw [Dm.lowd_length] at e; exact ⟨a2, c2, e⟩
          rw [hv2] at hown2 ⊢
          have HO2 := Lib.hid hown2
          have HB2 := Lib.hid hbel
          clear hown hgrow hat hbel hown2 hv2
          go_wp2
          go_roundw
          case rel => exact ⟨k + 1, a2, c2, by rw [HNX.out]; simp, rfl, .inr HGE.out, HO2, HB2⟩
          case measure => simp [intOf]; omega
        · have hlt0 : decide (-(r : Int) < 0) = true := by simp; omega
          go_wp2_with (at_builtin; refine wpList_append_src _ rfl (.tmp 13) (.tmp 15) 79 79 rfl w.heap.size 3 i0 (.int .i64 0) 1 8 Tryd.underlying79 HI0.out HZ0.out HZ1.out HZ2.out rfl (.slice a k c) k (ic (Dm.lowd k m)) rfl (HO.out.alloc _) _ 1 (ic [(r : Int)]) rfl ?qsn2 ?qan2 ?qbn2 ?qcn2 ?_)
          case qsn2 => exact lit_src wr _
          case qan2 => unfold maxLen; omega
          case qbn2 => omega
          case qcn2 => simp; omega
          intro v2 w2 hown hgrow hat
          have hbel := (HB.out.alloc hsz _).grown hgrow (by simp; omega) (fun i hi => (HO.out.lt i hi).1)
          have hown2 : w2.ownsRow w.heap.size 3 1 v2 (k + 1) (ic (Dm.lowd (k + 1) m)) := by
            rw [HLW.out, ic_append]; exact hown
          obtain ⟨a2, c2, hv2⟩ : ∃ a2 c2, v2 = .slice a2 (k + 1) c2 := by
            obtain ⟨a2, c2, e⟩ := (IntC.of_own hown2).form
            rw [Dm.lowd_length] at e; exact ⟨a2, c2, e⟩
          rw [hv2] at hown2 ⊢
          have HO2 := Lib.hid hown2
          have HB2 := Lib.hid hbel
          clear hown hgrow hat hbel hown2 hv2
          go_wp2
          go_roundw
          case rel => exact ⟨k + 1, a2, c2, by rw [HNX.out]; simp, rfl, .inr HGE.out, HO2, HB2⟩
          case measure => simp [intOf]; omega
theorem ref_of (n : Int) (w : World) (hn : -9223372036854775808 ≤ n ∧ n ≤ 9223372036854775807) : Calls Tryd.prog 49 #[.int .i64 n] w (Made (Dm.dg n.natAbs) w) := by
  by_cases h : n < 0
  · obtain ⟨m, rfl⟩ : ∃ m : Nat, n = -(m : Int) := ⟨n.natAbs, by omega⟩
    rw [show (-(m : Int)).natAbs = m by omega]
    exact ref_of_neg m w (by omega)
  · obtain ⟨m, rfl⟩ : ∃ m : Nat, n = (m : Int) := ⟨n.natAbs, by omega⟩
    rw [show ((m : Int)).natAbs = m by omega]
    exact ref_of_pos m w (by omega)
end Go.Proofs.YtamclbagafcmgaaDoor
/- The reference of layer 2: trim, Cmp, Shift on digits. -/
namespace Go.Proofs.YtamclbagafcmgaaDoor
open Go.RowKit
set_option maxHeartbeats 1000000 in
set_option maxRecDepth 100000 in
theorem ref_cmp (a0 a1 : Option Addr) (c0 c1 A B : Nat) (w : World) (h0 : IntC (.slice a0 (Dm.nd A) c0) (Dm.dg A) w) (h1 : IntC (.slice a1 (Dm.nd B) c1) (Dm.dg B) w) (hA : Dm.nd A ≤ 1000) (_hB : Dm.nd B ≤ 1000) :
    Calls Tryd.prog 47 #[.slice a0 (Dm.nd A) c0, .slice a1 (Dm.nd B) c1] w fun e w' => e = .returned (.int .i64 (Dm.cmp A B)) ∧ Below w.heap.size w w' := by
  rcases Nat.lt_trichotomy (Dm.nd A) (Dm.nd B) with hl | hl | hl
  · have hc : Dm.cmp A B = -1 := by unfold Dm.cmp; rw [if_pos (Dm.lt_of_nd _ _ hl)]
    have HC := Lib.hid hc
    clear hc h0 h1
    generalize Dm.nd A = n0 at *
    generalize Dm.nd B = n1 at *
    have hne : ((n0 : Int) != (n1 : Int)) = true := by simp; omega
    have hlt : decide ((n0 : Int) < (n1 : Int)) = true := by simp; omega
    go_enter Tryd.func47, Tryd.ntmps47
    go_wp2
    go_ret
    exact ⟨by rw [HC.out]; rfl, Below.refl _ _⟩
  · have hAB : A < 10 ^ Dm.nd A ∧ B < 10 ^ Dm.nd A := ⟨(Dm.nd_spec A).1, by rw [hl]; exact (Dm.nd_spec B).1⟩
    rw [← hl] at h1 ⊢
    clear _hB
    have hd0 : ∀ j, j < Dm.nd A → (Dm.dg A).getD j 0 = ((A / 10 ^ j % 10 : Nat) : Int) := fun j hj => Dm.dg_get A j hj
    have hd1 : ∀ j, j < Dm.nd A → (Dm.dg B).getD j 0 = ((B / 10 ^ j % 10 : Nat) : Int) := fun j hj => Dm.dg_get B j (by omega)
    have H0 := Lib.hid h0
    have H1 := Lib.hid h1
    have HD0 := Lib.hid hd0
    have HD1 := Lib.hid hd1
    have HAB := Lib.hid hAB
    clear h0 h1 hd0 hd1 hAB hl
    generalize Dm.nd A = n at *
    have hne : ((n : Int) != (n : Int)) = false := by simp
    go_enter Tryd.func47, Tryd.ntmps47
    go_wp2
    go_loopw [5] (fun v wr => ∃ j : Nat, j ≤ n ∧ v = .int .i64 ((j : Int) - 1) ∧ Hid (A / 10 ^ j = B / 10 ^ j) ∧ Hid (Below w.heap.size w wr)) (fun v _ => (intOf v + 1).toNat)
    case atStart => exact ⟨n, Nat.le_refl _, rfl, by show _ = _; rw [Nat.div_eq_of_lt HAB.out.1, Nat.div_eq_of_lt HAB.out.2], Below.refl _ _⟩
    case round =>
      obtain ⟨j, hj, rfl, HE, HB⟩ := hrel
      cases j with
      | zero =>
        have hab : A = B := by simpa using HE.out
        have hc : Dm.cmp A B = 0 := by subst hab; simp [Dm.cmp]
        have HC := Lib.hid hc
        clear hc hab
        go_wp2
        go_ret
        exact ⟨by rw [HC.out]; rfl, HB.out⟩
      | succ i =>
        have hj1 : (((i + 1 : Nat) : Int) - 1) = (i : Int) := by omega
        rw [hj1]
        clear hj1
        obtain ⟨g0, o0, rfl, hg0, hc0⟩ := (H0.out.keep HB.out).at i (by omega)
        obtain ⟨g1, o1, rfl, hg1, hc1⟩ := (H1.out.keep HB.out).at i (by omega)
        rw [HD0.out i (by omega)] at hc0
        rw [HD1.out i (by omega)] at hc1
        have hi0 : (0 : Int) ≤ (i : Int) := by omega
        have hi1 : (i : Int) < (n : Int) := by omega
        have hlt3 := Dm.cmp_digit_lt A B i HE.out
        have hgt3 := Dm.cmp_digit_lt B A i HE.out.symm
        have heq3 := Dm.cmp_digit_eq A B i HE.out
        generalize A / 10 ^ i % 10 = x at *
        generalize B / 10 ^ i % 10 = y at *
        rcases Nat.lt_trichotomy x y with hxy | hxy | hxy
        · have hc : Dm.cmp A B = -1 := by unfold Dm.cmp; rw [if_pos (hlt3 hxy)]
          have HC := Lib.hid hc
          have q1 : decide ((x : Int) < (y : Int)) = true := by simp; omega
          have q2 : decide (x < y) = true := by simp; omega
          clear hc hlt3 hgt3 heq3
          go_wp2
          go_quiet (fail)
          go_wp2
          go_ret
          exact ⟨by rw [HC.out]; rfl, by first | exact below_n HB.out _ | exact below_n (below_n HB.out _) _⟩
        · subst hxy
          have HEQ := Lib.hid (heq3 rfl)
          have q1 : decide ((x : Int) < (x : Int)) = false := by simp
          clear hlt3 hgt3 heq3
          go_wp2
          go_quiet (fail)
          go_wp2
          go_quiet (fail)
          go_wp2
          go_roundw
          case rel => exact ⟨i, by omega, by go_num, HEQ, below_n HB.out _⟩
          case measure => simp [intOf]
        · have hc : Dm.cmp A B = 1 := by unfold Dm.cmp; rw [if_neg (by have := hgt3 hxy; omega), if_pos (hgt3 hxy)]
          have HC := Lib.hid hc
          have q1 : decide ((x : Int) < (y : Int)) = false := by simp; omega
          have q2 : decide (x < y) = false := by simp; omega
          have q3 : decide ((y : Int) < (x : Int)) = true := by simp; omega
          have q4 : decide (y < x) = true := by simp; omega
          clear hc hlt3 hgt3 heq3
          go_wp2
          go_quiet (fail)
          go_wp2
          go_quiet (fail)
          go_wp2
          go_ret
          exact ⟨by rw [HC.out]; rfl, by first | exact below_n HB.out _ | exact below_n (below_n HB.out _) _⟩
  · have hc : Dm.cmp A B = 1 := by unfold Dm.cmp; have := Dm.lt_of_nd _ _ hl; rw [if_neg (by omega), if_pos this]
    have HC := Lib.hid hc
    clear hc h0 h1
    generalize Dm.nd A = n0 at *
    generalize Dm.nd B = n1 at *
    have hne : ((n0 : Int) != (n1 : Int)) = true := by simp; omega
    have hlt : decide ((n0 : Int) < (n1 : Int)) = false := by simp; omega
    have hlt2 : decide (n0 < n1) = false := by simp; omega
    go_enter Tryd.func47, Tryd.ntmps47
    go_wp2
    go_ret
    exact ⟨by rw [HC.out]; rfl, Below.refl _ _⟩
end Go.Proofs.YtamclbagafcmgaaDoor
/- The reference of layer 2: Shift, Plus, Minus on digits. -/
namespace Go.Proofs.YtamclbagafcmgaaDoor
open Go.RowKit

theorem made_zeros (k : Nat) : (madeCells #[.int .i64 0] k).toList = ic (List.replicate k 0) := by
  apply List.ext_getElem
  · simp [madeCells, ic]
  · intro i h1 h2
    simp [madeCells, ic] at h1 ⊢
    rw [Nat.mod_one]; rfl
set_option maxHeartbeats 1000000 in
set_option maxRecDepth 100000 in
theorem ref_shift (a : Option Addr) (c A k : Nat) (w : World) (h : IntC (.slice a (Dm.nd A) c) (Dm.dg A) w) (hA : Dm.nd A ≤ 1000) (hk : k ≤ 1000) :
    Calls Tryd.prog 48 #[.slice a (Dm.nd A) c, .int .i64 (k : Int)] w (Made (Dm.dg (A * 10 ^ k)) w) := by
  by_cases h0 : A = 0
  · subst h0
    have hz : Dm.nd 0 = 0 := Dm.nd_zero
    go_enter Tryd.func48, Tryd.ntmps48
    go_wp2
    go_ret
    refine ⟨none, 0, ?_, ?_, Below.refl _ _⟩
    · rw [Nat.zero_mul, Dm.dg_zero]; rfl
    · rw [Nat.zero_mul, Dm.dg_zero]; exact .inl ⟨_, _, rfl, rfl⟩
  · obtain ⟨i0, hi0, hz0, hz1, hz2⟩ := info_parts info3
    have hmk : ∀ wx : World, (Instr.makeSlice 79 (.int .i64 (k : Int)) (.int .i64 (k : Int))).run Tryd.prog wx = .ok (.slice (some ⟨wx.heap.size, 0, none⟩) k k) (wx.alloc (.cells (madeCells #[.int .i64 0] k) 3)) := fun wx => by
      have := run_make (P := Tryd.prog) wx 79 3 i0 (.int .i64 0) Tryd.underlying79 hi0 hz0 .i64 .i64 (k : Int) (k : Int) (by omega) (by omega) (by rw [hz2]; omega) (by omega)
      rw [hz1] at this
      simpa [Value.cells] using this
    have hown0 : (w.alloc (.cells (madeCells #[.int .i64 0] k) 3)).ownsRow w.heap.size 3 1 (.slice (some ⟨w.heap.size, 0, none⟩) k k) k (ic (List.replicate k 0)) := by
      refine ⟨by simp [ic], .inr ⟨w.heap.size, k, _, rfl, Nat.le_refl _, heap_alloc_new w _, Nat.le_refl _, by unfold maxLen; omega, by simp [madeCells], ?_⟩⟩
      rw [List.take_of_length_le (by simp [madeCells]), made_zeros]
    have hdg := Dm.dg_shift A k h0
    have hl : Dm.nd (A * 10 ^ k) = k + Dm.nd A := Dm.nd_shift A k h0
    have hsrc := (h.keep (w' := w.alloc (.cells (madeCells #[.int .i64 0] k) 3)) ((Below.refl _ w).alloc (Nat.le_refl _) _)).src
    rw [Dm.dg_length] at hsrc
    have hpos : 0 < Dm.nd A := by rcases (Dm.nd_spec A).2 with e | e; omega; exact e.1
    have HI0 := Lib.hid hi0; have HZ0 := Lib.hid hz0; have HZ1 := Lib.hid hz1; have HZ2 := Lib.hid hz2
    have HOW := Lib.hid hown0
    have HDG := Lib.hid hdg
    have HL := Lib.hid hl
    have HS := Lib.hid hsrc
    clear hi0 hz0 hz1 hz2 hown0 hdg hl hsrc h
    have hMC : ∃ zs, madeCells #[Value.int .i64 0] k = zs := ⟨_, rfl⟩
    obtain ⟨zs, hzs⟩ := hMC
    rw [hzs] at hmk HOW HS
    clear hzs
    generalize hn : Dm.nd A = n at *
    have hne : ((n : Int) == 0) = false := by simp; omega
    clear hn
    go_enter Tryd.func48, Tryd.ntmps48
    go_wp2_with (at_builtin; refine wpList_append_src _ rfl (.tmp 9) (.tmp 10) 79 79 rfl w.heap.size 3 i0 (.int .i64 0) 1 8 Tryd.underlying79 HI0.out HZ0.out HZ1.out HZ2.out rfl _ k (ic (List.replicate k 0)) rfl HOW.out (.slice a n c) n (ic (Dm.dg A)) rfl HS.out ?qa ?qb ?qc ?_)
    case qa => unfold maxLen; omega
    case qb => omega
    case qc => simp
    intro v2 w2 hown hgrow hat
    have hbel := ((Below.refl _ w).alloc (Nat.le_refl _) _).grown hgrow (by simp) (by intro i hi; simp [Value.ownBlock] at hi; omega)
    rw [← ic_append, ← HDG.out] at hown
    obtain ⟨a2, c2, hv2⟩ := (IntC.of_own hown).form
    have HO := Lib.hid (IntC.of_own hown)
    have HB := Lib.hid hbel
    clear hown hgrow hat hbel
    rw [hv2] at HO
    rw [hv2]
    go_wp2
    go_ret
    exact ⟨a2, c2, rfl, HO.out, HB.out⟩
end Go.Proofs.YtamclbagafcmgaaDoor
/- The reference of layer 2: Times on digits. -/
namespace Go.Proofs.YtamclbagafcmgaaDoor
open Go.RowKit
/-- what Times has after i digits and j rounds of the next -/
def tv (A B i j : Nat) : Nat := B * (A % 10 ^ i) + j * (B * 10 ^ i)
end Go.Proofs.YtamclbagafcmgaaDoor
/- The reference of layer 2: Round on digits: the quotient, rounded to the nearest, ties up. -/
namespace Go.Proofs.YtamclbagafcmgaaDoor
open Go.RowKit

/-- a quotient, rounded -/
def rnd (A B : Nat) : Nat := if B ≤ 2 * (A % B) then A / B + 1 else A / B
theorem cmp_n (a0 a1 : Option Addr) (n0 n1 c0 c1 A B : Nat) (w : World) (e0 : n0 = Dm.nd A) (e1 : n1 = Dm.nd B) (h0 : IntC (.slice a0 n0 c0) (Dm.dg A) w) (h1 : IntC (.slice a1 n1 c1) (Dm.dg B) w) (hA : n0 ≤ 1000) (hB : n1 ≤ 1000) :
    Calls Tryd.prog 47 #[.slice a0 n0 c0, .slice a1 n1 c1] w fun e w' => e = .returned (.int .i64 (Dm.cmp A B)) ∧ Below w.heap.size w w' := by
  subst e0 e1; exact ref_cmp a0 a1 c0 c1 A B w h0 h1 hA hB
end Go.Proofs.YtamclbagafcmgaaDoor
