/- The reference of layer 2: Of, trim, Cmp, Shift, Plus, Minus on digits. -/
import Derived.Test.YtfnnhhhkdfgefaaGreatDoorDecKit
import Derived.Deep.QuietTactic
import Derived.BigQuiet
namespace Go.Proofs.YtfnnhhhkdfgefaaGreatDoor
open Go.RowKit

set_option maxHeartbeats 1000000 in
set_option maxRecDepth 100000 in
theorem ref_of_pos (m : Nat) (w : World) (hm : m ≤ 9223372036854775807) : Calls Tryz.prog 53 #[.int .i64 ((m : Int))] w (Made (Dm.dg m) w) := by
  obtain ⟨i0, hi0, hz0, hz1, hz2⟩ := info_parts info3
  have HI0 := Lib.hid hi0; have HZ0 := Lib.hid hz0; have HZ1 := Lib.hid hz1; have HZ2 := Lib.hid hz2
  clear hi0 hz0 hz1 hz2
  go_enter Tryz.func53, Tryz.ntmps53
  go_wp2
  go_loopw [0, 3] (fun q d wr => ∃ (k : Nat) (a : Option Addr) (c : Nat), q = .int .i64 (((m / 10 ^ k : Nat) : Int)) ∧ d = .slice a k c ∧ Hid (k = 0 ∨ 10 ^ (k - 1) ≤ m) ∧ Hid (wr.ownsRow w.heap.size 3 1 (.slice a k c) k (ic (Dm.lowd k m))) ∧ Hid (Below w.heap.size w wr)) (fun q _ _ => (intOf q).natAbs)
  case atStart => exact ⟨0, none, 0, by simp, rfl, .inl rfl, World.ownsRow_nil _ _ _ _, Below.refl _ _⟩
  case round =>
      obtain ⟨k, a, c, rfl, rfl, HK, HO, HB⟩ := hrel
      have hk8 : k ≤ 100 := by
        rcases Nat.lt_or_ge 100 k with h | h
        · rcases HK.out with e | e
          · omega
          · have : 10 ^ 100 ≤ 10 ^ (k - 1) := Nat.pow_le_pow_right (by omega) (by omega)
            have h2 : (9223372036854775808 : Nat) < 10 ^ 100 := by decide +kernel
            omega
        · exact h
      have hsz := HB.out.size
      obtain ⟨qq, hqq⟩ : ∃ qq : Nat, m / 10 ^ k = qq := ⟨_, rfl⟩
      have hqm : qq ≤ 9223372036854775808 := by have := Nat.div_le_self m (10 ^ k); omega
      have hqm2 : qq ≤ 9223372036854775807 := by have := Nat.div_le_self m (10 ^ k); omega
      rcases Nat.eq_zero_or_pos qq with hz | hp
      · subst hz
        rw [hqq]
        have hfin : Hid (Dm.lowd k m = Dm.dg m) := by
          have hp : 0 < 10 ^ k := Nat.pow_pos (by omega)
          refine Dm.lowd_eq k m ?_ HK.out
          rw [Nat.div_eq_zero_iff] at hqq
          omega
        have hnl : Hid (Dm.nd m = k) := by show (Dm.dg m).length = k; rw [← hfin.out, Dm.lowd_length]
        have HB3 := HB
        clear hqq
        go_wp2
        go_ret
        refine ⟨a, c, by rw [Dm.dg_length, hnl.out]; rfl, ?_, HB3.out⟩
        have h2 := IntC.of_own HO.out
        rw [hfin.out] at h2
        rw [Dm.dg_length, hnl.out]
        exact h2
      · rw [hqq]
        have hlow : Dm.lowd (k + 1) m = Dm.lowd k m ++ [((qq % 10 : Nat) : Int)] := by rw [Dm.lowd_snoc, hqq]
        have hnx : m / 10 ^ (k + 1) = qq / 10 := by rw [Nat.pow_succ, ← Nat.div_div_eq_div_mul, hqq]
        have hge : 10 ^ k ≤ m := (Nat.div_pos_iff.1 (by rw [hqq]; exact hp : 0 < m / 10 ^ k)).2
        have HLW := Lib.hid hlow
        have HNX := Lib.hid hnx
        have HGE := Lib.hid hge
        clear hqq hlow hnx hge
        have hne : ((qq : Int) != 0) = true := by simp; omega
        obtain ⟨r, hr⟩ : ∃ r : Nat, qq % 10 = r := ⟨_, rfl⟩
        have hr9 : r ≤ 9 := by omega
        have hri : ((qq : Int) % 10) = (r : Int) := by omega
        rw [hr] at HLW
        clear hr
        have hlt0 : decide ((r : Int) < 0) = false := by simp
        go_wp2_with (at_builtin; refine wpList_append_src _ rfl (.tmp 13) (.tmp 15) 64 64 rfl w.heap.size 3 i0 (.int .i64 0) 1 8 Tryz.underlying64 HI0.out HZ0.out HZ1.out HZ2.out rfl (.slice a k c) k (ic (Dm.lowd k m)) rfl (HO.out.alloc _) _ 1 (ic [(r : Int)]) rfl ?qsp1 ?qap1 ?qbp1 ?qcp1 ?_)
        case qsp1 => exact lit_src wr _
        case qap1 => unfold maxLen; omega
        case qbp1 => omega
        case qcp1 => simp; omega
        intro v2 w2 hown hgrow hat
        have hbel := (HB.out.alloc hsz _).grown hgrow (by simp; omega) (fun i hi => (HO.out.lt i hi).1)
        have hown2 : w2.ownsRow w.heap.size 3 1 v2 (k + 1) (ic (Dm.lowd (k + 1) m)) := by
          rw [HLW.out, ic_append]; exact hown
        obtain ⟨a2, c2, hv2⟩ : ∃ a2 c2, v2 = .slice a2 (k + 1) c2 := by
          obtain ⟨a2, c2, e⟩ := (IntC.of_own hown2).form
          rw [Dm.lowd_length] at e; exact ⟨a2, c2, e⟩
        rw [hv2] at hown2 ⊢
        have HO2 := Lib.hid hown2
        have HB2 := Lib.hid hbel
        clear hown hgrow hat hbel hown2 hv2
        go_wp2
        go_roundw
        case rel => exact ⟨k + 1, a2, c2, by rw [HNX.out]; go_num, rfl, .inr HGE.out, HO2, HB2⟩
        case measure => simp [intOf]; omega
set_option maxHeartbeats 1000000 in
set_option maxRecDepth 100000 in
theorem ref_of_neg (m : Nat) (w : World) (hm : m ≤ 9223372036854775808) : Calls Tryz.prog 53 #[.int .i64 (-(m : Int))] w (Made (Dm.dg m) w) := by
  obtain ⟨i0, hi0, hz0, hz1, hz2⟩ := info_parts info3
  have HI0 := Lib.hid hi0; have HZ0 := Lib.hid hz0; have HZ1 := Lib.hid hz1; have HZ2 := Lib.hid hz2
  clear hi0 hz0 hz1 hz2
  go_enter Tryz.func53, Tryz.ntmps53
  go_wp2
  go_loopw [0, 3] (fun q d wr => ∃ (k : Nat) (a : Option Addr) (c : Nat), q = .int .i64 (-((m / 10 ^ k : Nat) : Int)) ∧ d = .slice a k c ∧ Hid (k = 0 ∨ 10 ^ (k - 1) ≤ m) ∧ Hid (wr.ownsRow w.heap.size 3 1 (.slice a k c) k (ic (Dm.lowd k m))) ∧ Hid (Below w.heap.size w wr)) (fun q _ _ => (intOf q).natAbs)
  case atStart => exact ⟨0, none, 0, by simp, rfl, .inl rfl, World.ownsRow_nil _ _ _ _, Below.refl _ _⟩
  case round =>
      obtain ⟨k, a, c, rfl, rfl, HK, HO, HB⟩ := hrel
      have hk8 : k ≤ 100 := by
        rcases Nat.lt_or_ge 100 k with h | h
        · rcases HK.out with e | e
          · omega
          · have : 10 ^ 100 ≤ 10 ^ (k - 1) := Nat.pow_le_pow_right (by omega) (by omega)
            have h2 : (9223372036854775808 : Nat) < 10 ^ 100 := by decide +kernel
            omega
        · exact h
      have hsz := HB.out.size
      obtain ⟨qq, hqq⟩ : ∃ qq : Nat, m / 10 ^ k = qq := ⟨_, rfl⟩
      have hqm : qq ≤ 9223372036854775808 := by have := Nat.div_le_self m (10 ^ k); omega
      rcases Nat.eq_zero_or_pos qq with hz | hp
      · subst hz
        rw [hqq]
        have hfin : Hid (Dm.lowd k m = Dm.dg m) := by
          have hp : 0 < 10 ^ k := Nat.pow_pos (by omega)
          refine Dm.lowd_eq k m ?_ HK.out
          rw [Nat.div_eq_zero_iff] at hqq
          omega
        have hnl : Hid (Dm.nd m = k) := by show (Dm.dg m).length = k; rw [← hfin.out, Dm.lowd_length]
        have HB3 := HB
        clear hqq
        go_wp2
        go_ret
        refine ⟨a, c, by rw [Dm.dg_length, hnl.out]; rfl, ?_, HB3.out⟩
        have h2 := IntC.of_own HO.out
        rw [hfin.out] at h2
        rw [Dm.dg_length, hnl.out]
        exact h2
      · rw [hqq]
        have hlow : Dm.lowd (k + 1) m = Dm.lowd k m ++ [((qq % 10 : Nat) : Int)] := by rw [Dm.lowd_snoc, hqq]
        have hnx : m / 10 ^ (k + 1) = qq / 10 := by rw [Nat.pow_succ, ← Nat.div_div_eq_div_mul, hqq]
        have hge : 10 ^ k ≤ m := (Nat.div_pos_iff.1 (by rw [hqq]; exact hp : 0 < m / 10 ^ k)).2
        have HLW := Lib.hid hlow
        have HNX := Lib.hid hnx
        have HGE := Lib.hid hge
        clear hqq hlow hnx hge
        have ht : (-(qq : Int)).tmod 10 = -((qq % 10 : Nat) : Int) := by rw [Int.neg_tmod, Int.tmod_eq_emod_of_nonneg (by omega)]; omega
        have hd : (-(qq : Int)).tdiv 10 = -((qq / 10 : Nat) : Int) := by rw [Int.neg_tdiv, Int.tdiv_eq_ediv_of_nonneg (by omega)]; omega
        have hne : (-(qq : Int) != 0) = true := by simp; omega
        obtain ⟨r, hr⟩ : ∃ r : Nat, qq % 10 = r := ⟨_, rfl⟩
        have hr9 : r ≤ 9 := by omega
        rw [hr] at ht HLW
        have HR := Lib.hid hr
        clear hr
        rcases Nat.eq_zero_or_pos r with hr0 | hrp
        · subst hr0
          go_wp2_with (at_builtin; refine wpList_append_src _ rfl (.tmp 13) (.tmp 15) 64 64 rfl w.heap.size 3 i0 (.int .i64 0) 1 8 Tryz.underlying64 HI0.out HZ0.out HZ1.out HZ2.out rfl (.slice a k c) k (ic (Dm.lowd k m)) rfl (HO.out.alloc _) _ 1 (ic [((0 : Nat) : Int)]) rfl ?qsn1 ?qan1 ?qbn1 ?qcn1 ?_)
          case qsn1 => exact lit_src wr _
          case qan1 => unfold maxLen; omega
          case qbn1 => omega
          case qcn1 => simp; omega
          intro v2 w2 hown hgrow hat
          have hbel := (HB.out.alloc hsz _).grown hgrow (by simp; omega) (fun i hi => (HO.out.lt i hi).1)
          have hown2 : w2.ownsRow w.heap.size 3 1 v2 (k + 1) (ic (Dm.lowd (k + 1) m)) := by
            rw [HLW.out, ic_append]; exact hown
          obtain ⟨a2, c2, hv2⟩ : ∃ a2 c2, v2 = .slice a2 (k + 1) c2 := by
            obtain ⟨a2, c2, e⟩ := (IntC.of_own hown2).form
            rw [Dm.lowd_length] at e; exact ⟨a2, c2, e⟩
          rw [hv2] at hown2 ⊢
          have HO2 := Lib.hid hown2
          have HB2 := Lib.hid hbel
          clear hown hgrow hat hbel hown2 hv2
          go_wp2
          go_roundw
          case rel => exact ⟨k + 1, a2, c2, by rw [HNX.out]; simp, rfl, .inr HGE.out, HO2, HB2⟩
          case measure => simp [intOf]; omega
        · have hlt0 : decide (-(r : Int) < 0) = true := by simp; omega
          go_wp2_with (at_builtin; refine wpList_append_src _ rfl (.tmp 13) (.tmp 15) 64 64 rfl w.heap.size 3 i0 (.int .i64 0) 1 8 Tryz.underlying64 HI0.out HZ0.out HZ1.out HZ2.out rfl (.slice a k c) k (ic (Dm.lowd k m)) rfl (HO.out.alloc _) _ 1 (ic [(r : Int)]) rfl ?qsn2 ?qan2 ?qbn2 ?qcn2 ?_)
          case qsn2 => exact lit_src wr _
          case qan2 => unfold maxLen; omega
          case qbn2 => omega
          case qcn2 => simp; omega
          intro v2 w2 hown hgrow hat
          have hbel := (HB.out.alloc hsz _).grown hgrow (by simp; omega) (fun i hi => (HO.out.lt i hi).1)
          have hown2 : w2.ownsRow w.heap.size 3 1 v2 (k + 1) (ic (Dm.lowd (k + 1) m)) := by
            rw [HLW.out, ic_append]; exact hown
          obtain ⟨a2, c2, hv2⟩ : ∃ a2 c2, v2 = .slice a2 (k + 1) c2 := by
            obtain ⟨a2, c2, e⟩ := (IntC.of_own hown2).form
            rw [Dm.lowd_length] at e; exact ⟨a2, c2, e⟩
          rw [hv2] at hown2 ⊢
          have HO2 := Lib.hid hown2
          have HB2 := Lib.hid hbel
          clear hown hgrow hat hbel hown2 hv2
          go_wp2
          go_roundw
          case rel => exact ⟨k + 1, a2, c2, by rw [HNX.out]; simp, rfl, .inr HGE.out, HO2, HB2⟩
          case measure => simp [intOf]; omega
theorem ref_of (n : Int) (w : World) (hn : -9223372036854775808 ≤ n ∧ n ≤ 9223372036854775807) : Calls Tryz.prog 53 #[.int .i64 n] w (Made (Dm.dg n.natAbs) w) := by
  by_cases h : n < 0
  · obtain ⟨m, rfl⟩ : ∃ m : Nat, n = -(m : Int) := ⟨n.natAbs, by omega⟩
    rw [show (-(m : Int)).natAbs = m by omega]
    exact ref_of_neg m w (by omega)
  · obtain ⟨m, rfl⟩ : ∃ m : Nat, n = (m : Int) := ⟨n.natAbs, by omega⟩
    rw [show ((m : Int)).natAbs = m by omega]
    exact ref_of_pos m w (by omega)
end Go.Proofs.YtfnnhhhkdfgefaaGreatDoor
/- The reference of layer 2: trim, Cmp, Shift on digits. -/
namespace Go.Proofs.YtfnnhhhkdfgefaaGreatDoor
open Go.RowKit

theorem nat_ne (t : Nat) (h : t ≠ 0) : ((t : Int) == 0) = false := by simp; omega
/-- what trim leaves -/
def Trimmed (m : Nat) (w : World) (e : Ending) (w' : World) : Prop := ∃ a c, e = .returned (.slice a (Dm.nd m) c) ∧ IntC (.slice a (Dm.nd m) c) (Dm.dg m) w ∧ w = w'
set_option maxHeartbeats 1000000 in
set_option maxRecDepth 100000 in
theorem ref_trim (a : Option Addr) (c k m : Nat) (w : World) (h : IntC (.slice a k c) (Dm.lowd k m) w) (hm : m < 10 ^ k) (hk : k ≤ 1000) : Calls Tryz.prog 42 #[.slice a k c] w (Trimmed m w) := by
  rcases Nat.eq_zero_or_pos k with hk0 | hkp
  · subst hk0
    obtain rfl : m = 0 := by simpa using hm
    have hz : Dm.nd 0 = 0 := Dm.nd_zero
    go_enter Tryz.func42, Tryz.ntmps42
    go_wp2
    go_loop [0] (fun v => v = .slice a 0 c) (fun _ => 0)
    case atStart => rfl
    case round =>
      obtain rfl := hrel
      go_wp2
      go_ret
      exact ⟨a, c, by rw [Dm.nd_zero]; rfl, by rw [Dm.nd_zero, Dm.dg_zero]; exact .inl ⟨_, _, rfl, rfl⟩, rfl⟩
  · obtain ⟨g, off, rfl, hg, hc⟩ : ∃ g off, a = some ⟨g, off, none⟩ ∧ g < w.heap.size ∧ ∀ j, j < k → w.cell? ⟨g, off + j, none⟩ = some (.int .i64 ((m / 10 ^ j % 10 : Nat) : Int)) := by
      rcases h with ⟨a', c', e, he⟩ | ⟨g, off, cap, e, hc, hg, hcell⟩
      · simp only [Value.slice.injEq] at e; omega
      · simp only [Value.slice.injEq] at e
        obtain ⟨rfl, e2, rfl⟩ := e
        exact ⟨g, off, rfl, hg, fun j hj => by rw [hcell j (by omega), Dm.lowd_get _ _ _ hj]⟩
    have hcap : k ≤ c := by
      rcases h with ⟨a', c', e, he⟩ | ⟨g, off, cap, e, hc, hg, hcell⟩
      · simp only [Value.slice.injEq] at e; omega
      · simp only [Value.slice.injEq, Dm.lowd_length] at e hc; omega
    have HC := Lib.hid hc
    have HM := Lib.hid hm
    clear h hc hm
    go_enter Tryz.func42, Tryz.ntmps42
    go_wp2
    go_loop [0] (fun v => ∃ j : Nat, j ≤ k ∧ v = .slice (some ⟨g, off, none⟩) j c ∧ Hid (m < 10 ^ j)) (fun v => match v with | .slice _ n _ => n | _ => 0)
    case atStart => exact ⟨k, Nat.le_refl _, rfl, HM⟩
    case round =>
      obtain ⟨j, hj, rfl, HJ⟩ := hrel
      cases j with
      | zero =>
        have hm0 : m = 0 := by simpa using HJ.out
        go_wp2
        go_ret
        subst hm0
        exact ⟨_, c, by rw [Dm.nd_zero]; rfl, by rw [Dm.nd_zero, Dm.dg_zero]; exact .inl ⟨_, _, rfl, rfl⟩, rfl⟩
      | succ i =>
        have hci := HC.out i (by omega)
        have hpos : decide ((0 : Int) < (i : Int) + 1) = true := by rw [decide_eq_true_iff]; omega
        by_cases hz : m / 10 ^ i % 10 = 0
        · have HZ : Hid (m < 10 ^ i) := Dm.top_zero i m HJ.out hz
          rw [hz] at hci
          clear hz
          go_wp2
          go_round
          case rel => exact ⟨i, by omega, by simp, HZ⟩
          case measure => simp
        · have hzi : (((m / 10 ^ i % 10 : Nat) : Int) == 0) = false := nat_ne _ hz
          have hnd : Hid (Dm.lowd (i + 1) m = Dm.dg m) := Dm.lowd_eq _ _ HJ.out (.inr (by simpa using Dm.top_pos i m HJ.out hz))
          have hl : Hid (Dm.nd m = i + 1) := by show (Dm.dg m).length = i + 1; rw [← hnd.out, Dm.lowd_length]
          clear hz
          generalize (m / 10 ^ i % 10) = dd at *
          go_wp2
          go_ret
          refine ⟨_, c, by rw [hl.out]; rfl, ?_, rfl⟩
          rw [hl.out, ← hnd.out]
          refine .inr ⟨g, off, c, by rw [Dm.lowd_length], by rw [Dm.lowd_length]; omega, hg, fun j hj' => ?_⟩
          rw [Dm.lowd_length] at hj'
          rw [HC.out j (by omega), Dm.lowd_get _ _ _ hj']
set_option maxHeartbeats 1000000 in
set_option maxRecDepth 100000 in
theorem ref_cmp (a0 a1 : Option Addr) (c0 c1 A B : Nat) (w : World) (h0 : IntC (.slice a0 (Dm.nd A) c0) (Dm.dg A) w) (h1 : IntC (.slice a1 (Dm.nd B) c1) (Dm.dg B) w) (hA : Dm.nd A ≤ 1000) (_hB : Dm.nd B ≤ 1000) :
    Calls Tryz.prog 56 #[.slice a0 (Dm.nd A) c0, .slice a1 (Dm.nd B) c1] w fun e w' => e = .returned (.int .i64 (Dm.cmp A B)) ∧ Below w.heap.size w w' := by
  rcases Nat.lt_trichotomy (Dm.nd A) (Dm.nd B) with hl | hl | hl
  · have hc : Dm.cmp A B = -1 := by unfold Dm.cmp; rw [if_pos (Dm.lt_of_nd _ _ hl)]
    have HC := Lib.hid hc
    clear hc h0 h1
    generalize Dm.nd A = n0 at *
    generalize Dm.nd B = n1 at *
    have hne : ((n0 : Int) != (n1 : Int)) = true := by simp; omega
    have hlt : decide ((n0 : Int) < (n1 : Int)) = true := by simp; omega
    go_enter Tryz.func56, Tryz.ntmps56
    go_wp2
    go_ret
    exact ⟨by rw [HC.out]; rfl, Below.refl _ _⟩
  · have hAB : A < 10 ^ Dm.nd A ∧ B < 10 ^ Dm.nd A := ⟨(Dm.nd_spec A).1, by rw [hl]; exact (Dm.nd_spec B).1⟩
    rw [← hl] at h1 ⊢
    clear _hB
    have hd0 : ∀ j, j < Dm.nd A → (Dm.dg A).getD j 0 = ((A / 10 ^ j % 10 : Nat) : Int) := fun j hj => Dm.dg_get A j hj
    have hd1 : ∀ j, j < Dm.nd A → (Dm.dg B).getD j 0 = ((B / 10 ^ j % 10 : Nat) : Int) := fun j hj => Dm.dg_get B j (by omega)
    have H0 := Lib.hid h0
    have H1 := Lib.hid h1
    have HD0 := Lib.hid hd0
    have HD1 := Lib.hid hd1
    have HAB := Lib.hid hAB
    clear h0 h1 hd0 hd1 hAB hl
    generalize Dm.nd A = n at *
    have hne : ((n : Int) != (n : Int)) = false := by simp
    go_enter Tryz.func56, Tryz.ntmps56
    go_wp2
    go_loopw [5] (fun v wr => ∃ j : Nat, j ≤ n ∧ v = .int .i64 ((j : Int) - 1) ∧ Hid (A / 10 ^ j = B / 10 ^ j) ∧ Hid (Below w.heap.size w wr)) (fun v _ => (intOf v + 1).toNat)
    case atStart => exact ⟨n, Nat.le_refl _, rfl, by show _ = _; rw [Nat.div_eq_of_lt HAB.out.1, Nat.div_eq_of_lt HAB.out.2], Below.refl _ _⟩
    case round =>
      obtain ⟨j, hj, rfl, HE, HB⟩ := hrel
      cases j with
      | zero =>
        have hab : A = B := by simpa using HE.out
        have hc : Dm.cmp A B = 0 := by subst hab; simp [Dm.cmp]
        have HC := Lib.hid hc
        clear hc hab
        go_wp2
        go_ret
        exact ⟨by rw [HC.out]; rfl, HB.out⟩
      | succ i =>
        have hj1 : (((i + 1 : Nat) : Int) - 1) = (i : Int) := by omega
        rw [hj1]
        clear hj1
        obtain ⟨g0, o0, rfl, hg0, hc0⟩ := (H0.out.keep HB.out).at i (by omega)
        obtain ⟨g1, o1, rfl, hg1, hc1⟩ := (H1.out.keep HB.out).at i (by omega)
        rw [HD0.out i (by omega)] at hc0
        rw [HD1.out i (by omega)] at hc1
        have hi0 : (0 : Int) ≤ (i : Int) := by omega
        have hi1 : (i : Int) < (n : Int) := by omega
        have hlt3 := Dm.cmp_digit_lt A B i HE.out
        have hgt3 := Dm.cmp_digit_lt B A i HE.out.symm
        have heq3 := Dm.cmp_digit_eq A B i HE.out
        generalize A / 10 ^ i % 10 = x at *
        generalize B / 10 ^ i % 10 = y at *
        rcases Nat.lt_trichotomy x y with hxy | hxy | hxy
        · have hc : Dm.cmp A B = -1 := by unfold Dm.cmp; rw [if_pos (hlt3 hxy)]
          have HC := Lib.hid hc
          have q1 : decide ((x : Int) < (y : Int)) = true := by simp; omega
          have q2 : decide (x < y) = true := by simp; omega
          clear hc hlt3 hgt3 heq3
          go_wp2
          go_quiet (fail)
          go_wp2
          go_ret
          exact ⟨by rw [HC.out]; rfl, by first | exact below_n HB.out _ | exact below_n (below_n HB.out _) _⟩
        · subst hxy
          have HEQ := Lib.hid (heq3 rfl)
          have q1 : decide ((x : Int) < (x : Int)) = false := by simp
          clear hlt3 hgt3 heq3
          go_wp2
          go_quiet (fail)
          go_wp2
          go_quiet (fail)
          go_wp2
          go_roundw
          case rel => exact ⟨i, by omega, by go_num, HEQ, below_n HB.out _⟩
          case measure => simp [intOf]
        · have hc : Dm.cmp A B = 1 := by unfold Dm.cmp; rw [if_neg (by have := hgt3 hxy; omega), if_pos (hgt3 hxy)]
          have HC := Lib.hid hc
          have q1 : decide ((x : Int) < (y : Int)) = false := by simp; omega
          have q2 : decide (x < y) = false := by simp; omega
          have q3 : decide ((y : Int) < (x : Int)) = true := by simp; omega
          have q4 : decide (y < x) = true := by simp; omega
          clear hc hlt3 hgt3 heq3
          go_wp2
          go_quiet (fail)
          go_wp2
          go_quiet (fail)
          go_wp2
          go_ret
          exact ⟨by rw [HC.out]; rfl, by first | exact below_n HB.out _ | exact below_n (below_n HB.out _) _⟩
  · have hc : Dm.cmp A B = 1 := by unfold Dm.cmp; have := Dm.lt_of_nd _ _ hl; rw [if_neg (by omega), if_pos this]
    have HC := Lib.hid hc
    clear hc h0 h1
    generalize Dm.nd A = n0 at *
    generalize Dm.nd B = n1 at *
    have hne : ((n0 : Int) != (n1 : Int)) = true := by simp; omega
    have hlt : decide ((n0 : Int) < (n1 : Int)) = false := by simp; omega
    have hlt2 : decide (n0 < n1) = false := by simp; omega
    go_enter Tryz.func56, Tryz.ntmps56
    go_wp2
    go_ret
    exact ⟨by rw [HC.out]; rfl, Below.refl _ _⟩
end Go.Proofs.YtfnnhhhkdfgefaaGreatDoor
/- The reference of layer 2: Shift, Plus, Minus on digits. -/
namespace Go.Proofs.YtfnnhhhkdfgefaaGreatDoor
open Go.RowKit

theorem made_zeros (k : Nat) : (madeCells #[.int .i64 0] k).toList = ic (List.replicate k 0) := by
  apply List.ext_getElem
  · simp [madeCells, ic]
  · intro i h1 h2
    simp [madeCells, ic] at h1 ⊢
    rw [Nat.mod_one]; rfl
set_option maxHeartbeats 1000000 in
set_option maxRecDepth 100000 in
theorem ref_shift (a : Option Addr) (c A k : Nat) (w : World) (h : IntC (.slice a (Dm.nd A) c) (Dm.dg A) w) (hA : Dm.nd A ≤ 1000) (hk : k ≤ 1000) :
    Calls Tryz.prog 52 #[.slice a (Dm.nd A) c, .int .i64 (k : Int)] w (Made (Dm.dg (A * 10 ^ k)) w) := by
  by_cases h0 : A = 0
  · subst h0
    have hz : Dm.nd 0 = 0 := Dm.nd_zero
    go_enter Tryz.func52, Tryz.ntmps52
    go_wp2
    go_ret
    refine ⟨none, 0, ?_, ?_, Below.refl _ _⟩
    · rw [Nat.zero_mul, Dm.dg_zero]; rfl
    · rw [Nat.zero_mul, Dm.dg_zero]; exact .inl ⟨_, _, rfl, rfl⟩
  · obtain ⟨i0, hi0, hz0, hz1, hz2⟩ := info_parts info3
    have hmk : ∀ wx : World, (Instr.makeSlice 64 (.int .i64 (k : Int)) (.int .i64 (k : Int))).run Tryz.prog wx = .ok (.slice (some ⟨wx.heap.size, 0, none⟩) k k) (wx.alloc (.cells (madeCells #[.int .i64 0] k) 3)) := fun wx => by
      have := run_make (P := Tryz.prog) wx 64 3 i0 (.int .i64 0) Tryz.underlying64 hi0 hz0 .i64 .i64 (k : Int) (k : Int) (by omega) (by omega) (by rw [hz2]; omega) (by omega)
      rw [hz1] at this
      simpa [Value.cells] using this
    have hown0 : (w.alloc (.cells (madeCells #[.int .i64 0] k) 3)).ownsRow w.heap.size 3 1 (.slice (some ⟨w.heap.size, 0, none⟩) k k) k (ic (List.replicate k 0)) := by
      refine ⟨by simp [ic], .inr ⟨w.heap.size, k, _, rfl, Nat.le_refl _, heap_alloc_new w _, Nat.le_refl _, by unfold maxLen; omega, by simp [madeCells], ?_⟩⟩
      rw [List.take_of_length_le (by simp [madeCells]), made_zeros]
    have hdg := Dm.dg_shift A k h0
    have hl : Dm.nd (A * 10 ^ k) = k + Dm.nd A := Dm.nd_shift A k h0
    have hsrc := (h.keep (w' := w.alloc (.cells (madeCells #[.int .i64 0] k) 3)) ((Below.refl _ w).alloc (Nat.le_refl _) _)).src
    rw [Dm.dg_length] at hsrc
    have hpos : 0 < Dm.nd A := by rcases (Dm.nd_spec A).2 with e | e; omega; exact e.1
    have HI0 := Lib.hid hi0; have HZ0 := Lib.hid hz0; have HZ1 := Lib.hid hz1; have HZ2 := Lib.hid hz2
    have HOW := Lib.hid hown0
    have HDG := Lib.hid hdg
    have HL := Lib.hid hl
    have HS := Lib.hid hsrc
    clear hi0 hz0 hz1 hz2 hown0 hdg hl hsrc h
    have hMC : ∃ zs, madeCells #[Value.int .i64 0] k = zs := ⟨_, rfl⟩
    obtain ⟨zs, hzs⟩ := hMC
    rw [hzs] at hmk HOW HS
    clear hzs
    generalize hn : Dm.nd A = n at *
    have hne : ((n : Int) == 0) = false := by simp; omega
    clear hn
    go_enter Tryz.func52, Tryz.ntmps52
    go_wp2_with (at_builtin; refine wpList_append_src _ rfl (.tmp 9) (.tmp 10) 64 64 rfl w.heap.size 3 i0 (.int .i64 0) 1 8 Tryz.underlying64 HI0.out HZ0.out HZ1.out HZ2.out rfl _ k (ic (List.replicate k 0)) rfl HOW.out (.slice a n c) n (ic (Dm.dg A)) rfl HS.out ?qa ?qb ?qc ?_)
    case qa => unfold maxLen; omega
    case qb => omega
    case qc => simp
    intro v2 w2 hown hgrow hat
    have hbel := ((Below.refl _ w).alloc (Nat.le_refl _) _).grown hgrow (by simp) (by intro i hi; simp [Value.ownBlock] at hi; omega)
    rw [← ic_append, ← HDG.out] at hown
    obtain ⟨a2, c2, hv2⟩ := (IntC.of_own hown).form
    have HO := Lib.hid (IntC.of_own hown)
    have HB := Lib.hid hbel
    clear hown hgrow hat hbel
    rw [hv2] at HO
    rw [hv2]
    go_wp2
    go_ret
    exact ⟨a2, c2, rfl, HO.out, HB.out⟩
set_option maxHeartbeats 4000000 in
set_option maxRecDepth 100000 in
theorem ref_plus (a0 a1 : Option Addr) (c0 c1 A B : Nat) (w : World) (h0 : IntC (.slice a0 (Dm.nd A) c0) (Dm.dg A) w) (h1 : IntC (.slice a1 (Dm.nd B) c1) (Dm.dg B) w) (hA : Dm.nd A ≤ 1000) (hB : Dm.nd B ≤ 1000) :
    Calls Tryz.prog 55 #[.slice a0 (Dm.nd A) c0, .slice a1 (Dm.nd B) c1] w (Made (Dm.dg (A + B)) w) := by
  obtain ⟨i0, hi0, hz0, hz1, hz2⟩ := info_parts info3
  have HI0 := Lib.hid hi0; have HZ0 := Lib.hid hz0; have HZ1 := Lib.hid hz1; have HZ2 := Lib.hid hz2
  clear hi0 hz0 hz1 hz2
  have hd0 : ∀ j, j < Dm.nd A → (Dm.dg A).getD j 0 = ((A / 10 ^ j % 10 : Nat) : Int) := fun j hj => Dm.dg_get A j hj
  have hd1 : ∀ j, j < Dm.nd B → (Dm.dg B).getD j 0 = ((B / 10 ^ j % 10 : Nat) : Int) := fun j hj => Dm.dg_get B j hj
  have hgA : ∀ j, j < Dm.nd A → 10 ^ j ≤ A := fun j hj => by
    rcases (Dm.nd_spec A).2 with e | e
    · rw [e, Dm.nd_zero] at hj; omega
    · exact Nat.le_trans (Nat.pow_le_pow_right (by omega) (by omega)) e.2
  have hgB : ∀ j, j < Dm.nd B → 10 ^ j ≤ B := fun j hj => by
    rcases (Dm.nd_spec B).2 with e | e
    · rw [e, Dm.nd_zero] at hj; omega
    · exact Nat.le_trans (Nat.pow_le_pow_right (by omega) (by omega)) e.2
  have hlA : ∀ j, Dm.nd A ≤ j → A < 10 ^ j := fun j hj => Nat.lt_of_lt_of_le (Dm.nd_spec A).1 (Nat.pow_le_pow_right (by omega) hj)
  have hlB : ∀ j, Dm.nd B ≤ j → B < 10 ^ j := fun j hj => Nat.lt_of_lt_of_le (Dm.nd_spec B).1 (Nat.pow_le_pow_right (by omega) hj)
  have H0 := Lib.hid h0; have H1 := Lib.hid h1; have HD0 := Lib.hid hd0; have HD1 := Lib.hid hd1
  have HGA := Lib.hid hgA; have HGB := Lib.hid hgB; have HLA := Lib.hid hlA; have HLB := Lib.hid hlB
  clear h0 h1 hd0 hd1 hgA hgB hlA hlB
  generalize Dm.nd A = nA at *
  generalize Dm.nd B = nB at *
  go_enter Tryz.func55, Tryz.ntmps55
  go_wp2
  go_loopw [5, 6, 7] (fun o cv iv wr => ∃ (k : Nat) (oa : Option Addr) (oc : Nat), o = .slice oa k oc ∧ cv = .int .i64 ((Dm.car A B k : Nat) : Int) ∧ iv = .int .i64 (k : Int) ∧ k ≤ max nA nB + 1 ∧ Hid (k = 0 ∨ 10 ^ (k - 1) ≤ A + B) ∧ Hid (wr.ownsRow w.heap.size 3 1 (.slice oa k oc) k (ic (Dm.lowd k (A + B)))) ∧ Hid (Below w.heap.size w wr) ∧ Hid (k = max nA nB + 1 → Dm.car A B k = 0)) (fun _ _ iv _ => max nA nB + 2 - (intOf iv).toNat)
  case atStart => exact ⟨0, none, 0, rfl, by rw [Dm.car_zero]; rfl, rfl, by omega, .inl rfl, World.ownsRow_nil _ _ _ _, Below.refl _ _, fun h => by omega⟩
  case round =>
    obtain ⟨k, oa, oc, rfl, rfl, rfl, hk, HK, HO, HB, HT⟩ := hrel
    have hsz := HB.out.size
    have hcl := Dm.car_le A B k
    have hlow := Dm.lowd_snoc k (A + B)
    rw [Dm.sum_digit] at hlow
    have hcs := Dm.car_succ A B k
    have hx0 : nA ≤ k → A / 10 ^ k % 10 = 0 := fun h => by rw [Nat.div_eq_of_lt (HLA.out k h)]
    have hy0 : nB ≤ k → B / 10 ^ k % 10 = 0 := fun h => by rw [Nat.div_eq_of_lt (HLB.out k h)]
    have hx9 : A / 10 ^ k % 10 ≤ 9 := Nat.le_of_lt_succ (Nat.mod_lt _ (by omega))
    have hy9 : B / 10 ^ k % 10 ≤ 9 := Nat.le_of_lt_succ (Nat.mod_lt _ (by omega))
    have hsge := Dm.sum_ge A B k
    have hslt := Dm.sum_lt A B k
    have hdA := HD0.out k
    have hdB := HD1.out k
    generalize A / 10 ^ k % 10 = x at *
    generalize B / 10 ^ k % 10 = y at *
    generalize Dm.car A B k = cc at *
    obtain ⟨dd, hdd⟩ : ∃ dd : Nat, (cc + x + y) % 10 = dd := ⟨_, rfl⟩
    obtain ⟨ee, hee⟩ : ∃ ee : Nat, (cc + x + y) / 10 = ee := ⟨_, rfl⟩
    rw [hdd] at hlow
    rw [hee] at hcs
    have HLW := Lib.hid hlow
    have HEE := Lib.hid hcs
    have HSGE := Lib.hid hsge
    have HSLT := Lib.hid hslt
    clear hlow hcs hsge hslt
    by_cases hiA : k < nA
    · obtain ⟨g0, o0, rfl, hg0, hcell0⟩ := (H0.out.keep HB.out).at k hiA
      rw [hdA hiA] at hcell0
      by_cases hiB : k < nB
      · obtain ⟨g1, o1, rfl, hg1, hcell1⟩ := (H1.out.keep HB.out).at k hiB
        rw [hdB hiB] at hcell1
        clear hdA hdB hx0 hy0
        have q1 : decide (k < nA) = true := by simp; omega
        have q3 : decide ((k : Int) < (nA : Int)) = true := by simp; omega
        have q2 : decide (k < nB) = true := by simp; omega
        have q4 : decide ((k : Int) < (nB : Int)) = true := by simp; omega
        have hmod : ((cc : Int) + (x : Int) + (y : Int)) % 10 = (dd : Int) := by omega
        have hdiv : ((cc : Int) + (x : Int) + (y : Int)) / 10 = (ee : Int) := by omega
        have HGE : Hid (10 ^ k ≤ A + B) := by show _ ≤ _; have := HGA.out k hiA; omega
        have HTOP : Hid (k + 1 = max nA nB + 1 → Dm.car A B (k + 1) = 0) := fun h => by omega

        go_wp2_with (at_builtin; refine wpList_append_src _ rfl (.tmp 44) (.tmp 47) 64 64 rfl w.heap.size 3 i0 (.int .i64 0) 1 8 Tryz.underlying64 HI0.out HZ0.out HZ1.out HZ2.out rfl (.slice oa k oc) k (ic (Dm.lowd k (A + B))) rfl (HO.out.alloc _) _ 1 (ic [(dd : Int)]) rfl ?qsp1 ?qap1 ?qbp1 ?qcp1 ?_)
        case qsp1 => exact lit_src wr _
        case qap1 => unfold maxLen; omega
        case qbp1 => omega
        case qcp1 => simp; omega
        intro v2 w2 hown hgrow hat
        have hbel := (HB.out.alloc hsz _).grown hgrow (by simp; omega) (fun i hi => (HO.out.lt i hi).1)
        have hown2 : w2.ownsRow w.heap.size 3 1 v2 (k + 1) (ic (Dm.lowd (k + 1) (A + B))) := by
          rw [HLW.out, ic_append]; exact hown
        obtain ⟨a2, c2, hv2⟩ : ∃ a2 c2, v2 = .slice a2 (k + 1) c2 := by
          obtain ⟨a2, c2, e⟩ := (IntC.of_own hown2).form
          rw [Dm.lowd_length] at e; exact ⟨a2, c2, e⟩
        rw [hv2] at hown2 ⊢
        have HO2 := Lib.hid hown2
        have HB2 := Lib.hid hbel
        clear hown hgrow hat hbel hown2 hv2
        go_wp2
        go_roundw
        case rel => exact ⟨k + 1, a2, c2, rfl, by rw [HEE.out]; first | rw [hdiv] | (rw [← hdiv]; rfl) | (simp; omega), by go_num, by omega, .inr HGE.out, HO2, HB2, HTOP⟩
        case measure => simp [intOf]; omega
      · have hy := hy0 (by omega)
        subst hy
        clear hdA hdB hx0 hy0
        have q1 : decide (k < nA) = true := by simp; omega
        have q3 : decide ((k : Int) < (nA : Int)) = true := by simp; omega
        have q2 : decide (k < nB) = false := by simp; omega
        have q4 : decide ((k : Int) < (nB : Int)) = false := by simp; omega
        have hmod : ((cc : Int) + (x : Int)) % 10 = (dd : Int) := by omega
        have hdiv : ((cc : Int) + (x : Int)) / 10 = (ee : Int) := by omega
        have HGE : Hid (10 ^ k ≤ A + B) := by show _ ≤ _; have := HGA.out k hiA; omega
        have HTOP : Hid (k + 1 = max nA nB + 1 → Dm.car A B (k + 1) = 0) := fun h => by omega

        go_wp2_with (at_builtin; refine wpList_append_src _ rfl (.tmp 44) (.tmp 47) 64 64 rfl w.heap.size 3 i0 (.int .i64 0) 1 8 Tryz.underlying64 HI0.out HZ0.out HZ1.out HZ2.out rfl (.slice oa k oc) k (ic (Dm.lowd k (A + B))) rfl (HO.out.alloc _) _ 1 (ic [(dd : Int)]) rfl ?qsp2 ?qap2 ?qbp2 ?qcp2 ?_)
        case qsp2 => exact lit_src wr _
        case qap2 => unfold maxLen; omega
        case qbp2 => omega
        case qcp2 => simp; omega
        intro v2 w2 hown hgrow hat
        have hbel := (HB.out.alloc hsz _).grown hgrow (by simp; omega) (fun i hi => (HO.out.lt i hi).1)
        have hown2 : w2.ownsRow w.heap.size 3 1 v2 (k + 1) (ic (Dm.lowd (k + 1) (A + B))) := by
          rw [HLW.out, ic_append]; exact hown
        obtain ⟨a2, c2, hv2⟩ : ∃ a2 c2, v2 = .slice a2 (k + 1) c2 := by
          obtain ⟨a2, c2, e⟩ := (IntC.of_own hown2).form
          rw [Dm.lowd_length] at e; exact ⟨a2, c2, e⟩
        rw [hv2] at hown2 ⊢
        have HO2 := Lib.hid hown2
        have HB2 := Lib.hid hbel
        clear hown hgrow hat hbel hown2 hv2
        go_wp2
        go_roundw
        case rel => exact ⟨k + 1, a2, c2, rfl, by rw [HEE.out]; first | rw [hdiv] | (rw [← hdiv]; rfl) | (simp; omega), by go_num, by omega, .inr HGE.out, HO2, HB2, HTOP⟩
        case measure => simp [intOf]; omega
    · have hx := hx0 (by omega)
      subst hx
      by_cases hiB : k < nB
      · obtain ⟨g1, o1, rfl, hg1, hcell1⟩ := (H1.out.keep HB.out).at k hiB
        rw [hdB hiB] at hcell1
        clear hdA hdB hx0 hy0
        have q1 : decide (k < nA) = false := by simp; omega
        have q3 : decide ((k : Int) < (nA : Int)) = false := by simp; omega
        have q2 : decide (k < nB) = true := by simp; omega
        have q4 : decide ((k : Int) < (nB : Int)) = true := by simp; omega
        have hmod : ((cc : Int) + (y : Int)) % 10 = (dd : Int) := by omega
        have hdiv : ((cc : Int) + (y : Int)) / 10 = (ee : Int) := by omega
        have HGE : Hid (10 ^ k ≤ A + B) := by show _ ≤ _; have := HGB.out k hiB; omega
        have HTOP : Hid (k + 1 = max nA nB + 1 → Dm.car A B (k + 1) = 0) := fun h => by omega

        go_wp2_with (at_builtin; refine wpList_append_src _ rfl (.tmp 44) (.tmp 47) 64 64 rfl w.heap.size 3 i0 (.int .i64 0) 1 8 Tryz.underlying64 HI0.out HZ0.out HZ1.out HZ2.out rfl (.slice oa k oc) k (ic (Dm.lowd k (A + B))) rfl (HO.out.alloc _) _ 1 (ic [(dd : Int)]) rfl ?qsp3 ?qap3 ?qbp3 ?qcp3 ?_)
        case qsp3 => exact lit_src wr _
        case qap3 => unfold maxLen; omega
        case qbp3 => omega
        case qcp3 => simp; omega
        intro v2 w2 hown hgrow hat
        have hbel := (HB.out.alloc hsz _).grown hgrow (by simp; omega) (fun i hi => (HO.out.lt i hi).1)
        have hown2 : w2.ownsRow w.heap.size 3 1 v2 (k + 1) (ic (Dm.lowd (k + 1) (A + B))) := by
          rw [HLW.out, ic_append]; exact hown
        obtain ⟨a2, c2, hv2⟩ : ∃ a2 c2, v2 = .slice a2 (k + 1) c2 := by
          obtain ⟨a2, c2, e⟩ := (IntC.of_own hown2).form
          rw [Dm.lowd_length] at e; exact ⟨a2, c2, e⟩
        rw [hv2] at hown2 ⊢
        have HO2 := Lib.hid hown2
        have HB2 := Lib.hid hbel
        clear hown hgrow hat hbel hown2 hv2
        go_wp2
        go_roundw
        case rel => exact ⟨k + 1, a2, c2, rfl, by rw [HEE.out]; first | rw [hdiv] | (rw [← hdiv]; rfl) | (simp; omega), by go_num, by omega, .inr HGE.out, HO2, HB2, HTOP⟩
        case measure => simp [intOf]; omega
      · have hy := hy0 (by omega)
        subst hy
        clear hdA hdB hx0 hy0
        rcases Nat.eq_zero_or_pos cc with hc | hc
        · subst hc
          have hfin : Dm.lowd k (A + B) = Dm.dg (A + B) := Dm.lowd_eq k _ (HSLT.out (HLA.out k (by omega)) (HLB.out k (by omega)) rfl) HK.out
          have HFIN := Lib.hid hfin
          have q1 : decide (k < nA) = false := by simp; omega
          have q2 : decide (k < nB) = false := by simp; omega
          have q3 : decide ((k : Int) < (nA : Int)) = false := by simp; omega
          have q4 : decide ((k : Int) < (nB : Int)) = false := by simp; omega
          clear hfin
          have hl : Hid ((Dm.dg (A + B)).length = k) := by show _ = _; rw [← HFIN.out, Dm.lowd_length]
          go_wp2
          go_ret
          refine ⟨oa, oc, by rw [hl.out]; rfl, ?_, HB.out⟩
          have h2 := IntC.of_own HO.out
          rw [HFIN.out] at h2
          rw [hl.out]
          exact h2
        · have hc1 : cc = 1 := by omega
          subst hc1
          have hkm : k ≤ max nA nB := by
            rcases Nat.lt_or_ge (max nA nB) k with hh | hh
            · have := HT.out (by omega); omega
            · exact hh
          obtain rfl : dd = 1 := by omega
          obtain rfl : ee = 0 := by omega
          have q1 : decide (k < nA) = false := by simp; omega
          have q3 : decide ((k : Int) < (nA : Int)) = false := by simp; omega
          have q2 : decide (k < nB) = false := by simp; omega
          have q4 : decide ((k : Int) < (nB : Int)) = false := by simp; omega
          have hdiv : ((1 : Int)) / 10 = 0 := by omega
          have HGE : Hid (10 ^ k ≤ A + B) := HSGE.out hc
          have HTOP : Hid (k + 1 = max nA nB + 1 → Dm.car A B (k + 1) = 0) := fun h => by rw [HEE.out]

          go_wp2_with (at_builtin; refine wpList_append_src _ rfl (.tmp 44) (.tmp 47) 64 64 rfl w.heap.size 3 i0 (.int .i64 0) 1 8 Tryz.underlying64 HI0.out HZ0.out HZ1.out HZ2.out rfl (.slice oa k oc) k (ic (Dm.lowd k (A + B))) rfl (HO.out.alloc _) _ 1 (ic [(1 : Int)]) rfl ?qsp4 ?qap4 ?qbp4 ?qcp4 ?_)
          case qsp4 => exact lit_src wr _
          case qap4 => unfold maxLen; omega
          case qbp4 => omega
          case qcp4 => first | (simp; omega) | omega
          intro v2 w2 hown hgrow hat
          have hbel := (HB.out.alloc hsz _).grown hgrow (by simp; omega) (fun i hi => (HO.out.lt i hi).1)
          have hown2 : w2.ownsRow w.heap.size 3 1 v2 (k + 1) (ic (Dm.lowd (k + 1) (A + B))) := by
            rw [HLW.out, ic_append]; exact hown
          obtain ⟨a2, c2, hv2⟩ : ∃ a2 c2, v2 = .slice a2 (k + 1) c2 := by
            obtain ⟨a2, c2, e⟩ := (IntC.of_own hown2).form
            rw [Dm.lowd_length] at e; exact ⟨a2, c2, e⟩
          rw [hv2] at hown2 ⊢
          have HO2 := Lib.hid hown2
          have HB2 := Lib.hid hbel
          clear hown hgrow hat hbel hown2 hv2
          go_wp2
          go_roundw
          case rel => exact ⟨k + 1, a2, c2, rfl, by rw [HEE.out]; first | rw [hdiv] | (rw [← hdiv]; rfl) | (simp; omega), by go_num, by omega, .inr HGE.out, HO2, HB2, HTOP⟩
          case measure => simp [intOf]; omega
end Go.Proofs.YtfnnhhhkdfgefaaGreatDoor
/- The reference of layer 2: Minus on digits. -/
namespace Go.Proofs.YtfnnhhhkdfgefaaGreatDoor
open Go.RowKit

set_option maxHeartbeats 4000000 in
set_option maxRecDepth 100000 in
theorem ref_minus (a0 a1 : Option Addr) (c0 c1 A B : Nat) (w : World) (h0 : IntC (.slice a0 (Dm.nd A) c0) (Dm.dg A) w) (h1 : IntC (.slice a1 (Dm.nd B) c1) (Dm.dg B) w) (hA : Dm.nd A ≤ 900) (_hB : Dm.nd B ≤ 900) (hBA : B ≤ A) :
    Calls Tryz.prog 73 #[.slice a0 (Dm.nd A) c0, .slice a1 (Dm.nd B) c1] w (Made (Dm.dg (A - B)) w) := by
  obtain ⟨i0, hi0, hz0, hz1, hz2⟩ := info_parts info3
  have HI0 := Lib.hid hi0; have HZ0 := Lib.hid hz0; have HZ1 := Lib.hid hz1; have HZ2 := Lib.hid hz2
  clear hi0 hz0 hz1 hz2
  have hd0 : ∀ j, j < Dm.nd A → (Dm.dg A).getD j 0 = ((A / 10 ^ j % 10 : Nat) : Int) := fun j hj => Dm.dg_get A j hj
  have hd1 : ∀ j, j < Dm.nd B → (Dm.dg B).getD j 0 = ((B / 10 ^ j % 10 : Nat) : Int) := fun j hj => Dm.dg_get B j hj
  have hlB : ∀ j, Dm.nd B ≤ j → B < 10 ^ j := fun j hj => Nat.lt_of_lt_of_le (Dm.nd_spec B).1 (Nat.pow_le_pow_right (by omega) hj)
  have hAn : A - B < 10 ^ Dm.nd A := by have := (Dm.nd_spec A).1; omega
  have H0 := Lib.hid h0; have H1 := Lib.hid h1; have HD0 := Lib.hid hd0; have HD1 := Lib.hid hd1
  have HLB := Lib.hid hlB; have HAN := Lib.hid hAn; have HBA := Lib.hid hBA
  clear h0 h1 hd0 hd1 hlB hAn hBA
  generalize Dm.nd A = nA at *
  generalize Dm.nd B = nB at *
  go_enter Tryz.func73, Tryz.ntmps73
  go_wp2
  go_loopw [5, 6, 7] (fun o cv iv wr => ∃ (k : Nat) (oa : Option Addr) (oc : Nat), o = .slice oa k oc ∧ cv = .int .i64 ((Dm.bor A B k : Nat) : Int) ∧ iv = .int .i64 (k : Int) ∧ k ≤ nA ∧ Hid (wr.ownsRow w.heap.size 3 1 (.slice oa k oc) k (ic (Dm.lowd k (A - B)))) ∧ Hid (Below w.heap.size w wr)) (fun _ _ iv _ => nA - (intOf iv).toNat)
  case atStart => exact ⟨0, none, 0, rfl, by rw [Dm.bor_zero]; rfl, rfl, by omega, World.ownsRow_nil _ _ _ _, Below.refl _ _⟩
  case round =>
    obtain ⟨k, oa, oc, rfl, rfl, rfl, hk, HO, HB⟩ := hrel
    have hsz := HB.out.size
    by_cases hiA : k < nA
    · have hbl := Dm.bor_le A B k
      have hlow := Dm.lowd_snoc k (A - B)
      have hbs := Dm.bor_succ A B k
      have hdf := Dm.dif_digit A B k HBA.out
      have hy0 : nB ≤ k → B / 10 ^ k % 10 = 0 := fun h => by rw [Nat.div_eq_of_lt (HLB.out k h)]
      have hx9 : A / 10 ^ k % 10 ≤ 9 := Nat.le_of_lt_succ (Nat.mod_lt _ (by omega))
      have hy9 : B / 10 ^ k % 10 ≤ 9 := Nat.le_of_lt_succ (Nat.mod_lt _ (by omega))
      have hd9 : (A - B) / 10 ^ k % 10 ≤ 9 := Nat.le_of_lt_succ (Nat.mod_lt _ (by omega))
      obtain ⟨g0, o0, rfl, hg0, hcell0⟩ := (H0.out.keep HB.out).at k hiA
      rw [HD0.out k hiA] at hcell0
      have hdB := HD1.out k
      generalize A / 10 ^ k % 10 = x at *
      generalize B / 10 ^ k % 10 = y at *
      generalize (A - B) / 10 ^ k % 10 = dd at *
      generalize Dm.bor A B k = bb at *
      have HLW := Lib.hid hlow
      have HBS := Lib.hid hbs
      clear hlow hbs
      have q1 : decide (k < nA) = true := by simp; omega
      have q3 : decide ((k : Int) < (nA : Int)) = true := by simp; omega
      by_cases hiB : k < nB
      · obtain ⟨g1, o1, rfl, hg1, hcell1⟩ := (H1.out.keep HB.out).at k hiB
        rw [hdB hiB] at hcell1
        clear hdB hy0
        have q2 : decide (k < nB) = true := by simp; omega
        have q4 : decide ((k : Int) < (nB : Int)) = true := by simp; omega
        by_cases hng : x < bb + y
        · skip
          have hneg : decide ((x : Int) - (bb : Int) - (y : Int) < 0) = true := by simp; omega
          have hsum : (x : Int) - (bb : Int) - (y : Int) + 10 = (dd : Int) := by omega

          go_wp2_with (at_builtin; refine wpList_append_src _ rfl (.tmp 35) (.tmp 37) 64 64 rfl w.heap.size 3 i0 (.int .i64 0) 1 8 Tryz.underlying64 HI0.out HZ0.out HZ1.out HZ2.out rfl (.slice oa k oc) k (ic (Dm.lowd k (A - B))) rfl (HO.out.alloc _) _ 1 (ic [(dd : Int)]) rfl ?qsm1 ?qam1 ?qbm1 ?qcm1 ?_)
          case qsm1 => exact lit_src wr _
          case qam1 => unfold maxLen; omega
          case qbm1 => omega
          case qcm1 => first | (simp; omega) | omega
          intro v2 w2 hown hgrow hat
          have hbel := (HB.out.alloc hsz _).grown hgrow (by simp; omega) (fun i hi => (HO.out.lt i hi).1)
          have hown2 : w2.ownsRow w.heap.size 3 1 v2 (k + 1) (ic (Dm.lowd (k + 1) (A - B))) := by
            rw [HLW.out, ic_append]; exact hown
          obtain ⟨a2, c2, hv2⟩ : ∃ a2 c2, v2 = .slice a2 (k + 1) c2 := by
            obtain ⟨a2, c2, e⟩ := (IntC.of_own hown2).form
            rw [Dm.lowd_length] at e; exact ⟨a2, c2, e⟩
          rw [hv2] at hown2 ⊢
          have HO2 := Lib.hid hown2
          have HB2 := Lib.hid hbel
          clear hown hgrow hat hbel hown2 hv2
          go_wp2
          go_roundw
          case rel => exact ⟨k + 1, a2, c2, rfl, by rw [HBS.out, if_pos (by omega)]; rfl, by go_num, by omega, HO2, HB2⟩
          case measure => simp [intOf]; omega
        · skip
          have hneg : decide ((x : Int) - (bb : Int) - (y : Int) < 0) = false := by simp; omega
          have hsum : (x : Int) - (bb : Int) - (y : Int) = (dd : Int) := by omega

          go_wp2_with (at_builtin; refine wpList_append_src _ rfl (.tmp 35) (.tmp 37) 64 64 rfl w.heap.size 3 i0 (.int .i64 0) 1 8 Tryz.underlying64 HI0.out HZ0.out HZ1.out HZ2.out rfl (.slice oa k oc) k (ic (Dm.lowd k (A - B))) rfl (HO.out.alloc _) _ 1 (ic [(dd : Int)]) rfl ?qsm2 ?qam2 ?qbm2 ?qcm2 ?_)
          case qsm2 => exact lit_src wr _
          case qam2 => unfold maxLen; omega
          case qbm2 => omega
          case qcm2 => first | (simp; omega) | omega
          intro v2 w2 hown hgrow hat
          have hbel := (HB.out.alloc hsz _).grown hgrow (by simp; omega) (fun i hi => (HO.out.lt i hi).1)
          have hown2 : w2.ownsRow w.heap.size 3 1 v2 (k + 1) (ic (Dm.lowd (k + 1) (A - B))) := by
            rw [HLW.out, ic_append]; exact hown
          obtain ⟨a2, c2, hv2⟩ : ∃ a2 c2, v2 = .slice a2 (k + 1) c2 := by
            obtain ⟨a2, c2, e⟩ := (IntC.of_own hown2).form
            rw [Dm.lowd_length] at e; exact ⟨a2, c2, e⟩
          rw [hv2] at hown2 ⊢
          have HO2 := Lib.hid hown2
          have HB2 := Lib.hid hbel
          clear hown hgrow hat hbel hown2 hv2
          go_wp2
          go_roundw
          case rel => exact ⟨k + 1, a2, c2, rfl, by rw [HBS.out, if_neg (by omega)]; rfl, by go_num, by omega, HO2, HB2⟩
          case measure => simp [intOf]; omega
      · have hy := hy0 (by omega)
        subst hy
        clear hdB hy0
        have q2 : decide (k < nB) = false := by simp; omega
        have q4 : decide ((k : Int) < (nB : Int)) = false := by simp; omega
        by_cases hng : x < bb + 0
        · skip
          have hneg : decide ((x : Int) - (bb : Int) < 0) = true := by simp; omega
          have hsum : (x : Int) - (bb : Int) + 10 = (dd : Int) := by omega

          go_wp2_with (at_builtin; refine wpList_append_src _ rfl (.tmp 35) (.tmp 37) 64 64 rfl w.heap.size 3 i0 (.int .i64 0) 1 8 Tryz.underlying64 HI0.out HZ0.out HZ1.out HZ2.out rfl (.slice oa k oc) k (ic (Dm.lowd k (A - B))) rfl (HO.out.alloc _) _ 1 (ic [(dd : Int)]) rfl ?qsm3 ?qam3 ?qbm3 ?qcm3 ?_)
          case qsm3 => exact lit_src wr _
          case qam3 => unfold maxLen; omega
          case qbm3 => omega
          case qcm3 => first | (simp; omega) | omega
          intro v2 w2 hown hgrow hat
          have hbel := (HB.out.alloc hsz _).grown hgrow (by simp; omega) (fun i hi => (HO.out.lt i hi).1)
          have hown2 : w2.ownsRow w.heap.size 3 1 v2 (k + 1) (ic (Dm.lowd (k + 1) (A - B))) := by
            rw [HLW.out, ic_append]; exact hown
          obtain ⟨a2, c2, hv2⟩ : ∃ a2 c2, v2 = .slice a2 (k + 1) c2 := by
            obtain ⟨a2, c2, e⟩ := (IntC.of_own hown2).form
            rw [Dm.lowd_length] at e; exact ⟨a2, c2, e⟩
          rw [hv2] at hown2 ⊢
          have HO2 := Lib.hid hown2
          have HB2 := Lib.hid hbel
          clear hown hgrow hat hbel hown2 hv2
          go_wp2
          go_roundw
          case rel => exact ⟨k + 1, a2, c2, rfl, by rw [HBS.out, if_pos (by omega)]; rfl, by go_num, by omega, HO2, HB2⟩
          case measure => simp [intOf]; omega
        · skip
          have hneg : decide ((x : Int) - (bb : Int) < 0) = false := by simp; omega
          have hsum : (x : Int) - (bb : Int) = (dd : Int) := by omega

          go_wp2_with (at_builtin; refine wpList_append_src _ rfl (.tmp 35) (.tmp 37) 64 64 rfl w.heap.size 3 i0 (.int .i64 0) 1 8 Tryz.underlying64 HI0.out HZ0.out HZ1.out HZ2.out rfl (.slice oa k oc) k (ic (Dm.lowd k (A - B))) rfl (HO.out.alloc _) _ 1 (ic [(dd : Int)]) rfl ?qsm4 ?qam4 ?qbm4 ?qcm4 ?_)
          case qsm4 => exact lit_src wr _
          case qam4 => unfold maxLen; omega
          case qbm4 => omega
          case qcm4 => first | (simp; omega) | omega
          intro v2 w2 hown hgrow hat
          have hbel := (HB.out.alloc hsz _).grown hgrow (by simp; omega) (fun i hi => (HO.out.lt i hi).1)
          have hown2 : w2.ownsRow w.heap.size 3 1 v2 (k + 1) (ic (Dm.lowd (k + 1) (A - B))) := by
            rw [HLW.out, ic_append]; exact hown
          obtain ⟨a2, c2, hv2⟩ : ∃ a2 c2, v2 = .slice a2 (k + 1) c2 := by
            obtain ⟨a2, c2, e⟩ := (IntC.of_own hown2).form
            rw [Dm.lowd_length] at e; exact ⟨a2, c2, e⟩
          rw [hv2] at hown2 ⊢
          have HO2 := Lib.hid hown2
          have HB2 := Lib.hid hbel
          clear hown hgrow hat hbel hown2 hv2
          go_wp2
          go_roundw
          case rel => exact ⟨k + 1, a2, c2, rfl, by rw [HBS.out, if_neg (by omega)]; rfl, by go_num, by omega, HO2, HB2⟩
          case measure => simp [intOf]; omega
    · obtain rfl : k = nA := by omega
      have q1 : decide (k < k) = false := by simp
      have hint := IntC.of_own HO.out
      have HINT := Lib.hid hint
      clear hint
      go_wp2_with fail
      refine (ref_trim oa oc k (A - B) _ HINT.out HAN.out (by omega)).mono ?_
      rintro e w1 ⟨a2, c2, rfl, hi2, rfl⟩
      have HI2 := Lib.hid hi2
      clear hi2
      go_wp2
      go_ret
      exact ⟨a2, c2, rfl, HI2.out, HB.out⟩
end Go.Proofs.YtfnnhhhkdfgefaaGreatDoor
/- The reference of layer 2: Round on digits: the quotient, rounded to the nearest, ties up. -/
namespace Go.Proofs.YtfnnhhhkdfgefaaGreatDoor
open Go.RowKit

/-- a quotient, rounded -/
def rnd (A B : Nat) : Nat := if B ≤ 2 * (A % B) then A / B + 1 else A / B
theorem round_step (P x B : Nat) (hB : 0 < B) (hx : x ≤ 9) :
    (P * 10 + x) % B = ((P % B) * 10 + x) % B ∧ (P * 10 + x) / B = (P / B) * 10 + ((P % B) * 10 + x) / B ∧ ((P % B) * 10 + x) / B ≤ 9 := by
  have h := Nat.div_add_mod P B
  have hm := Nat.mod_lt P hB
  have e : P * 10 + x = B * ((P / B) * 10) + ((P % B) * 10 + x) := by
    rw [← Nat.mul_assoc, ← Nat.add_assoc, ← Nat.add_mul, h]
  refine ⟨by rw [e, Nat.mul_add_mod], by rw [e, Nat.mul_add_div hB], ?_⟩
  have : ((P % B) * 10 + x) / B < 10 := by rw [Nat.div_lt_iff_lt_mul hB]; omega
  omega
theorem lowd_push (t Q d : Nat) (hd : d ≤ 9) : Dm.lowd (t + 1) (Q * 10 + d) = (d : Int) :: Dm.lowd t Q := by
  rw [Dm.lowd_cons]
  have e1 : (Q * 10 + d) % 10 = d := by omega
  have e2 : (Q * 10 + d) / 10 = Q := by omega
  rw [e1, e2]
theorem push_dg (r x : Nat) (hx : x ≤ 9) : Dm.lowd (Dm.nd r + 1) (r * 10 + x) = (x : Int) :: Dm.dg r ∧ r * 10 + x < 10 ^ (Dm.nd r + 1) := by
  refine ⟨by rw [lowd_push _ _ _ hx, ← Dm.dg_lowd], ?_⟩
  have := (Dm.nd_spec r).1
  rw [Nat.pow_succ]; omega
theorem dg_one : Dm.dg 1 = [1] := by rw [Dm.dg_pos 1 (by omega), Dm.dg_zero]; rfl
theorem cmp_ge (a b : Nat) : (0 ≤ Dm.cmp a b) ↔ b ≤ a := by
  unfold Dm.cmp
  by_cases h : a < b
  · rw [if_pos h]; omega
  · rw [if_neg h]
    by_cases h2 : b < a
    · rw [if_pos h2]; omega
    · rw [if_neg h2]; omega
theorem plus_n (a0 a1 : Option Addr) (n0 n1 c0 c1 A B : Nat) (w : World) (e0 : n0 = Dm.nd A) (e1 : n1 = Dm.nd B) (h0 : IntC (.slice a0 n0 c0) (Dm.dg A) w) (h1 : IntC (.slice a1 n1 c1) (Dm.dg B) w) (hA : n0 ≤ 1000) (hB : n1 ≤ 1000) :
    Calls Tryz.prog 55 #[.slice a0 n0 c0, .slice a1 n1 c1] w (Made (Dm.dg (A + B)) w) := by
  subst e0 e1; exact ref_plus a0 a1 c0 c1 A B w h0 h1 hA hB
theorem cmp_n (a0 a1 : Option Addr) (n0 n1 c0 c1 A B : Nat) (w : World) (e0 : n0 = Dm.nd A) (e1 : n1 = Dm.nd B) (h0 : IntC (.slice a0 n0 c0) (Dm.dg A) w) (h1 : IntC (.slice a1 n1 c1) (Dm.dg B) w) (hA : n0 ≤ 1000) (hB : n1 ≤ 1000) :
    Calls Tryz.prog 56 #[.slice a0 n0 c0, .slice a1 n1 c1] w fun e w' => e = .returned (.int .i64 (Dm.cmp A B)) ∧ Below w.heap.size w w' := by
  subst e0 e1; exact ref_cmp a0 a1 c0 c1 A B w h0 h1 hA hB
theorem minus_n (a0 a1 : Option Addr) (n0 n1 c0 c1 A B : Nat) (w : World) (e0 : n0 = Dm.nd A) (e1 : n1 = Dm.nd B) (h0 : IntC (.slice a0 n0 c0) (Dm.dg A) w) (h1 : IntC (.slice a1 n1 c1) (Dm.dg B) w) (hA : n0 ≤ 900) (hB : n1 ≤ 900) (hBA : B ≤ A) :
    Calls Tryz.prog 73 #[.slice a0 n0 c0, .slice a1 n1 c1] w (Made (Dm.dg (A - B)) w) := by
  subst e0 e1; exact ref_minus a0 a1 c0 c1 A B w h0 h1 hA hB hBA
theorem nd_one : Dm.nd 1 = 1 := by unfold Dm.nd; rw [dg_one]; rfl
theorem lit_one (w : World) : IntC (.slice (some ⟨w.heap.size, 0, none⟩) 1 1) (Dm.dg 1) (w.alloc (.cells #[.int .i64 1] 3)) := by
  rw [dg_one]; exact IntC.of_own (own_lit3 w 1 0 (Nat.zero_le _))
set_option maxHeartbeats 1000000 in
set_option maxRecDepth 100000 in
theorem ref_round (a0 a1 : Option Addr) (c0 c1 A B : Nat) (w : World) (h0 : IntC (.slice a0 (Dm.nd A) c0) (Dm.dg A) w) (h1 : IntC (.slice a1 (Dm.nd B) c1) (Dm.dg B) w) (hA : Dm.nd A ≤ 200) (hB : Dm.nd B ≤ 200) (hB0 : 0 < B) :
    Calls Tryz.prog 54 #[.slice a0 (Dm.nd A) c0, .slice a1 (Dm.nd B) c1] w (Made (Dm.dg (rnd A B)) w) := by
  obtain ⟨i0, hi0, hz0, hz1, hz2⟩ := info_parts info3
  have HI0 := Lib.hid hi0; have HZ0 := Lib.hid hz0; have HZ1 := Lib.hid hz1; have HZ2 := Lib.hid hz2
  clear hi0 hz0 hz1 hz2
  have hd0 : ∀ j, j < Dm.nd A → (Dm.dg A).getD j 0 = ((A / 10 ^ j % 10 : Nat) : Int) := fun j hj => Dm.dg_get A j hj
  have hAn := (Dm.nd_spec A).1
  have hrB : ∀ P, Dm.nd (P % B) ≤ 200 := fun P => by
    refine Nat.le_trans (Dm.nd_le _ (Dm.nd B) ?_) hB
    have := Nat.mod_lt P hB0
    have := (Dm.nd_spec B).1
    omega
  have h2B : ∀ X, X ≤ 100 * B → Dm.nd X ≤ 203 := fun X hX => by
    refine Nat.le_trans (Dm.nd_le _ (Dm.nd B + 3) ?_) (by omega)
    have := (Dm.nd_spec B).1
    rw [Nat.pow_add]
    have : (10 : Nat) ^ 3 = 1000 := by decide
    omega
  have H0 := Lib.hid h0; have H1 := Lib.hid h1; have HD0 := Lib.hid hd0; have HAN := Lib.hid hAn; have HRB := Lib.hid hrB; have H2B := Lib.hid h2B; have HB0 := Lib.hid hB0
  have hA2 : Dm.nd (A / B) ≤ 200 := Nat.le_trans (Dm.nd_le _ (Dm.nd A) (Nat.lt_of_le_of_lt (Nat.div_le_self _ _) hAn)) hA
  have HA2 := Lib.hid hA2
  clear h0 h1 hd0 hAn hrB h2B hA2
  generalize Dm.nd A = nA at *
  go_enter Tryz.func54, Tryz.ntmps54
  go_wp2
  go_loopw [5, 6, 7] (fun qv rv iv wr => ∃ (j : Nat) (qa ra : Option Addr) (qn qc rn rc : Nat), j ≤ nA ∧ qv = .slice qa qn qc ∧ rv = .slice ra rn rc ∧ iv = .int .i64 ((j : Int) - 1) ∧ qn + j = nA ∧ Hid (rn = Dm.nd (A / 10 ^ j % B)) ∧ Hid (A / 10 ^ j / B < 10 ^ qn) ∧ Hid (IntC (.slice qa qn qc) (Dm.lowd qn (A / 10 ^ j / B)) wr) ∧ Hid (IntC (.slice ra rn rc) (Dm.dg (A / 10 ^ j % B)) wr) ∧ Hid (Below w.heap.size w wr)) (fun _ _ iv _ => (intOf iv + 1).toNat)
  case atStart =>
    have e : A / 10 ^ nA = 0 := Nat.div_eq_of_lt HAN.out
    refine ⟨nA, none, none, 0, 0, 0, 0, Nat.le_refl _, rfl, rfl, rfl, by omega, ?_, ?_, ?_, ?_, Below.refl _ _⟩
    · show _ = _; rw [e]; simp [Dm.nd_zero]
    · show _ < _; rw [e]; simp
    · exact .inl ⟨_, _, rfl, rfl⟩
    · show IntC _ _ _; rw [e]; simp only [Nat.zero_mod, Dm.dg_zero]; exact .inl ⟨_, _, rfl, rfl⟩
  case round =>
    obtain ⟨j, qa, ra, qn, qc, rn, rc, hj, rfl, rfl, rfl, hqn, HRN, HQL, HQ, HR, HB⟩ := hrel
    cases j with
    | zero =>
      obtain rfl : qn = nA := by omega
      simp only [Nat.pow_zero, Nat.div_one] at HRN HQL HQ HR
      go_wp2_with fail
      refine (ref_trim qa qc qn (A / B) _ HQ.out HQL.out (by omega)).mono ?_
      rintro e w1 ⟨ta, tc, rfl, hti, rfl⟩
      have HTI := Lib.hid hti
      clear hti
      have HR' : Hid (IntC (.slice ra (Dm.nd (A % B)) rc) (Dm.dg (A % B)) wr) := by show IntC _ _ _; have := HR.out; rw [HRN.out] at this; exact this
      rw [HRN.out]
      clear HR HQ
      have hrb := HRB.out A
      go_wp2_with fail
      refine (ref_plus ra ra rc rc (A % B) (A % B) _ HR'.out HR'.out (by omega) (by omega)).mono ?_
      rintro e w2 ⟨sa, sc, rfl, hsi, hsb⟩
      have HSI := Lib.hid hsi
      have HSB := Lib.hid hsb
      have hszb := HB.out.size
      have HB2 := Lib.hid (HB.out.trans (hsb.mono hszb))
      have HTI2 := Lib.hid (HTI.out.keep hsb)
      have H12 := Lib.hid (H1.out.keep HB2.out)
      clear hsi hsb
      rw [Dm.dg_length] at HSI ⊢
      have hml := Nat.mod_lt A HB0.out
      go_wp2_with fail
      refine (ref_cmp sa a1 sc c1 (A % B + A % B) B _ HSI.out H12.out (by have := H2B.out (A % B + A % B) (by omega); omega) (by omega)).mono ?_
      rintro e w3 ⟨rfl, hcb⟩
      have hge := cmp_ge (A % B + A % B) B
      have HB3 := Lib.hid (HB2.out.trans (hcb.mono HB2.out.size))
      have HTI3 := Lib.hid (HTI2.out.keep hcb)
      clear hcb HTI2
      by_cases hbig : B ≤ A % B + A % B
      · have hr : rnd A B = A / B + 1 := by unfold rnd; rw [if_pos (by omega)]
        have q : decide (0 ≤ Dm.cmp (A % B + A % B) B) = true := by rw [decide_eq_true_iff, hge]; exact hbig
        have HRD := Lib.hid hr
        clear hr hge
        generalize Dm.cmp (A % B + A % B) B = cm at *
        have hba : Below w3.heap.size w3 (w3.alloc (.cells #[.int .i64 1] 3)) := (Below.refl _ w3).alloc (Nat.le_refl _) _
        have HTI4 := Lib.hid (HTI3.out.keep hba)
        have HB4 := Lib.hid (HB3.out.trans (hba.mono HB3.out.size))
        clear hba
        go_wp2_with fail
        refine (plus_n ta (some ⟨w3.heap.size, 0, none⟩) _ 1 tc 1 (A / B) 1 _ rfl nd_one.symm HTI4.out (lit_one w3) (by have := HA2.out; omega) (by omega)).mono ?_
        rintro e w4 ⟨va, vc, rfl, hvi, hvb⟩
        rw [← HRD.out] at hvi ⊢
        have HVI := Lib.hid hvi
        have HVB := Lib.hid (HB4.out.trans (hvb.mono HB4.out.size))
        clear hvi hvb
        go_wp2
        go_ret
        exact ⟨va, vc, rfl, HVI.out, HVB.out⟩
      · have hr : rnd A B = A / B := by unfold rnd; rw [if_neg (by omega)]
        have q : decide (0 ≤ Dm.cmp (A % B + A % B) B) = false := by rw [decide_eq_false_iff_not, hge]; exact hbig
        have HRD := Lib.hid hr
        clear hr hge
        generalize Dm.cmp (A % B + A % B) B = cm at *
        go_wp2
        go_ret
        exact ⟨ta, tc, by rw [HRD.out]; rfl, by rw [HRD.out]; exact HTI3.out, HB3.out⟩
    | succ i =>
      have hj1 : (((i + 1 : Nat) : Int) - 1) = (i : Int) := by omega
      rw [hj1]
      clear hj1
      obtain ⟨g0, o0, rfl, hg0, hcell0⟩ := (H0.out.keep HB.out).at i (by omega)
      rw [HD0.out i (by omega)] at hcell0
      have hx9 : A / 10 ^ i % 10 ≤ 9 := Nat.le_of_lt_succ (Nat.mod_lt _ (by omega))
      have hds := Dm.div_step A i
      have hrs := round_step (A / 10 ^ (i + 1)) (A / 10 ^ i % 10) B HB0.out hx9
      rw [← hds] at hrs
      generalize A / 10 ^ i % 10 = x at *
      generalize hPP : A / 10 ^ i = P' at *
      have HPP := Lib.hid hPP
      clear hPP
      have hrl := HRB.out (A / 10 ^ (i + 1))
      have hQ9 := HQL.out
      have hml := Nat.mod_lt (A / 10 ^ (i + 1)) HB0.out
      generalize hQq : A / 10 ^ (i + 1) / B = Q at *
      generalize hRr : A / 10 ^ (i + 1) % B = r at *
      obtain ⟨hr1, hr2, hr3⟩ := hrs
      obtain ⟨hp1, hp2⟩ := push_dg r x hx9
      have hrn := HRN.out
      rw [← hrn] at hp1 hp2 hrl
      have HP1 := Lib.hid hp1; have HP2 := Lib.hid hp2; have HR1 := Lib.hid hr1; have HR2 := Lib.hid hr2; have HQ9 := Lib.hid hQ9
      have hsz := HB.out.size
      clear hp1 hp2 hr1 hr2 hds hQq hRr hQ9 hrn
      have hsrc := (HR.out.keep (w' := wr.alloc (.cells #[.int .i64 (x : Int)] 3)) ((Below.refl _ wr).alloc (Nat.le_refl _) _)).src
      rw [Dm.dg_length, ← HRN.out] at hsrc
      have HSRC := Lib.hid hsrc
      clear hsrc
      go_wp2_with (at_builtin; refine wpList_append_src _ rfl (.tmp 20) (.tmp 21) 64 64 rfl w.heap.size 3 i0 (.int .i64 0) 1 8 Tryz.underlying64 HI0.out HZ0.out HZ1.out HZ2.out rfl _ 1 (ic [(x : Int)]) rfl (own_lit3 wr _ _ hsz) (.slice ra rn rc) rn (ic (Dm.dg r)) rfl HSRC.out ?ra ?rb ?rc ?_)
      case ra => unfold maxLen; omega
      case rb => omega
      case rc => simp; omega
      intro v2 w2 hown hgrow hat
      have hbel := (HB.out.alloc hsz _).grown hgrow (by simp; omega) (by intro k hk; simp [Value.ownBlock] at hk; omega)
      have hbel2 : Below wr.heap.size wr w2 := ((Below.refl _ wr).alloc (Nat.le_refl _) _).grown hgrow (by simp) (by intro k hk; simp [Value.ownBlock] at hk; omega)
      have hown2 : w2.ownsRow w.heap.size 3 1 v2 (rn + 1) (ic (Dm.lowd (rn + 1) (r * 10 + x))) := by
        rw [HP1.out, Nat.add_comm rn 1]; exact hown
      obtain ⟨a2, c2, hv2⟩ : ∃ a2 c2, v2 = .slice a2 (rn + 1) c2 := by
        obtain ⟨a2, c2, e⟩ := (IntC.of_own hown2).form
        rw [Dm.lowd_length] at e; exact ⟨a2, c2, e⟩
      rw [hv2] at hown2 ⊢
      have HI2 := Lib.hid (IntC.of_own hown2)
      have HB2 := Lib.hid hbel
      have HQ2 := Lib.hid (HQ.out.keep hbel2)
      clear hown hgrow hat hbel hown2 hv2 hbel2 HQ
      go_wp2_with fail
      refine (ref_trim a2 c2 (rn + 1) (r * 10 + x) _ HI2.out HP2.out (by omega)).mono ?_
      rintro e w3 ⟨ta, tc, rfl, hti, rfl⟩
      have HTI := Lib.hid hti
      clear hti HI2 HSRC HR HRN
      have hR0 : r * 10 + x ≤ 10 * B := by omega
      generalize hRR : r * 10 + x = R0 at *
      clear hRR
      have hnR : ∀ X, X ≤ R0 → Dm.nd X ≤ 203 := fun X hX => H2B.out X (by omega)
      have HNR := Lib.hid hnR
      have hd9 : ∀ d, d * B ≤ R0 → d ≤ 9 := fun d hd => by
        have : d ≤ R0 / B := (Nat.le_div_iff_mul_le HB0.out).2 hd
        omega
      have HD9 := Lib.hid hd9
      clear hnR hd9
      go_wp2
      go_loopw [6, 8] (fun rv dv wx => ∃ (d : Nat) (pa : Option Addr) (n pc : Nat), rv = .slice pa n pc ∧ dv = .int .i64 (d : Int) ∧ d ≤ 9 ∧ Hid (n = Dm.nd (R0 - d * B)) ∧ Hid (d * B ≤ R0) ∧ Hid (IntC (.slice pa n pc) (Dm.dg (R0 - d * B)) wx) ∧ Hid (IntC (.slice qa qn qc) (Dm.lowd qn Q) wx) ∧ Hid (Below w.heap.size w wx)) (fun _ dv _ => 10 - (intOf dv).toNat)
      case atStart => exact ⟨0, ta, _, tc, rfl, rfl, by omega, by show _ = _; simp, by show _ ≤ _; simp, by show IntC _ _ _; simpa using HTI.out, HQ2, HB2⟩
      case round =>
        obtain ⟨d, pa, pn, pc, rfl, rfl, hd, HPN, HDB, HPI, HPQ, HPB⟩ := hrel
        clear HTI HQ2 HB2
        have hpn : pn ≤ 203 := by rw [HPN.out]; exact HNR.out _ (by omega)
        have H13 := Lib.hid (H1.out.keep HPB.out)
        go_wp2_with fail
        refine (cmp_n pa a1 pn _ pc c1 (R0 - d * B) B _ HPN.out rfl HPI.out H13.out (by omega) (by omega)).mono ?_
        rintro e w4 ⟨rfl, hcb⟩
        have hge := cmp_ge (R0 - d * B) B
        have HPB2 := Lib.hid (HPB.out.trans (hcb.mono HPB.out.size))
        have HPI2 := Lib.hid (HPI.out.keep hcb)
        have HPQ2 := Lib.hid (HPQ.out.keep hcb)
        have H14 := Lib.hid (H13.out.keep hcb)
        clear hcb HPB HPI HPQ H13
        by_cases hbig : B ≤ R0 - d * B
        · have q : decide (0 ≤ Dm.cmp (R0 - d * B) B) = true := by rw [decide_eq_true_iff, hge]; exact hbig
          have hdn : (d + 1) * B ≤ R0 := by rw [Nat.add_mul, Nat.one_mul]; have := HDB.out; omega
          have hsub : R0 - d * B - B = R0 - (d + 1) * B := by rw [Nat.add_mul, Nat.one_mul]; omega
          have hd10 := HD9.out _ hdn
          have HDN := Lib.hid hdn
          have HSUB := Lib.hid hsub
          have HBIG := Lib.hid hbig
          clear hge hdn hsub hbig
          generalize Dm.cmp (R0 - d * B) B = cm at *
          go_wp2_with fail
          refine (minus_n pa a1 pn _ pc c1 (R0 - d * B) B _ HPN.out rfl HPI2.out H14.out (by omega) (by omega) HBIG.out).mono ?_
          rintro e w5 ⟨ma, mc, rfl, hmi, hmb⟩
          rw [HSUB.out] at hmi ⊢
          have HMI := Lib.hid hmi
          have HMB := Lib.hid (HPB2.out.trans (hmb.mono HPB2.out.size))
          have HMQ := Lib.hid (HPQ2.out.keep hmb)
          clear hmi hmb
          go_wp2
          go_roundw
          case rel => exact ⟨d + 1, ma, _, mc, rfl, by go_num, by omega, rfl, HDN, HMI, HMQ, HMB⟩
          case measure => simp [intOf]; omega
        · have q : decide (0 ≤ Dm.cmp (R0 - d * B) B) = false := by rw [decide_eq_false_iff_not, hge]; exact hbig
          have hdiv : R0 / B = d := by
            have h1 : d ≤ R0 / B := (Nat.le_div_iff_mul_le HB0.out).2 HDB.out
            have h2 : R0 / B < d + 1 := by rw [Nat.div_lt_iff_lt_mul HB0.out, Nat.add_mul, Nat.one_mul]; omega
            omega
          have hmod : R0 % B = R0 - d * B := by
            have := Nat.div_add_mod R0 B
            rw [hdiv, Nat.mul_comm] at this; omega
          have hPm : P' % B = R0 - d * B := by rw [HR1.out, hmod]
          have hPd : P' / B = Q * 10 + d := by rw [HR2.out, hdiv]
          have hlw := lowd_push qn Q d hd
          have HPM := Lib.hid hPm; have HPD := Lib.hid hPd; have HLW := Lib.hid hlw
          clear hge hbig hdiv hmod hPm hPd hlw
          generalize Dm.cmp (R0 - d * B) B = cm at *
          have hsz4 := HPB2.out.size
          have hsrc := (HPQ2.out.keep (w' := w4.alloc (.cells #[.int .i64 (d : Int)] 3)) ((Below.refl _ w4).alloc (Nat.le_refl _) _)).src
          rw [Dm.lowd_length] at hsrc
          have HSRC := Lib.hid hsrc
          clear hsrc
          go_wp2_with (at_builtin; refine wpList_append_src _ rfl (.tmp 34) (.tmp 35) 64 64 rfl w.heap.size 3 i0 (.int .i64 0) 1 8 Tryz.underlying64 HI0.out HZ0.out HZ1.out HZ2.out rfl _ 1 (ic [(d : Int)]) rfl (own_lit3 w4 _ _ hsz4) (.slice qa qn qc) qn (ic (Dm.lowd qn Q)) rfl HSRC.out ?sa ?sb ?sc ?_)
          case sa => unfold maxLen; omega
          case sb => omega
          case sc => simp; omega
          intro v5 w5 hown hgrow hat
          have hbel := (HPB2.out.alloc hsz4 _).grown hgrow (by simp; omega) (by intro k hk; simp [Value.ownBlock] at hk; omega)
          have hbel2 : Below w4.heap.size w4 w5 := ((Below.refl _ w4).alloc (Nat.le_refl _) _).grown hgrow (by simp) (by intro k hk; simp [Value.ownBlock] at hk; omega)
          have hown2 : w5.ownsRow w.heap.size 3 1 v5 (qn + 1) (ic (Dm.lowd (qn + 1) (Q * 10 + d))) := by
            rw [HLW.out, Nat.add_comm qn 1]; exact hown
          obtain ⟨a5, c5, hv5⟩ : ∃ a5 c5, v5 = .slice a5 (qn + 1) c5 := by
            obtain ⟨a5, c5, e⟩ := (IntC.of_own hown2).form
            rw [Dm.lowd_length] at e; exact ⟨a5, c5, e⟩
          rw [hv5] at hown2 ⊢
          have HI5 := Lib.hid (IntC.of_own hown2)
          have HB5 := Lib.hid hbel
          have HR5 := Lib.hid (HPI2.out.keep hbel2)
          clear hown hgrow hat hbel hown2 hv5 hbel2
          go_wp2
          go_roundw
          case rel => exact ⟨i, a5, pa, qn + 1, c5, pn, pc, by omega, rfl, rfl, by go_num, by omega, by show _ = _; rw [HPP.out, HPM.out]; exact HPN.out, by show _ < _; rw [HPP.out, HPD.out, Nat.pow_succ]; have := HQ9.out; omega, by show IntC _ _ _; rw [HPP.out, HPD.out]; exact HI5.out, by show IntC _ _ _; rw [HPP.out, HPM.out]; exact HR5.out, HB5⟩
          case measure => simp [intOf]
end Go.Proofs.YtfnnhhhkdfgefaaGreatDoor
