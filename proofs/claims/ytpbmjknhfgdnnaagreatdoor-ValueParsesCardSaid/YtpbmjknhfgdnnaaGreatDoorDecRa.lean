/- The reference of layer 2: Of, trim, Cmp, Shift, Plus, Minus on digits. -/
import Derived.Test.YtpbmjknhfgdnnaaGreatDoorDecKit
import Derived.Deep.QuietTactic
import Derived.BigQuiet
namespace Go.Proofs.YtpbmjknhfgdnnaaGreatDoor
open Go.RowKit

set_option maxHeartbeats 1000000 in
set_option maxRecDepth 100000 in
theorem ref_of_pos (m : Nat) (w : World) (hm : m ≤ 9223372036854775807) : Calls Tryz.prog 63 #[.int .i64 ((m : Int))] w (Made (Dm.dg m) w) := by
  obtain ⟨i0, hi0, hz0, hz1, hz2⟩ := info_parts info3
  have HI0 := Lib.hid hi0; have HZ0 := Lib.hid hz0; have HZ1 := Lib.hid hz1; have HZ2 := Lib.hid hz2
  clear hi0 hz0 hz1 hz2
  go_enter Tryz.func63, Tryz.ntmps63
  go_wp2
  go_loopw [0, 3] (fun q d wr => ∃ (k : Nat) (a : Option Addr) (c : Nat), q = .int .i64 (((m / 10 ^ k : Nat) : Int)) ∧ d = .slice a k c ∧ Hid (k = 0 ∨ 10 ^ (k - 1) ≤ m) ∧ Hid (wr.ownsRow w.heap.size 3 1 (.slice a k c) k (ic (Dm.lowd k m))) ∧ Hid (Below w.heap.size w wr)) (fun q _ _ => (intOf q).natAbs)
  case atStart => exact ⟨0, none, 0, by simp, rfl, .inl rfl, World.ownsRow_nil _ _ _ _, Below.refl _ _⟩
  case round =>
      obtain ⟨k, a, c, rfl, rfl, HK, HO, HB⟩ := hrel
      have hk8 : k ≤ 100 := by
        rcases Nat.lt_or_ge 100 k with h | h
        · rcases HK.out with e | e
          · omega
          · have : 10 ^ 100 ≤ 10 ^ (k - 1) := Nat.pow_le_pow_right (by omega) (by omega)
            have h2 : (9223372036854775808 : Nat) < 10 ^ 100 := by decide +kernel
            omega
        · exact h
      have hsz := HB.out.size
      obtain ⟨qq, hqq⟩ : ∃ qq : Nat, m / 10 ^ k = qq := ⟨_, rfl⟩
      have hqm : qq ≤ 9223372036854775808 := by have := Nat.div_le_self m (10 ^ k); omega
      have hqm2 : qq ≤ 9223372036854775807 := by have := Nat.div_le_self m (10 ^ k); omega
      rcases Nat.eq_zero_or_pos qq with hz | hp
      · subst hz
        rw [hqq]
        have hfin : Hid (Dm.lowd k m = Dm.dg m) := by
          have hp : 0 < 10 ^ k := Nat.pow_pos (by omega)
          refine Dm.lowd_eq k m ?_ HK.out
          rw [Nat.div_eq_zero_iff] at hqq
          omega
        have hnl : Hid (Dm.nd m = k) := by show (Dm.dg m).length = k; rw [← hfin.out, Dm.lowd_length]
        have HB3 := HB
        clear hqq
        go_wp2
        go_ret
        refine ⟨a, c, by rw [Dm.dg_length, hnl.out]; rfl, ?_, HB3.out⟩
        have h2 := IntC.of_own HO.out
        rw [hfin.out] at h2
        rw [Dm.dg_length, hnl.out]
        exact h2
      · rw [hqq]
        have hlow : Dm.lowd (k + 1) m = Dm.lowd k m ++ [((qq % 10 : Nat) : Int)] := by rw [Dm.lowd_snoc, hqq]
        have hnx : m / 10 ^ (k + 1) = qq / 10 := by rw [Nat.pow_succ, ← Nat.div_div_eq_div_mul, hqq]
        have hge : 10 ^ k ≤ m := (Nat.div_pos_iff.1 (by rw [hqq]; exact hp : 0 < m / 10 ^ k)).2
        have HLW := Lib.hid hlow
        have HNX := Lib.hid hnx
        have HGE := Lib.hid hge
        clear hqq hlow hnx hge
        have hne : ((qq : Int) != 0) = true := by simp; omega
        obtain ⟨r, hr⟩ : ∃ r : Nat, qq % 10 = r := ⟨_, rfl⟩
        have hr9 : r ≤ 9 := by omega
        have hri : ((qq : Int) % 10) = (r : Int) := by omega
        rw [hr] at HLW
        clear hr
        have hlt0 : decide ((r : Int) < 0) = false := by simp
        go_wp2_with (at_builtin; refine wpList_append_src _ rfl (.tmp 13) (.tmp 15) 75 75 rfl w.heap.size 3 i0 (.int .i64 0) 1 8 Tryz.underlying75 HI0.out HZ0.out HZ1.out HZ2.out rfl (.slice a k c) k (ic (Dm.lowd k m)) rfl (HO.out.alloc _) _ 1 (ic [(r : Int)]) rfl ?qsp1 ?qap1 ?qbp1 ?qcp1 ?_)
        case qsp1 => exact lit_src wr _
        case qap1 => unfold maxLen; omega
        case qbp1 => omega
        case qcp1 => simp; omega
        intro v2 w2 hown hgrow hat
        have hbel := (HB.out.alloc hsz _).grown hgrow (by simp; omega) (fun i hi => (HO.out.lt i hi).1)
        have hown2 : w2.ownsRow w.heap.size 3 1 v2 (k + 1) (ic (Dm.lowd (k + 1) m)) := by
          rw [HLW.out, ic_append]; exact hown
        obtain ⟨a2, c2, hv2⟩ : ∃ a2 c2, v2 = .slice a2 (k + 1) c2 := by
          obtain ⟨a2, c2, e⟩ := (IntC.of_own hown2).form
          rw [Dm.lowd_length] at e; exact ⟨a2, c2, e⟩
        rw [hv2] at hown2 ⊢
        have HO2 := Lib.hid hown2
        have HB2 := Lib.hid hbel
        clear hown hgrow hat hbel hown2 hv2
        go_wp2
        go_roundw
        case rel => exact ⟨k + 1, a2, c2, by rw [HNX.out]; go_num, rfl, .inr HGE.out, HO2, HB2⟩
        case measure => simp [intOf]; omega
set_option maxHeartbeats 1000000 in
set_option maxRecDepth 100000 in
theorem ref_of_neg (m : Nat) (w : World) (hm : m ≤ 9223372036854775808) : Calls Tryz.prog 63 #[.int .i64 (-(m : Int))] w (Made (Dm.dg m) w) := by
  obtain ⟨i0, hi0, hz0, hz1, hz2⟩ := info_parts info3
  have HI0 := Lib.hid hi0; have HZ0 := Lib.hid hz0; have HZ1 := Lib.hid hz1; have HZ2 := Lib.hid hz2
  clear hi0 hz0 hz1 hz2
  go_enter Tryz.func63, Tryz.ntmps63
  go_wp2
  go_loopw [0, 3] (fun q d wr => ∃ (k : Nat) (a : Option Addr) (c : Nat), q = .int .i64 (-((m / 10 ^ k : Nat) : Int)) ∧ d = .slice a k c ∧ Hid (k = 0 ∨ 10 ^ (k - 1) ≤ m) ∧ Hid (wr.ownsRow w.heap.size 3 1 (.slice a k c) k (ic (Dm.lowd k m))) ∧ Hid (Below w.heap.size w wr)) (fun q _ _ => (intOf q).natAbs)
  case atStart => exact ⟨0, none, 0, by simp, rfl, .inl rfl, World.ownsRow_nil _ _ _ _, Below.refl _ _⟩
  case round =>
      obtain ⟨k, a, c, rfl, rfl, HK, HO, HB⟩ := hrel
      have hk8 : k ≤ 100 := by
        rcases Nat.lt_or_ge 100 k with h | h
        · rcases HK.out with e | e
          · omega
          · have : 10 ^ 100 ≤ 10 ^ (k - 1) := Nat.pow_le_pow_right (by omega) (by omega)
            have h2 : (9223372036854775808 : Nat) < 10 ^ 100 := by decide +kernel
            omega
        · exact h
      have hsz := HB.out.size
      obtain ⟨qq, hqq⟩ : ∃ qq : Nat, m / 10 ^ k = qq := ⟨_, rfl⟩
      have hqm : qq ≤ 9223372036854775808 := by have := Nat.div_le_self m (10 ^ k); omega
      rcases Nat.eq_zero_or_pos qq with hz | hp
      · subst hz
        rw [hqq]
        have hfin : Hid (Dm.lowd k m = Dm.dg m) := by
          have hp : 0 < 10 ^ k := Nat.pow_pos (by omega)
          refine Dm.lowd_eq k m ?_ HK.out
          rw [Nat.div_eq_zero_iff] at hqq
          omega
        have hnl : Hid (Dm.nd m = k) := by show (Dm.dg m).length = k; rw [← hfin.out, Dm.lowd_length]
        have HB3 := HB
        clear hqq
        go_wp2
        go_ret
        refine ⟨a, c, by rw [Dm.dg_length, hnl.out]; rfl, ?_, HB3.out⟩
        have h2 := IntC.of_own HO.out
        rw [hfin.out] at h2
        rw [Dm.dg_length, hnl.out]
        exact h2
      · rw [hqq]
        have hlow : Dm.lowd (k + 1) m = Dm.lowd k m ++ [((qq % 10 : Nat) : Int)] := by rw [Dm.lowd_snoc, hqq]
        have hnx : m / 10 ^ (k + 1) = qq / 10 := by rw [Nat.pow_succ, ← Nat.div_div_eq_div_mul, hqq]
        have hge : 10 ^ k ≤ m := (Nat.div_pos_iff.1 (by rw [hqq]; exact hp : 0 < m / 10 ^ k)).2
        have HLW := Lib.hid hlow
        have HNX := Lib.hid hnx
        have HGE := Lib.hid hge
        clear hqq hlow hnx hge
        have ht : (-(qq : Int)).tmod 10 = -((qq % 10 : Nat) : Int) := by rw [Int.neg_tmod, Int.tmod_eq_emod_of_nonneg (by omega)]; omega
        have hd : (-(qq : Int)).tdiv 10 = -((qq / 10 : Nat) : Int) := by rw [Int.neg_tdiv, Int.tdiv_eq_ediv_of_nonneg (by omega)]; omega
        have hne : (-(qq : Int) != 0) = true := by simp; omega
        obtain ⟨r, hr⟩ : ∃ r : Nat, qq % 10 = r := ⟨_, rfl⟩
        have hr9 : r ≤ 9 := by omega
        rw [hr] at ht HLW
        have HR := Lib.hid hr
        clear hr
        rcases Nat.eq_zero_or_pos r with hr0 | hrp
        · subst hr0
          go_wp2_with (at_builtin; refine wpList_append_src _ rfl (.tmp 13) (.tmp 15) 75 75 rfl w.heap.size 3 i0 (.int .i64 0) 1 8 Tryz.underlying75 HI0.out HZ0.out HZ1.out HZ2.out rfl (.slice a k c) k (ic (Dm.lowd k m)) rfl (HO.out.alloc _) _ 1 (ic [((0 : Nat) : Int)]) rfl ?qsn1 ?qan1 ?qbn1 ?qcn1 ?_)
          case qsn1 => exact lit_src wr _
          case qan1 => unfold maxLen; omega
          case qbn1 => omega
          case qcn1 => simp; omega
          intro v2 w2 hown hgrow hat
          have hbel := (HB.out.alloc hsz _).grown hgrow (by simp; omega) (fun i hi => (HO.out.lt i hi).1)
          have hown2 : w2.ownsRow w.heap.size 3 1 v2 (k + 1) (ic (Dm.lowd (k + 1) m)) := by
            rw [HLW.out, ic_append]; exact hown
          obtain ⟨a2, c2, hv2⟩ : ∃ a2 c2, v2 = .slice a2 (k + 1) c2 := by
            obtain ⟨a2, c2, e⟩ := (IntC.of_own hown2).form
            rw [Dm.lowd_length] at e; exact ⟨a2, c2, e⟩
          rw [hv2] at hown2 ⊢
          have HO2 := Lib.hid hown2
          have HB2 := Lib.hid hbel
          clear hown hgrow hat hbel hown2 hv2
          go_wp2
          go_roundw
          case rel => exact ⟨k + 1, a2, c2, by rw [HNX.out]; simp, rfl, .inr HGE.out, HO2, HB2⟩
          case measure => simp [intOf]; omega
        · have hlt0 : decide (-(r : Int) < 0) = true := by simp; omega
          go_wp2_with (at_builtin; refine wpList_append_src _ rfl (.tmp 13) (.tmp 15) 75 75 rfl w.heap.size 3 i0 (.int .i64 0) 1 8 Tryz.underlying75 HI0.out HZ0.out HZ1.out HZ2.out rfl (.slice a k c) k (ic (Dm.lowd k m)) rfl (HO.out.alloc _) _ 1 (ic [(r : Int)]) rfl ?qsn2 ?qan2 ?qbn2 ?qcn2 ?_)
          case qsn2 => exact lit_src wr _
          case qan2 => unfold maxLen; omega
          case qbn2 => omega
          case qcn2 => simp; omega
          intro v2 w2 hown hgrow hat
          have hbel := (HB.out.alloc hsz _).grown hgrow (by simp; omega) (fun i hi => (HO.out.lt i hi).1)
          have hown2 : w2.ownsRow w.heap.size 3 1 v2 (k + 1) (ic (Dm.lowd (k + 1) m)) := by
            rw [HLW.out, ic_append]; exact hown
          obtain ⟨a2, c2, hv2⟩ : ∃ a2 c2, v2 = .slice a2 (k + 1) c2 := by
            obtain ⟨a2, c2, e⟩ := (IntC.of_own hown2).form
            rw [Dm.lowd_length] at e; exact ⟨a2, c2, e⟩
          rw [hv2] at hown2 ⊢
          have HO2 := Lib.hid hown2
          have HB2 := Lib.hid hbel
          clear hown hgrow hat hbel hown2 hv2
          go_wp2
          go_roundw
          case rel => exact ⟨k + 1, a2, c2, by rw [HNX.out]; simp, rfl, .inr HGE.out, HO2, HB2⟩
          case measure => simp [intOf]; omega
theorem ref_of (n : Int) (w : World) (hn : -9223372036854775808 ≤ n ∧ n ≤ 9223372036854775807) : Calls Tryz.prog 63 #[.int .i64 n] w (Made (Dm.dg n.natAbs) w) := by
  by_cases h : n < 0
  · obtain ⟨m, rfl⟩ : ∃ m : Nat, n = -(m : Int) := ⟨n.natAbs, by omega⟩
    rw [show (-(m : Int)).natAbs = m by omega]
    exact ref_of_neg m w (by omega)
  · obtain ⟨m, rfl⟩ : ∃ m : Nat, n = (m : Int) := ⟨n.natAbs, by omega⟩
    rw [show ((m : Int)).natAbs = m by omega]
    exact ref_of_pos m w (by omega)
end Go.Proofs.YtpbmjknhfgdnnaaGreatDoor
/- The reference of layer 2: trim, Cmp, Shift on digits. -/
namespace Go.Proofs.YtpbmjknhfgdnnaaGreatDoor
open Go.RowKit

theorem nat_ne (t : Nat) (h : t ≠ 0) : ((t : Int) == 0) = false := by simp; omega
/-- what trim leaves -/
def Trimmed (m : Nat) (w : World) (e : Ending) (w' : World) : Prop := ∃ a c, e = .returned (.slice a (Dm.nd m) c) ∧ IntC (.slice a (Dm.nd m) c) (Dm.dg m) w ∧ w = w'
set_option maxHeartbeats 1000000 in
set_option maxRecDepth 100000 in
theorem ref_trim (a : Option Addr) (c k m : Nat) (w : World) (h : IntC (.slice a k c) (Dm.lowd k m) w) (hm : m < 10 ^ k) (hk : k ≤ 1000) : Calls Tryz.prog 78 #[.slice a k c] w (Trimmed m w) := by
  rcases Nat.eq_zero_or_pos k with hk0 | hkp
  · subst hk0
    obtain rfl : m = 0 := by simpa using hm
    have hz : Dm.nd 0 = 0 := Dm.nd_zero
    go_enter Tryz.func78, Tryz.ntmps78
    go_wp2
    go_loop [0] (fun v => v = .slice a 0 c) (fun _ => 0)
    case atStart => rfl
    case round =>
      obtain rfl := hrel
      go_wp2
      go_ret
      exact ⟨a, c, by rw [Dm.nd_zero]; rfl, by rw [Dm.nd_zero, Dm.dg_zero]; exact .inl ⟨_, _, rfl, rfl⟩, rfl⟩
  · obtain ⟨g, off, rfl, hg, hc⟩ : ∃ g off, a = some ⟨g, off, none⟩ ∧ g < w.heap.size ∧ ∀ j, j < k → w.cell? ⟨g, off + j, none⟩ = some (.int .i64 ((m / 10 ^ j % 10 : Nat) : Int)) := by
      rcases h with ⟨a', c', e, he⟩ | ⟨g, off, cap, e, hc, hg, hcell⟩
      · simp only [Value.slice.injEq] at e; omega
      · simp only [Value.slice.injEq] at e
        obtain ⟨rfl, e2, rfl⟩ := e
        exact ⟨g, off, rfl, hg, fun j hj => by rw [hcell j (by omega), Dm.lowd_get _ _ _ hj]⟩
    have hcap : k ≤ c := by
      rcases h with ⟨a', c', e, he⟩ | ⟨g, off, cap, e, hc, hg, hcell⟩
      · simp only [Value.slice.injEq] at e; omega
      · simp only [Value.slice.injEq, Dm.lowd_length] at e hc; omega
    have HC := Lib.hid hc
    have HM := Lib.hid hm
    clear h hc hm
    go_enter Tryz.func78, Tryz.ntmps78
    go_wp2
    go_loop [0] (fun v => ∃ j : Nat, j ≤ k ∧ v = .slice (some ⟨g, off, none⟩) j c ∧ Hid (m < 10 ^ j)) (fun v => match v with | .slice _ n _ => n | _ => 0)
    case atStart => exact ⟨k, Nat.le_refl _, rfl, HM⟩
    case round =>
      obtain ⟨j, hj, rfl, HJ⟩ := hrel
      cases j with
      | zero =>
        have hm0 : m = 0 := by simpa using HJ.out
        go_wp2
        go_ret
        subst hm0
        exact ⟨_, c, by rw [Dm.nd_zero]; rfl, by rw [Dm.nd_zero, Dm.dg_zero]; exact .inl ⟨_, _, rfl, rfl⟩, rfl⟩
      | succ i =>
        have hci := HC.out i (by omega)
        have hpos : decide ((0 : Int) < (i : Int) + 1) = true := by rw [decide_eq_true_iff]; omega
        by_cases hz : m / 10 ^ i % 10 = 0
        · have HZ : Hid (m < 10 ^ i) := Dm.top_zero i m HJ.out hz
          rw [hz] at hci
          clear hz
          go_wp2
          go_round
          case rel => exact ⟨i, by omega, by simp, HZ⟩
          case measure => simp
        · have hzi : (((m / 10 ^ i % 10 : Nat) : Int) == 0) = false := nat_ne _ hz
          have hnd : Hid (Dm.lowd (i + 1) m = Dm.dg m) := Dm.lowd_eq _ _ HJ.out (.inr (by simpa using Dm.top_pos i m HJ.out hz))
          have hl : Hid (Dm.nd m = i + 1) := by show (Dm.dg m).length = i + 1; rw [← hnd.out, Dm.lowd_length]
          clear hz
          generalize (m / 10 ^ i % 10) = dd at *
          go_wp2
          go_ret
          refine ⟨_, c, by rw [hl.out]; rfl, ?_, rfl⟩
          rw [hl.out, ← hnd.out]
          refine .inr ⟨g, off, c, by rw [Dm.lowd_length], by rw [Dm.lowd_length]; omega, hg, fun j hj' => ?_⟩
          rw [Dm.lowd_length] at hj'
          rw [HC.out j (by omega), Dm.lowd_get _ _ _ hj']
set_option maxHeartbeats 1000000 in
set_option maxRecDepth 100000 in
theorem ref_cmp (a0 a1 : Option Addr) (c0 c1 A B : Nat) (w : World) (h0 : IntC (.slice a0 (Dm.nd A) c0) (Dm.dg A) w) (h1 : IntC (.slice a1 (Dm.nd B) c1) (Dm.dg B) w) (hA : Dm.nd A ≤ 1000) (_hB : Dm.nd B ≤ 1000) :
    Calls Tryz.prog 61 #[.slice a0 (Dm.nd A) c0, .slice a1 (Dm.nd B) c1] w fun e w' => e = .returned (.int .i64 (Dm.cmp A B)) ∧ Below w.heap.size w w' := by
  rcases Nat.lt_trichotomy (Dm.nd A) (Dm.nd B) with hl | hl | hl
  · have hc : Dm.cmp A B = -1 := by unfold Dm.cmp; rw [if_pos (Dm.lt_of_nd _ _ hl)]
    have HC := Lib.hid hc
    clear hc h0 h1
    generalize Dm.nd A = n0 at *
    generalize Dm.nd B = n1 at *
    have hne : ((n0 : Int) != (n1 : Int)) = true := by simp; omega
    have hlt : decide ((n0 : Int) < (n1 : Int)) = true := by simp; omega
    go_enter Tryz.func61, Tryz.ntmps61
    go_wp2
    go_ret
    exact ⟨by rw [HC.out]; rfl, Below.refl _ _⟩
  · have hAB : A < 10 ^ Dm.nd A ∧ B < 10 ^ Dm.nd A := ⟨(Dm.nd_spec A).1, by rw [hl]; exact (Dm.nd_spec B).1⟩
    rw [← hl] at h1 ⊢
    clear _hB
    have hd0 : ∀ j, j < Dm.nd A → (Dm.dg A).getD j 0 = ((A / 10 ^ j % 10 : Nat) : Int) := fun j hj => Dm.dg_get A j hj
    have hd1 : ∀ j, j < Dm.nd A → (Dm.dg B).getD j 0 = ((B / 10 ^ j % 10 : Nat) : Int) := fun j hj => Dm.dg_get B j (by omega)
    have H0 := Lib.hid h0
    have H1 := Lib.hid h1
    have HD0 := Lib.hid hd0
    have HD1 := Lib.hid hd1
    have HAB := Lib.hid hAB
    clear h0 h1 hd0 hd1 hAB hl
    generalize Dm.nd A = n at *
    have hne : ((n : Int) != (n : Int)) = false := by simp
    go_enter Tryz.func61, Tryz.ntmps61
    go_wp2
    go_loopw [5] (fun v wr => ∃ j : Nat, j ≤ n ∧ v = .int .i64 ((j : Int) - 1) ∧ Hid (A / 10 ^ j = B / 10 ^ j) ∧ Hid (Below w.heap.size w wr)) (fun v _ => (intOf v + 1).toNat)
    case atStart => exact ⟨n, Nat.le_refl _, rfl, by show _ = _; rw [Nat.div_eq_of_lt HAB.out.1, Nat.div_eq_of_lt HAB.out.2], Below.refl _ _⟩
    case round =>
      obtain ⟨j, hj, rfl, HE, HB⟩ := hrel
      cases j with
      | zero =>
        have hab : A = B := by simpa using HE.out
        have hc : Dm.cmp A B = 0 := by subst hab; simp [Dm.cmp]
        have HC := Lib.hid hc
        clear hc hab
        go_wp2
        go_ret
        exact ⟨by rw [HC.out]; rfl, HB.out⟩
      | succ i =>
        have hj1 : (((i + 1 : Nat) : Int) - 1) = (i : Int) := by omega
        rw [hj1]
        clear hj1
        obtain ⟨g0, o0, rfl, hg0, hc0⟩ := (H0.out.keep HB.out).at i (by omega)
        obtain ⟨g1, o1, rfl, hg1, hc1⟩ := (H1.out.keep HB.out).at i (by omega)
        rw [HD0.out i (by omega)] at hc0
        rw [HD1.out i (by omega)] at hc1
        have hi0 : (0 : Int) ≤ (i : Int) := by omega
        have hi1 : (i : Int) < (n : Int) := by omega
        have hlt3 := Dm.cmp_digit_lt A B i HE.out
        have hgt3 := Dm.cmp_digit_lt B A i HE.out.symm
        have heq3 := Dm.cmp_digit_eq A B i HE.out
        generalize A / 10 ^ i % 10 = x at *
        generalize B / 10 ^ i % 10 = y at *
        rcases Nat.lt_trichotomy x y with hxy | hxy | hxy
        · have hc : Dm.cmp A B = -1 := by unfold Dm.cmp; rw [if_pos (hlt3 hxy)]
          have HC := Lib.hid hc
          have q1 : decide ((x : Int) < (y : Int)) = true := by simp; omega
          have q2 : decide (x < y) = true := by simp; omega
          clear hc hlt3 hgt3 heq3
          go_wp2
          go_quiet (fail)
          go_wp2
          go_ret
          exact ⟨by rw [HC.out]; rfl, by first | exact below_n HB.out _ | exact below_n (below_n HB.out _) _⟩
        · subst hxy
          have HEQ := Lib.hid (heq3 rfl)
          have q1 : decide ((x : Int) < (x : Int)) = false := by simp
          clear hlt3 hgt3 heq3
          go_wp2
          go_quiet (fail)
          go_wp2
          go_quiet (fail)
          go_wp2
          go_roundw
          case rel => exact ⟨i, by omega, by go_num, HEQ, below_n HB.out _⟩
          case measure => simp [intOf]
        · have hc : Dm.cmp A B = 1 := by unfold Dm.cmp; rw [if_neg (by have := hgt3 hxy; omega), if_pos (hgt3 hxy)]
          have HC := Lib.hid hc
          have q1 : decide ((x : Int) < (y : Int)) = false := by simp; omega
          have q2 : decide (x < y) = false := by simp; omega
          have q3 : decide ((y : Int) < (x : Int)) = true := by simp; omega
          have q4 : decide (y < x) = true := by simp; omega
          clear hc hlt3 hgt3 heq3
          go_wp2
          go_quiet (fail)
          go_wp2
          go_quiet (fail)
          go_wp2
          go_ret
          exact ⟨by rw [HC.out]; rfl, by first | exact below_n HB.out _ | exact below_n (below_n HB.out _) _⟩
  · have hc : Dm.cmp A B = 1 := by unfold Dm.cmp; have := Dm.lt_of_nd _ _ hl; rw [if_neg (by omega), if_pos this]
    have HC := Lib.hid hc
    clear hc h0 h1
    generalize Dm.nd A = n0 at *
    generalize Dm.nd B = n1 at *
    have hne : ((n0 : Int) != (n1 : Int)) = true := by simp; omega
    have hlt : decide ((n0 : Int) < (n1 : Int)) = false := by simp; omega
    have hlt2 : decide (n0 < n1) = false := by simp; omega
    go_enter Tryz.func61, Tryz.ntmps61
    go_wp2
    go_ret
    exact ⟨by rw [HC.out]; rfl, Below.refl _ _⟩
end Go.Proofs.YtpbmjknhfgdnnaaGreatDoor
/- The reference of layer 2: Shift, Plus, Minus on digits. -/
namespace Go.Proofs.YtpbmjknhfgdnnaaGreatDoor
open Go.RowKit

theorem made_zeros (k : Nat) : (madeCells #[.int .i64 0] k).toList = ic (List.replicate k 0) := by
  apply List.ext_getElem
  · simp [madeCells, ic]
  · intro i h1 h2
    simp [madeCells, ic] at h1 ⊢
    rw [Nat.mod_one]; rfl
set_option maxHeartbeats 1000000 in
set_option maxRecDepth 100000 in
theorem ref_shift (a : Option Addr) (c A k : Nat) (w : World) (h : IntC (.slice a (Dm.nd A) c) (Dm.dg A) w) (hA : Dm.nd A ≤ 1000) (hk : k ≤ 1000) :
    Calls Tryz.prog 62 #[.slice a (Dm.nd A) c, .int .i64 (k : Int)] w (Made (Dm.dg (A * 10 ^ k)) w) := by
  by_cases h0 : A = 0
  · subst h0
    have hz : Dm.nd 0 = 0 := Dm.nd_zero
    go_enter Tryz.func62, Tryz.ntmps62
    go_wp2
    go_ret
    refine ⟨none, 0, ?_, ?_, Below.refl _ _⟩
    · rw [Nat.zero_mul, Dm.dg_zero]; rfl
    · rw [Nat.zero_mul, Dm.dg_zero]; exact .inl ⟨_, _, rfl, rfl⟩
  · obtain ⟨i0, hi0, hz0, hz1, hz2⟩ := info_parts info3
    have hmk : ∀ wx : World, (Instr.makeSlice 75 (.int .i64 (k : Int)) (.int .i64 (k : Int))).run Tryz.prog wx = .ok (.slice (some ⟨wx.heap.size, 0, none⟩) k k) (wx.alloc (.cells (madeCells #[.int .i64 0] k) 3)) := fun wx => by
      have := run_make (P := Tryz.prog) wx 75 3 i0 (.int .i64 0) Tryz.underlying75 hi0 hz0 .i64 .i64 (k : Int) (k : Int) (by omega) (by omega) (by rw [hz2]; omega) (by omega)
      rw [hz1] at this
      simpa [Value.cells] using this
    have hown0 : (w.alloc (.cells (madeCells #[.int .i64 0] k) 3)).ownsRow w.heap.size 3 1 (.slice (some ⟨w.heap.size, 0, none⟩) k k) k (ic (List.replicate k 0)) := by
      refine ⟨by simp [ic], .inr ⟨w.heap.size, k, _, rfl, Nat.le_refl _, heap_alloc_new w _, Nat.le_refl _, by unfold maxLen; omega, by simp [madeCells], ?_⟩⟩
      rw [List.take_of_length_le (by simp [madeCells]), made_zeros]
    have hdg := Dm.dg_shift A k h0
    have hl : Dm.nd (A * 10 ^ k) = k + Dm.nd A := Dm.nd_shift A k h0
    have hsrc := (h.keep (w' := w.alloc (.cells (madeCells #[.int .i64 0] k) 3)) ((Below.refl _ w).alloc (Nat.le_refl _) _)).src
    rw [Dm.dg_length] at hsrc
    have hpos : 0 < Dm.nd A := by rcases (Dm.nd_spec A).2 with e | e; omega; exact e.1
    have HI0 := Lib.hid hi0; have HZ0 := Lib.hid hz0; have HZ1 := Lib.hid hz1; have HZ2 := Lib.hid hz2
    have HOW := Lib.hid hown0
    have HDG := Lib.hid hdg
    have HL := Lib.hid hl
    have HS := Lib.hid hsrc
    clear hi0 hz0 hz1 hz2 hown0 hdg hl hsrc h
    have hMC : ∃ zs, madeCells #[Value.int .i64 0] k = zs := ⟨_, rfl⟩
    obtain ⟨zs, hzs⟩ := hMC
    rw [hzs] at hmk HOW HS
    clear hzs
    generalize hn : Dm.nd A = n at *
    have hne : ((n : Int) == 0) = false := by simp; omega
    clear hn
    go_enter Tryz.func62, Tryz.ntmps62
    go_wp2_with (at_builtin; refine wpList_append_src _ rfl (.tmp 9) (.tmp 10) 75 75 rfl w.heap.size 3 i0 (.int .i64 0) 1 8 Tryz.underlying75 HI0.out HZ0.out HZ1.out HZ2.out rfl _ k (ic (List.replicate k 0)) rfl HOW.out (.slice a n c) n (ic (Dm.dg A)) rfl HS.out ?qa ?qb ?qc ?_)
    case qa => unfold maxLen; omega
    case qb => omega
    case qc => simp
    intro v2 w2 hown hgrow hat
    have hbel := ((Below.refl _ w).alloc (Nat.le_refl _) _).grown hgrow (by simp) (by intro i hi; simp [Value.ownBlock] at hi; omega)
    rw [← ic_append, ← HDG.out] at hown
    obtain ⟨a2, c2, hv2⟩ := (IntC.of_own hown).form
    have HO := Lib.hid (IntC.of_own hown)
    have HB := Lib.hid hbel
    clear hown hgrow hat hbel
    rw [hv2] at HO
    rw [hv2]
    go_wp2
    go_ret
    exact ⟨a2, c2, rfl, HO.out, HB.out⟩
set_option maxHeartbeats 4000000 in
set_option maxRecDepth 100000 in
theorem ref_plus (a0 a1 : Option Addr) (c0 c1 A B : Nat) (w : World) (h0 : IntC (.slice a0 (Dm.nd A) c0) (Dm.dg A) w) (h1 : IntC (.slice a1 (Dm.nd B) c1) (Dm.dg B) w) (hA : Dm.nd A ≤ 1000) (hB : Dm.nd B ≤ 1000) :
    Calls Tryz.prog 99 #[.slice a0 (Dm.nd A) c0, .slice a1 (Dm.nd B) c1] w (Made (Dm.dg (A + B)) w) := by
  obtain ⟨i0, hi0, hz0, hz1, hz2⟩ := info_parts info3
  have HI0 := Lib.hid hi0; have HZ0 := Lib.hid hz0; have HZ1 := Lib.hid hz1; have HZ2 := Lib.hid hz2
  clear hi0 hz0 hz1 hz2
  have hd0 : ∀ j, j < Dm.nd A → (Dm.dg A).getD j 0 = ((A / 10 ^ j % 10 : Nat) : Int) := fun j hj => Dm.dg_get A j hj
  have hd1 : ∀ j, j < Dm.nd B → (Dm.dg B).getD j 0 = ((B / 10 ^ j % 10 : Nat) : Int) := fun j hj => Dm.dg_get B j hj
  have hgA : ∀ j, j < Dm.nd A → 10 ^ j ≤ A := fun j hj => by
    rcases (Dm.nd_spec A).2 with e | e
    · rw [e, Dm.nd_zero] at hj; omega
    · exact Nat.le_trans (Nat.pow_le_pow_right (by omega) (by omega)) e.2
  have hgB : ∀ j, j < Dm.nd B → 10 ^ j ≤ B := fun j hj => by
    rcases (Dm.nd_spec B).2 with e | e
    · rw [e, Dm.nd_zero] at hj; omega
    · exact Nat.le_trans (Nat.pow_le_pow_right (by omega) (by omega)) e.2
  have hlA : ∀ j, Dm.nd A ≤ j → A < 10 ^ j := fun j hj => Nat.lt_of_lt_of_le (Dm.nd_spec A).1 (Nat.pow_le_pow_right (by omega) hj)
  have hlB : ∀ j, Dm.nd B ≤ j → B < 10 ^ j := fun j hj => Nat.lt_of_lt_of_le (Dm.nd_spec B).1 (Nat.pow_le_pow_right (by omega) hj)
  have H0 := Lib.hid h0; have H1 := Lib.hid h1; have HD0 := Lib.hid hd0; have HD1 := Lib.hid hd1
  have HGA := Lib.hid hgA; have HGB := Lib.hid hgB; have HLA := Lib.hid hlA; have HLB := Lib.hid hlB
  clear h0 h1 hd0 hd1 hgA hgB hlA hlB
  generalize Dm.nd A = nA at *
  generalize Dm.nd B = nB at *
  go_enter Tryz.func99, Tryz.ntmps99
  go_wp2
  go_loopw [5, 6, 7] (fun o cv iv wr => ∃ (k : Nat) (oa : Option Addr) (oc : Nat), o = .slice oa k oc ∧ cv = .int .i64 ((Dm.car A B k : Nat) : Int) ∧ iv = .int .i64 (k : Int) ∧ k ≤ max nA nB + 1 ∧ Hid (k = 0 ∨ 10 ^ (k - 1) ≤ A + B) ∧ Hid (wr.ownsRow w.heap.size 3 1 (.slice oa k oc) k (ic (Dm.lowd k (A + B)))) ∧ Hid (Below w.heap.size w wr) ∧ Hid (k = max nA nB + 1 → Dm.car A B k = 0)) (fun _ _ iv _ => max nA nB + 2 - (intOf iv).toNat)
  case atStart => exact ⟨0, none, 0, rfl, by rw [Dm.car_zero]; rfl, rfl, by omega, .inl rfl, World.ownsRow_nil _ _ _ _, Below.refl _ _, fun h => by omega⟩
  case round =>
    obtain ⟨k, oa, oc, rfl, rfl, rfl, hk, HK, HO, HB, HT⟩ := hrel
    have hsz := HB.out.size
    have hcl := Dm.car_le A B k
    have hlow := Dm.lowd_snoc k (A + B)
    rw [Dm.sum_digit] at hlow
    have hcs := Dm.car_succ A B k
    have hx0 : nA ≤ k → A / 10 ^ k % 10 = 0 := fun h => by rw [Nat.div_eq_of_lt (HLA.out k h)]
    have hy0 : nB ≤ k → B / 10 ^ k % 10 = 0 := fun h => by rw [Nat.div_eq_of_lt (HLB.out k h)]
    have hx9 : A / 10 ^ k % 10 ≤ 9 := Nat.le_of_lt_succ (Nat.mod_lt _ (by omega))
    have hy9 : B / 10 ^ k % 10 ≤ 9 := Nat.le_of_lt_succ (Nat.mod_lt _ (by omega))
    have hsge := Dm.sum_ge A B k
    have hslt := Dm.sum_lt A B k
    have hdA := HD0.out k
    have hdB := HD1.out k
    generalize A / 10 ^ k % 10 = x at *
    generalize B / 10 ^ k % 10 = y at *
    generalize Dm.car A B k = cc at *
    obtain ⟨dd, hdd⟩ : ∃ dd : Nat, (cc + x + y) % 10 = dd := ⟨_, rfl⟩
    obtain ⟨ee, hee⟩ : ∃ ee : Nat, (cc + x + y) / 10 = ee := ⟨_, rfl⟩
    rw [hdd] at hlow
    rw [hee] at hcs
    have HLW := Lib.hid hlow
    have HEE := Lib.hid hcs
    have HSGE := Lib.hid hsge
    have HSLT := Lib.hid hslt
    clear hlow hcs hsge hslt
    by_cases hiA : k < nA
    · obtain ⟨g0, o0, rfl, hg0, hcell0⟩ := (H0.out.keep HB.out).at k hiA
      rw [hdA hiA] at hcell0
      by_cases hiB : k < nB
      · obtain ⟨g1, o1, rfl, hg1, hcell1⟩ := (H1.out.keep HB.out).at k hiB
        rw [hdB hiB] at hcell1
        clear hdA hdB hx0 hy0
        have q1 : decide (k < nA) = true := by simp; omega
        have q3 : decide ((k : Int) < (nA : Int)) = true := by simp; omega
        have q2 : decide (k < nB) = true := by simp; omega
        have q4 : decide ((k : Int) < (nB : Int)) = true := by simp; omega
        have hmod : ((cc : Int) + (x : Int) + (y : Int)) % 10 = (dd : Int) := by omega
        have hdiv : ((cc : Int) + (x : Int) + (y : Int)) / 10 = (ee : Int) := by omega
        have HGE : Hid (10 ^ k ≤ A + B) := by show _ ≤ _; have := HGA.out k hiA; omega
        have HTOP : Hid (k + 1 = max nA nB + 1 → Dm.car A B (k + 1) = 0) := fun h => by omega

        go_wp2_with (at_builtin; refine wpList_append_src _ rfl (.tmp 44) (.tmp 47) 75 75 rfl w.heap.size 3 i0 (.int .i64 0) 1 8 Tryz.underlying75 HI0.out HZ0.out HZ1.out HZ2.out rfl (.slice oa k oc) k (ic (Dm.lowd k (A + B))) rfl (HO.out.alloc _) _ 1 (ic [(dd : Int)]) rfl ?qsp1 ?qap1 ?qbp1 ?qcp1 ?_)
        case qsp1 => exact lit_src wr _
        case qap1 => unfold maxLen; omega
        case qbp1 => omega
        case qcp1 => simp; omega
        intro v2 w2 hown hgrow hat
        have hbel := (HB.out.alloc hsz _).grown hgrow (by simp; omega) (fun i hi => (HO.out.lt i hi).1)
        have hown2 : w2.ownsRow w.heap.size 3 1 v2 (k + 1) (ic (Dm.lowd (k + 1) (A + B))) := by
          rw [HLW.out, ic_append]; exact hown
        obtain ⟨a2, c2, hv2⟩ : ∃ a2 c2, v2 = .slice a2 (k + 1) c2 := by
          obtain ⟨a2, c2, e⟩ := (IntC.of_own hown2).form
          rw [Dm.lowd_length] at e; exact ⟨a2, c2, e⟩
        rw [hv2] at hown2 ⊢
        have HO2 := Lib.hid hown2
        have HB2 := Lib.hid hbel
        clear hown hgrow hat hbel hown2 hv2
        go_wp2
        go_roundw
        case rel => exact ⟨k + 1, a2, c2, rfl, by rw [HEE.out]; first | rw [hdiv] | (rw [← hdiv]; rfl) | (simp; omega), by go_num, by omega, .inr HGE.out, HO2, HB2, HTOP⟩
        case measure => simp [intOf]; omega
      · have hy := hy0 (by omega)
        subst hy
        clear hdA hdB hx0 hy0
        have q1 : decide (k < nA) = true := by simp; omega
        have q3 : decide ((k : Int) < (nA : Int)) = true := by simp; omega
        have q2 : decide (k < nB) = false := by simp; omega
        have q4 : decide ((k : Int) < (nB : Int)) = false := by simp; omega
        have hmod : ((cc : Int) + (x : Int)) % 10 = (dd : Int) := by omega
        have hdiv : ((cc : Int) + (x : Int)) / 10 = (ee : Int) := by omega
        have HGE : Hid (10 ^ k ≤ A + B) := by show _ ≤ _; have := HGA.out k hiA; omega
        have HTOP : Hid (k + 1 = max nA nB + 1 → Dm.car A B (k + 1) = 0) := fun h => by omega

        go_wp2_with (at_builtin; refine wpList_append_src _ rfl (.tmp 44) (.tmp 47) 75 75 rfl w.heap.size 3 i0 (.int .i64 0) 1 8 Tryz.underlying75 HI0.out HZ0.out HZ1.out HZ2.out rfl (.slice oa k oc) k (ic (Dm.lowd k (A + B))) rfl (HO.out.alloc _) _ 1 (ic [(dd : Int)]) rfl ?qsp2 ?qap2 ?qbp2 ?qcp2 ?_)
        case qsp2 => exact lit_src wr _
        case qap2 => unfold maxLen; omega
        case qbp2 => omega
        case qcp2 => simp; omega
        intro v2 w2 hown hgrow hat
        have hbel := (HB.out.alloc hsz _).grown hgrow (by simp; omega) (fun i hi => (HO.out.lt i hi).1)
        have hown2 : w2.ownsRow w.heap.size 3 1 v2 (k + 1) (ic (Dm.lowd (k + 1) (A + B))) := by
          rw [HLW.out, ic_append]; exact hown
        obtain ⟨a2, c2, hv2⟩ : ∃ a2 c2, v2 = .slice a2 (k + 1) c2 := by
          obtain ⟨a2, c2, e⟩ := (IntC.of_own hown2).form
          rw [Dm.lowd_length] at e; exact ⟨a2, c2, e⟩
        rw [hv2] at hown2 ⊢
        have HO2 := Lib.hid hown2
        have HB2 := Lib.hid hbel
        clear hown hgrow hat hbel hown2 hv2
        go_wp2
        go_roundw
        case rel => exact ⟨k + 1, a2, c2, rfl, by rw [HEE.out]; first | rw [hdiv] | (rw [← hdiv]; rfl) | (simp; omega), by go_num, by omega, .inr HGE.out, HO2, HB2, HTOP⟩
        case measure => simp [intOf]; omega
    · have hx := hx0 (by omega)
      subst hx
      by_cases hiB : k < nB
      · obtain ⟨g1, o1, rfl, hg1, hcell1⟩ := (H1.out.keep HB.out).at k hiB
        rw [hdB hiB] at hcell1
        clear hdA hdB hx0 hy0
        have q1 : decide (k < nA) = false := by simp; omega
        have q3 : decide ((k : Int) < (nA : Int)) = false := by simp; omega
        have q2 : decide (k < nB) = true := by simp; omega
        have q4 : decide ((k : Int) < (nB : Int)) = true := by simp; omega
        have hmod : ((cc : Int) + (y : Int)) % 10 = (dd : Int) := by omega
        have hdiv : ((cc : Int) + (y : Int)) / 10 = (ee : Int) := by omega
        have HGE : Hid (10 ^ k ≤ A + B) := by show _ ≤ _; have := HGB.out k hiB; omega
        have HTOP : Hid (k + 1 = max nA nB + 1 → Dm.car A B (k + 1) = 0) := fun h => by omega

        go_wp2_with (at_builtin; refine wpList_append_src _ rfl (.tmp 44) (.tmp 47) 75 75 rfl w.heap.size 3 i0 (.int .i64 0) 1 8 Tryz.underlying75 HI0.out HZ0.out HZ1.out HZ2.out rfl (.slice oa k oc) k (ic (Dm.lowd k (A + B))) rfl (HO.out.alloc _) _ 1 (ic [(dd : Int)]) rfl ?qsp3 ?qap3 ?qbp3 ?qcp3 ?_)
        case qsp3 => exact lit_src wr _
        case qap3 => unfold maxLen; omega
        case qbp3 => omega
        case qcp3 => simp; omega
        intro v2 w2 hown hgrow hat
        have hbel := (HB.out.alloc hsz _).grown hgrow (by simp; omega) (fun i hi => (HO.out.lt i hi).1)
        have hown2 : w2.ownsRow w.heap.size 3 1 v2 (k + 1) (ic (Dm.lowd (k + 1) (A + B))) := by
          rw [HLW.out, ic_append]; exact hown
        obtain ⟨a2, c2, hv2⟩ : ∃ a2 c2, v2 = .slice a2 (k + 1) c2 := by
          obtain ⟨a2, c2, e⟩ := (IntC.of_own hown2).form
          rw [Dm.lowd_length] at e; exact ⟨a2, c2, e⟩
        rw [hv2] at hown2 ⊢
        have HO2 := Lib.hid hown2
        have HB2 := Lib.hid hbel
        clear hown hgrow hat hbel hown2 hv2
        go_wp2
        go_roundw
        case rel => exact ⟨k + 1, a2, c2, rfl, by rw [HEE.out]; first | rw [hdiv] | (rw [← hdiv]; rfl) | (simp; omega), by go_num, by omega, .inr HGE.out, HO2, HB2, HTOP⟩
        case measure => simp [intOf]; omega
      · have hy := hy0 (by omega)
        subst hy
        clear hdA hdB hx0 hy0
        rcases Nat.eq_zero_or_pos cc with hc | hc
        · subst hc
          have hfin : Dm.lowd k (A + B) = Dm.dg (A + B) := Dm.lowd_eq k _ (HSLT.out (HLA.out k (by omega)) (HLB.out k (by omega)) rfl) HK.out
          have HFIN := Lib.hid hfin
          have q1 : decide (k < nA) = false := by simp; omega
          have q2 : decide (k < nB) = false := by simp; omega
          have q3 : decide ((k : Int) < (nA : Int)) = false := by simp; omega
          have q4 : decide ((k : Int) < (nB : Int)) = false := by simp; omega
          clear hfin
          have hl : Hid ((Dm.dg (A + B)).length = k) := by show _ = _; rw [← HFIN.out, Dm.lowd_length]
          go_wp2
          go_ret
          refine ⟨oa, oc, by rw [hl.out]; rfl, ?_, HB.out⟩
          have h2 := IntC.of_own HO.out
          rw [HFIN.out] at h2
          rw [hl.out]
          exact h2
        · have hc1 : cc = 1 := by omega
          subst hc1
          have hkm : k ≤ max nA nB := by
            rcases Nat.lt_or_ge (max nA nB) k with hh | hh
            · have := HT.out (by omega); omega
            · exact hh
          obtain rfl : dd = 1 := by omega
          obtain rfl : ee = 0 := by omega
          have q1 : decide (k < nA) = false := by simp; omega
          have q3 : decide ((k : Int) < (nA : Int)) = false := by simp; omega
          have q2 : decide (k < nB) = false := by simp; omega
          have q4 : decide ((k : Int) < (nB : Int)) = false := by simp; omega
          have hdiv : ((1 : Int)) / 10 = 0 := by omega
          have HGE : Hid (10 ^ k ≤ A + B) := HSGE.out hc
          have HTOP : Hid (k + 1 = max nA nB + 1 → Dm.car A B (k + 1) = 0) := fun h => by rw [HEE.out]

          go_wp2_with (at_builtin; refine wpList_append_src _ rfl (.tmp 44) (.tmp 47) 75 75 rfl w.heap.size 3 i0 (.int .i64 0) 1 8 Tryz.underlying75 HI0.out HZ0.out HZ1.out HZ2.out rfl (.slice oa k oc) k (ic (Dm.lowd k (A + B))) rfl (HO.out.alloc _) _ 1 (ic [(1 : Int)]) rfl ?qsp4 ?qap4 ?qbp4 ?qcp4 ?_)
          case qsp4 => exact lit_src wr _
          case qap4 => unfold maxLen; omega
          case qbp4 => omega
          case qcp4 => first | (simp; omega) | omega
          intro v2 w2 hown hgrow hat
          have hbel := (HB.out.alloc hsz _).grown hgrow (by simp; omega) (fun i hi => (HO.out.lt i hi).1)
          have hown2 : w2.ownsRow w.heap.size 3 1 v2 (k + 1) (ic (Dm.lowd (k + 1) (A + B))) := by
            rw [HLW.out, ic_append]; exact hown
          obtain ⟨a2, c2, hv2⟩ : ∃ a2 c2, v2 = .slice a2 (k + 1) c2 := by
            obtain ⟨a2, c2, e⟩ := (IntC.of_own hown2).form
            rw [Dm.lowd_length] at e; exact ⟨a2, c2, e⟩
          rw [hv2] at hown2 ⊢
          have HO2 := Lib.hid hown2
          have HB2 := Lib.hid hbel
          clear hown hgrow hat hbel hown2 hv2
          go_wp2
          go_roundw
          case rel => exact ⟨k + 1, a2, c2, rfl, by rw [HEE.out]; first | rw [hdiv] | (rw [← hdiv]; rfl) | (simp; omega), by go_num, by omega, .inr HGE.out, HO2, HB2, HTOP⟩
          case measure => simp [intOf]; omega
end Go.Proofs.YtpbmjknhfgdnnaaGreatDoor
/- The reference of layer 2: Round on digits: the quotient, rounded to the nearest, ties up. -/
namespace Go.Proofs.YtpbmjknhfgdnnaaGreatDoor
open Go.RowKit

/-- a quotient, rounded -/
def rnd (A B : Nat) : Nat := if B ≤ 2 * (A % B) then A / B + 1 else A / B
theorem lowd_push (t Q d : Nat) (hd : d ≤ 9) : Dm.lowd (t + 1) (Q * 10 + d) = (d : Int) :: Dm.lowd t Q := by
  rw [Dm.lowd_cons]
  have e1 : (Q * 10 + d) % 10 = d := by omega
  have e2 : (Q * 10 + d) / 10 = Q := by omega
  rw [e1, e2]
theorem dg_one : Dm.dg 1 = [1] := by rw [Dm.dg_pos 1 (by omega), Dm.dg_zero]; rfl
theorem plus_n (a0 a1 : Option Addr) (n0 n1 c0 c1 A B : Nat) (w : World) (e0 : n0 = Dm.nd A) (e1 : n1 = Dm.nd B) (h0 : IntC (.slice a0 n0 c0) (Dm.dg A) w) (h1 : IntC (.slice a1 n1 c1) (Dm.dg B) w) (hA : n0 ≤ 1000) (hB : n1 ≤ 1000) :
    Calls Tryz.prog 99 #[.slice a0 n0 c0, .slice a1 n1 c1] w (Made (Dm.dg (A + B)) w) := by
  subst e0 e1; exact ref_plus a0 a1 c0 c1 A B w h0 h1 hA hB
theorem cmp_n (a0 a1 : Option Addr) (n0 n1 c0 c1 A B : Nat) (w : World) (e0 : n0 = Dm.nd A) (e1 : n1 = Dm.nd B) (h0 : IntC (.slice a0 n0 c0) (Dm.dg A) w) (h1 : IntC (.slice a1 n1 c1) (Dm.dg B) w) (hA : n0 ≤ 1000) (hB : n1 ≤ 1000) :
    Calls Tryz.prog 61 #[.slice a0 n0 c0, .slice a1 n1 c1] w fun e w' => e = .returned (.int .i64 (Dm.cmp A B)) ∧ Below w.heap.size w w' := by
  subst e0 e1; exact ref_cmp a0 a1 c0 c1 A B w h0 h1 hA hB
theorem nd_one : Dm.nd 1 = 1 := by unfold Dm.nd; rw [dg_one]; rfl
theorem lit_one (w : World) : IntC (.slice (some ⟨w.heap.size, 0, none⟩) 1 1) (Dm.dg 1) (w.alloc (.cells #[.int .i64 1] 3)) := by
  rw [dg_one]; exact IntC.of_own (own_lit3 w 1 0 (Nat.zero_le _))
end Go.Proofs.YtpbmjknhfgdnnaaGreatDoor
