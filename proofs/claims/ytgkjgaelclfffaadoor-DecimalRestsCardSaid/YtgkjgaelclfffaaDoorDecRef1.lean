/- The reference of layer 2: Of, trim, Cmp, Shift, Plus, Minus on digits. -/
import Derived.Test.YtgkjgaelclfffaaDoorDecKit
import Derived.Deep.QuietTactic
import Derived.BigQuiet
namespace Go.Proofs.YtgkjgaelclfffaaDoor
open Go.RowKit

set_option maxHeartbeats 1000000 in
set_option maxRecDepth 100000 in
theorem ref_of_pos (m : Nat) (w : World) (hm : m ≤ 9223372036854775807) : Calls Tryd.prog 45 #[.int .i64 ((m : Int))] w (Made (Dm.dg m) w) := by
  obtain ⟨i0, hi0, hz0, hz1, hz2⟩ := info_parts info3
  have HI0 := Lib.hid hi0; have HZ0 := Lib.hid hz0; have HZ1 := Lib.hid hz1; have HZ2 := Lib.hid hz2
  clear hi0 hz0 hz1 hz2
  go_enter Tryd.func45, Tryd.ntmps45
  go_wp2
  go_loopw [0, 3] (fun q d wr => ∃ (k : Nat) (a : Option Addr) (c : Nat), q = .int .i64 (((m / 10 ^ k : Nat) : Int)) ∧ d = .slice a k c ∧ Hid (k = 0 ∨ 10 ^ (k - 1) ≤ m) ∧ Hid (wr.ownsRow w.heap.size 3 1 (.slice a k c) k (ic (Dm.lowd k m))) ∧ Hid (Below w.heap.size w wr)) (fun q _ _ => (intOf q).natAbs)
  case atStart => exact ⟨0, none, 0, by simp, rfl, .inl rfl, World.ownsRow_nil _ _ _ _, Below.refl _ _⟩
  case round =>
      obtain ⟨k, a, c, rfl, rfl, HK, HO, HB⟩ := hrel
      have hk8 : k ≤ 100 := by
        rcases Nat.lt_or_ge 100 k with h | h
        · rcases HK.out with e | e
          · omega
          · have : 10 ^ 100 ≤ 10 ^ (k - 1) := Nat.pow_le_pow_right (by omega) (by omega)
            have h2 : (9223372036854775808 : Nat) < 10 ^ 100 := by decide +kernel
            omega
        · exact h
      have hsz := HB.out.size
      obtain ⟨qq, hqq⟩ : ∃ qq : Nat, m / 10 ^ k = qq := ⟨_, rfl⟩
      have hqm : qq ≤ 9223372036854775808 := by have := Nat.div_le_self m (10 ^ k); omega
      have hqm2 : qq ≤ 9223372036854775807 := by have := Nat.div_le_self m (10 ^ k); omega
      rcases Nat.eq_zero_or_pos qq with hz | hp
      · subst hz
        rw [hqq]
        have hfin : Hid (Dm.lowd k m = Dm.dg m) := by
          have hp : 0 < 10 ^ k := Nat.pow_pos (by omega)
          refine Dm.lowd_eq k m ?_ HK.out
          rw [Nat.div_eq_zero_iff] at hqq
          omega
        have hnl : Hid (Dm.nd m = k) := by show (Dm.dg m).length = k; rw [← hfin.out, Dm.lowd_length]
        have HB3 := HB
        clear hqq
        go_wp2
        go_ret
        refine ⟨a, c, by rw [Dm.dg_length, hnl.out]; rfl, ?_, HB3.out⟩
        have h2 := IntC.of_own HO.out
        rw [hfin.out] at h2
        rw [Dm.dg_length, hnl.out]
        exact h2
      · rw [hqq]
        have hlow : Dm.lowd (k + 1) m = Dm.lowd k m ++ [((qq % 10 : Nat) : Int)] := by rw [Dm.lowd_snoc, hqq]
        have hnx : m / 10 ^ (k + 1) = qq / 10 := by rw [Nat.pow_succ, ← Nat.div_div_eq_div_mul, hqq]
        have hge : 10 ^ k ≤ m := (Nat.div_pos_iff.1 (by rw [hqq]; exact hp : 0 < m / 10 ^ k)).2
        have HLW := Lib.hid hlow
        have HNX := Lib.hid hnx
        have HGE := Lib.hid hge
        clear hqq hlow hnx hge
        have hne : ((qq : Int) != 0) = true := by simp; omega
        obtain ⟨r, hr⟩ : ∃ r : Nat, qq % 10 = r := ⟨_, rfl⟩
        have hr9 : r ≤ 9 := by omega
        have hri : ((qq : Int) % 10) = (r : Int) := by omega
        rw [hr] at HLW
        clear hr
        have hlt0 : decide ((r : Int) < 0) = false := by simp
        go_wp2_with (at_builtin; refine wpList_append_src _ rfl (.tmp 13) (.tmp 15) 53 53 rfl w.heap.size 3 i0 (.int .i64 0) 1 8 Tryd.underlying53 HI0.out HZ0.out HZ1.out HZ2.out rfl (.slice a k c) k (ic (Dm.lowd k m)) rfl (HO.out.alloc _) _ 1 (ic [(r : Int)]) rfl ?qsp1 ?qap1 ?qbp1 ?qcp1 ?_)
        case qsp1 => exact lit_src wr _
        case qap1 => unfold maxLen; omega
        case qbp1 => omega
        case qcp1 => simp; omega
        intro v2 w2 hown hgrow hat
        have hbel := (HB.out.alloc hsz _).grown hgrow (by simp; omega) (fun i hi => (HO.out.lt i hi).1)
        have hown2 : w2.ownsRow w.heap.size 3 1 v2 (k + 1) (ic (Dm.lowd (k + 1) m)) := by
          rw [HLW.out, ic_append]; exact hown
        obtain ⟨a2, c2, hv2⟩ : ∃ a2 c2, v2 = .slice a2 (k + 1) c2 := by
          obtain ⟨a2, c2, e⟩ := (IntC.of_own hown2).form
          rw [Dm.lowd_length] at e; exact ⟨a2, c2, e⟩
        rw [hv2] at hown2 ⊢
        have HO2 := Lib.hid hown2
        have HB2 := Lib.hid hbel
        clear hown hgrow hat hbel hown2 hv2
        go_wp2
        go_roundw
        case rel => exact ⟨k + 1, a2, c2, by rw [HNX.out]; go_num, rfl, .inr HGE.out, HO2, HB2⟩
        case measure => simp [intOf]; omega

set_option maxHeartbeats 1000000 in
set_option maxRecDepth 100000 in
theorem ref_of_neg (m : Nat) (w : World) (hm : m ≤ 9223372036854775808) : Calls Tryd.prog 45 #[.int .i64 (-(m : Int))] w (Made (Dm.dg m) w) := by
  obtain ⟨i0, hi0, hz0, hz1, hz2⟩ := info_parts info3
  have HI0 := Lib.hid hi0; have HZ0 := Lib.hid hz0; have HZ1 := Lib.hid hz1; have HZ2 := Lib.hid hz2
  clear hi0 hz0 hz1 hz2
  go_enter Tryd.func45, Tryd.ntmps45
  go_wp2
  go_loopw [0, 3] (fun q d wr => ∃ (k : Nat) (a : Option Addr) (c : Nat), q = .int .i64 (-((m / 10 ^ k : Nat) : Int)) ∧ d = .slice a k c ∧ Hid (k = 0 ∨ 10 ^ (k - 1) ≤ m) ∧ Hid (wr.ownsRow w.heap.size 3 1 (.slice a k c) k (ic (Dm.lowd k m))) ∧ Hid (Below w.heap.size w wr)) (fun q _ _ => (intOf q).natAbs)
  case atStart => exact ⟨0, none, 0, by simp, rfl, .inl rfl, World.ownsRow_nil _ _ _ _, Below.refl _ _⟩
  case round =>
      obtain ⟨k, a, c, rfl, rfl, HK, HO, HB⟩ := hrel
      have hk8 : k ≤ 100 := by
        rcases Nat.lt_or_ge 100 k with h | h
        · rcases HK.out with e | e
          · omega
          · have : 10 ^ 100 ≤ 10 ^ (k - 1) := Nat.pow_le_pow_right (by omega) (by omega)
            have h2 : (9223372036854775808 : Nat) < 10 ^ 100 := by decide +kernel
            omega
        · exact h
      have hsz := HB.out.size
      obtain ⟨qq, hqq⟩ : ∃ qq : Nat, m / 10 ^ k = qq := ⟨_, rfl⟩
      have hqm : qq ≤ 9223372036854775808 := by have := Nat.div_le_self m (10 ^ k); omega
      rcases Nat.eq_zero_or_pos qq with hz | hp
      · subst hz
        rw [hqq]
        have hfin : Hid (Dm.lowd k m = Dm.dg m) := by
          have hp : 0 < 10 ^ k := Nat.pow_pos (by omega)
          refine Dm.lowd_eq k m ?_ HK.out
          rw [Nat.div_eq_zero_iff] at hqq
          omega
        have hnl : Hid (Dm.nd m = k) := by show (Dm.dg m).length = k; rw [← hfin.out, Dm.lowd_length]
        have HB3 := HB
        clear hqq
        go_wp2
        go_ret
        refine ⟨a, c, by rw [Dm.dg_length, hnl.out]; rfl, ?_, HB3.out⟩
        have h2 := IntC.of_own HO.out
        rw [hfin.out] at h2
        rw [Dm.dg_length, hnl.out]
        exact h2
      · rw [hqq]
        have hlow : Dm.lowd (k + 1) m = Dm.lowd k m ++ [((qq % 10 : Nat) : Int)] := by rw [Dm.lowd_snoc, hqq]
        have hnx : m / 10 ^ (k + 1) = qq / 10 := by rw [Nat.pow_succ, ← Nat.div_div_eq_div_mul, hqq]
        have hge : 10 ^ k ≤ m := (Nat.div_pos_iff.1 (by rw [hqq]; exact hp : 0 < m / 10 ^ k)).2
        have HLW := Lib.hid hlow
        have HNX := Lib.hid hnx
        have HGE := Lib.hid hge
        clear hqq hlow hnx hge
        have ht : (-(qq : Int)).tmod 10 = -((qq % 10 : Nat) : Int) := by rw [Int.neg_tmod, Int.tmod_eq_emod_of_nonneg (by omega)]; omega
        have hd : (-(qq : Int)).tdiv 10 = -((qq / 10 : Nat) : Int) := by rw [Int.neg_tdiv, Int.tdiv_eq_ediv_of_nonneg (by omega)]; omega
        have hne : (-(qq : Int) != 0) = true := by simp; omega
        obtain ⟨r, hr⟩ : ∃ r : Nat, qq % 10 = r := ⟨_, rfl⟩
        have hr9 : r ≤ 9 := by omega
        rw [hr] at ht HLW
        have HR := Lib.hid hr
        clear hr
        rcases Nat.eq_zero_or_pos r with hr0 | hrp
        · subst hr0
          go_wp2_with (at_builtin; refine wpList_append_src _ rfl (.tmp 13) (.tmp 15) 53 53 rfl w.heap.size 3 i0 (.int .i64 0) 1 8 Tryd.underlying53 HI0.out HZ0.out HZ1.out HZ2.out rfl (.slice a k c) k (ic (Dm.lowd k m)) rfl (HO.out.alloc _) _ 1 (ic [((0 : Nat) : Int)]) rfl ?qsn1 ?qan1 ?qbn1 ?qcn1 ?_)
          case qsn1 => exact lit_src wr _
          case qan1 => unfold maxLen; omega
          case qbn1 => omega
          case qcn1 => simp; omega
          intro v2 w2 hown hgrow hat
          have hbel := (HB.out.alloc hsz _).grown hgrow (by simp; omega) (fun i hi => (HO.out.lt i hi).1)
          have hown2 : w2.ownsRow w.heap.size 3 1 v2 (k + 1) (ic (Dm.lowd (k + 1) m)) := by
            rw [HLW.out, ic_append]; exact hown
          obtain ⟨a2, c2, hv2⟩ : ∃ a2 c2, v2 = .slice a2 (k + 1) c2 := by
            obtain ⟨a2, c2, e⟩ := (IntC.of_own hown2).form
            rw [Dm.lowd_length] at e; exact ⟨a2, c2, e⟩
          rw [hv2] at hown2 ⊢
          have HO2 := Lib.hid hown2
          have HB2 := Lib.hid hbel
          clear hown hgrow hat hbel hown2 hv2
          go_wp2
          go_roundw
          case rel => exact ⟨k + 1, a2, c2, by rw [HNX.out]; simp [hd], rfl, .inr HGE.out, HO2, HB2⟩
          case measure => simp [intOf]; omega
        · have hlt0 : decide (-(r : Int) < 0) = true := by simp; omega
          go_wp2_with (at_builtin; refine wpList_append_src _ rfl (.tmp 13) (.tmp 15) 53 53 rfl w.heap.size 3 i0 (.int .i64 0) 1 8 Tryd.underlying53 HI0.out HZ0.out HZ1.out HZ2.out rfl (.slice a k c) k (ic (Dm.lowd k m)) rfl (HO.out.alloc _) _ 1 (ic [(r : Int)]) rfl ?qsn2 ?qan2 ?qbn2 ?qcn2 ?_)
          case qsn2 => exact lit_src wr _
          case qan2 => unfold maxLen; omega
          case qbn2 => omega
          case qcn2 => simp; omega
          intro v2 w2 hown hgrow hat
          have hbel := (HB.out.alloc hsz _).grown hgrow (by simp; omega) (fun i hi => (HO.out.lt i hi).1)
          have hown2 : w2.ownsRow w.heap.size 3 1 v2 (k + 1) (ic (Dm.lowd (k + 1) m)) := by
            rw [HLW.out, ic_append]; exact hown
          obtain ⟨a2, c2, hv2⟩ : ∃ a2 c2, v2 = .slice a2 (k + 1) c2 := by
            obtain ⟨a2, c2, e⟩ := (IntC.of_own hown2).form
            rw [Dm.lowd_length] at e; exact ⟨a2, c2, e⟩
          rw [hv2] at hown2 ⊢
          have HO2 := Lib.hid hown2
          have HB2 := Lib.hid hbel
          clear hown hgrow hat hbel hown2 hv2
          go_wp2
          go_roundw
          case rel => exact ⟨k + 1, a2, c2, by rw [HNX.out]; simp [hd], rfl, .inr HGE.out, HO2, HB2⟩
          case measure => simp [intOf]; omega

theorem ref_of (n : Int) (w : World) (hn : -9223372036854775808 ≤ n ∧ n ≤ 9223372036854775807) : Calls Tryd.prog 45 #[.int .i64 n] w (Made (Dm.dg n.natAbs) w) := by
  by_cases h : n < 0
  · obtain ⟨m, rfl⟩ : ∃ m : Nat, n = -(m : Int) := ⟨n.natAbs, by omega⟩
    rw [show (-(m : Int)).natAbs = m by omega]
    exact ref_of_neg m w (by omega)
  · obtain ⟨m, rfl⟩ : ∃ m : Nat, n = (m : Int) := ⟨n.natAbs, by omega⟩
    rw [show ((m : Int)).natAbs = m by omega]
    exact ref_of_pos m w (by omega)

end Go.Proofs.YtgkjgaelclfffaaDoor
