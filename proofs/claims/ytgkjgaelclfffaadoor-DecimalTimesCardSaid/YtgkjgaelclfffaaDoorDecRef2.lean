/- The reference of layer 2: trim, Cmp, Shift on digits. -/
import Derived.Test.YtgkjgaelclfffaaDoorDecRef1
namespace Go.Proofs.YtgkjgaelclfffaaDoor
open Go.RowKit

theorem nat_ne (t : Nat) (h : t ≠ 0) : ((t : Int) == 0) = false := by simp; omega

/-- what trim leaves -/
def Trimmed (m : Nat) (w : World) (e : Ending) (w' : World) : Prop := ∃ a c, e = .returned (.slice a (Dm.nd m) c) ∧ IntC (.slice a (Dm.nd m) c) (Dm.dg m) w ∧ w = w'

set_option maxHeartbeats 1000000 in
set_option maxRecDepth 100000 in
theorem ref_trim (a : Option Addr) (c k m : Nat) (w : World) (h : IntC (.slice a k c) (Dm.lowd k m) w) (hm : m < 10 ^ k) (hk : k ≤ 1000) : Calls Tryd.prog 38 #[.slice a k c] w (Trimmed m w) := by
  rcases Nat.eq_zero_or_pos k with hk0 | hkp
  · subst hk0
    obtain rfl : m = 0 := by simpa using hm
    have hz : Dm.nd 0 = 0 := Dm.nd_zero
    go_enter Tryd.func38, Tryd.ntmps38
    go_wp2
    go_loop [0] (fun v => v = .slice a 0 c) (fun _ => 0)
    case atStart => rfl
    case round =>
      obtain rfl := hrel
      go_wp2
      go_ret
      exact ⟨a, c, by rw [Dm.nd_zero]; rfl, by rw [Dm.nd_zero, Dm.dg_zero]; exact .inl ⟨_, _, rfl, rfl⟩, rfl⟩
  · obtain ⟨g, off, rfl, hg, hc⟩ : ∃ g off, a = some ⟨g, off, none⟩ ∧ g < w.heap.size ∧ ∀ j, j < k → w.cell? ⟨g, off + j, none⟩ = some (.int .i64 ((m / 10 ^ j % 10 : Nat) : Int)) := by
      rcases h with ⟨a', c', e, he⟩ | ⟨g, off, cap, e, hc, hg, hcell⟩
      · simp only [Value.slice.injEq] at e; omega
      · simp only [Value.slice.injEq] at e
        obtain ⟨rfl, e2, rfl⟩ := e
        exact ⟨g, off, rfl, hg, fun j hj => by rw [hcell j (by omega), Dm.lowd_get _ _ _ hj]⟩
    have hcap : k ≤ c := by
      rcases h with ⟨a', c', e, he⟩ | ⟨g, off, cap, e, hc, hg, hcell⟩
      · simp only [Value.slice.injEq] at e; omega
      · simp only [Value.slice.injEq, Dm.lowd_length] at e hc; omega
    have HC := Lib.hid hc
    have HM := Lib.hid hm
    clear h hc hm
    go_enter Tryd.func38, Tryd.ntmps38
    go_wp2
    go_loop [0] (fun v => ∃ j : Nat, j ≤ k ∧ v = .slice (some ⟨g, off, none⟩) j c ∧ Hid (m < 10 ^ j)) (fun v => match v with | .slice _ n _ => n | _ => 0)
    case atStart => exact ⟨k, Nat.le_refl _, rfl, HM⟩
    case round =>
      obtain ⟨j, hj, rfl, HJ⟩ := hrel
      cases j with
      | zero =>
        have hm0 : m = 0 := by simpa using HJ.out
        go_wp2
        go_ret
        subst hm0
        exact ⟨_, c, by rw [Dm.nd_zero]; rfl, by rw [Dm.nd_zero, Dm.dg_zero]; exact .inl ⟨_, _, rfl, rfl⟩, rfl⟩
      | succ i =>
        have hci := HC.out i (by omega)
        have hpos : decide ((0 : Int) < (i : Int) + 1) = true := by rw [decide_eq_true_iff]; omega
        by_cases hz : m / 10 ^ i % 10 = 0
        · have HZ : Hid (m < 10 ^ i) := Dm.top_zero i m HJ.out hz
          rw [hz] at hci
          clear hz
          go_wp2
          go_round
          case rel => exact ⟨i, by omega, by simp, HZ⟩
          case measure => simp
        · have hzi : (((m / 10 ^ i % 10 : Nat) : Int) == 0) = false := nat_ne _ hz
          have hnd : Hid (Dm.lowd (i + 1) m = Dm.dg m) := Dm.lowd_eq _ _ HJ.out (.inr (by simpa using Dm.top_pos i m HJ.out hz))
          have hl : Hid (Dm.nd m = i + 1) := by show (Dm.dg m).length = i + 1; rw [← hnd.out, Dm.lowd_length]
          clear hz
          generalize (m / 10 ^ i % 10) = dd at *
          go_wp2
          go_ret
          refine ⟨_, c, by rw [hl.out]; rfl, ?_, rfl⟩
          rw [hl.out, ← hnd.out]
          refine .inr ⟨g, off, c, by rw [Dm.lowd_length], by rw [Dm.lowd_length]; omega, hg, fun j hj' => ?_⟩
          rw [Dm.lowd_length] at hj'
          rw [HC.out j (by omega), Dm.lowd_get _ _ _ hj']

set_option maxHeartbeats 1000000 in
set_option maxRecDepth 100000 in
theorem ref_cmp (a0 a1 : Option Addr) (c0 c1 A B : Nat) (w : World) (h0 : IntC (.slice a0 (Dm.nd A) c0) (Dm.dg A) w) (h1 : IntC (.slice a1 (Dm.nd B) c1) (Dm.dg B) w) (hA : Dm.nd A ≤ 1000) (hB : Dm.nd B ≤ 1000) :
    Calls Tryd.prog 52 #[.slice a0 (Dm.nd A) c0, .slice a1 (Dm.nd B) c1] w fun e w' => e = .returned (.int .i64 (Dm.cmp A B)) ∧ Below w.heap.size w w' := by
  rcases Nat.lt_trichotomy (Dm.nd A) (Dm.nd B) with hl | hl | hl
  · have hc : Dm.cmp A B = -1 := by unfold Dm.cmp; rw [if_pos (Dm.lt_of_nd _ _ hl)]
    have HC := Lib.hid hc
    clear hc h0 h1
    generalize Dm.nd A = n0 at *
    generalize Dm.nd B = n1 at *
    have hne : ((n0 : Int) != (n1 : Int)) = true := by simp; omega
    have hlt : decide ((n0 : Int) < (n1 : Int)) = true := by simp; omega
    go_enter Tryd.func52, Tryd.ntmps52
    go_wp2
    go_ret
    exact ⟨by rw [HC.out]; rfl, Below.refl _ _⟩
  · have hAB : A < 10 ^ Dm.nd A ∧ B < 10 ^ Dm.nd A := ⟨(Dm.nd_spec A).1, by rw [hl]; exact (Dm.nd_spec B).1⟩
    rw [← hl] at h1 ⊢
    clear hB
    have hd0 : ∀ j, j < Dm.nd A → (Dm.dg A).getD j 0 = ((A / 10 ^ j % 10 : Nat) : Int) := fun j hj => Dm.dg_get A j hj
    have hd1 : ∀ j, j < Dm.nd A → (Dm.dg B).getD j 0 = ((B / 10 ^ j % 10 : Nat) : Int) := fun j hj => Dm.dg_get B j (by omega)
    have H0 := Lib.hid h0
    have H1 := Lib.hid h1
    have HD0 := Lib.hid hd0
    have HD1 := Lib.hid hd1
    have HAB := Lib.hid hAB
    clear h0 h1 hd0 hd1 hAB hl
    generalize Dm.nd A = n at *
    have hne : ((n : Int) != (n : Int)) = false := by simp
    go_enter Tryd.func52, Tryd.ntmps52
    go_wp2
    go_loopw [5] (fun v wr => ∃ j : Nat, j ≤ n ∧ v = .int .i64 ((j : Int) - 1) ∧ Hid (A / 10 ^ j = B / 10 ^ j) ∧ Hid (Below w.heap.size w wr)) (fun v _ => (intOf v + 1).toNat)
    case atStart => exact ⟨n, Nat.le_refl _, rfl, by show _ = _; rw [Nat.div_eq_of_lt HAB.out.1, Nat.div_eq_of_lt HAB.out.2], Below.refl _ _⟩
    case round =>
      obtain ⟨j, hj, rfl, HE, HB⟩ := hrel
      cases j with
      | zero =>
        have hab : A = B := by simpa using HE.out
        have hc : Dm.cmp A B = 0 := by subst hab; simp [Dm.cmp]
        have HC := Lib.hid hc
        clear hc hab
        go_wp2
        go_ret
        exact ⟨by rw [HC.out]; rfl, HB.out⟩
      | succ i =>
        have hj1 : (((i + 1 : Nat) : Int) - 1) = (i : Int) := by omega
        rw [hj1]
        clear hj1
        obtain ⟨g0, o0, rfl, hg0, hc0⟩ := (H0.out.keep HB.out).at i (by omega)
        obtain ⟨g1, o1, rfl, hg1, hc1⟩ := (H1.out.keep HB.out).at i (by omega)
        rw [HD0.out i (by omega)] at hc0
        rw [HD1.out i (by omega)] at hc1
        have hi0 : (0 : Int) ≤ (i : Int) := by omega
        have hi1 : (i : Int) < (n : Int) := by omega
        have hlt3 := Dm.cmp_digit_lt A B i HE.out
        have hgt3 := Dm.cmp_digit_lt B A i HE.out.symm
        have heq3 := Dm.cmp_digit_eq A B i HE.out
        generalize A / 10 ^ i % 10 = x at *
        generalize B / 10 ^ i % 10 = y at *
        rcases Nat.lt_trichotomy x y with hxy | hxy | hxy
        · have hc : Dm.cmp A B = -1 := by unfold Dm.cmp; rw [if_pos (hlt3 hxy)]
          have HC := Lib.hid hc
          have q1 : decide ((x : Int) < (y : Int)) = true := by simp; omega
          have q2 : decide (x < y) = true := by simp; omega
          clear hc hlt3 hgt3 heq3
          go_wp2
          go_quiet (fail)
          go_wp2
          go_ret
          exact ⟨by rw [HC.out]; rfl, by first | exact below_drewN HB.out _ | exact below_drewN (below_drewN HB.out _) _⟩
        · subst hxy
          have HEQ := Lib.hid (heq3 rfl)
          have q1 : decide ((x : Int) < (x : Int)) = false := by simp
          clear hlt3 hgt3 heq3
          go_wp2
          go_quiet (fail)
          go_wp2
          go_quiet (fail)
          go_wp2
          go_roundw
          case rel => exact ⟨i, by omega, by go_num, HEQ, below_drewN HB.out _⟩
          case measure => simp [intOf]
        · have hc : Dm.cmp A B = 1 := by unfold Dm.cmp; rw [if_neg (by have := hgt3 hxy; omega), if_pos (hgt3 hxy)]
          have HC := Lib.hid hc
          have q1 : decide ((x : Int) < (y : Int)) = false := by simp; omega
          have q2 : decide (x < y) = false := by simp; omega
          have q3 : decide ((y : Int) < (x : Int)) = true := by simp; omega
          have q4 : decide (y < x) = true := by simp; omega
          clear hc hlt3 hgt3 heq3
          go_wp2
          go_quiet (fail)
          go_wp2
          go_quiet (fail)
          go_wp2
          go_ret
          exact ⟨by rw [HC.out]; rfl, by first | exact below_drewN HB.out _ | exact below_drewN (below_drewN HB.out _) _⟩
  · have hc : Dm.cmp A B = 1 := by unfold Dm.cmp; have := Dm.lt_of_nd _ _ hl; rw [if_neg (by omega), if_pos this]
    have HC := Lib.hid hc
    clear hc h0 h1
    generalize Dm.nd A = n0 at *
    generalize Dm.nd B = n1 at *
    have hne : ((n0 : Int) != (n1 : Int)) = true := by simp; omega
    have hlt : decide ((n0 : Int) < (n1 : Int)) = false := by simp; omega
    have hlt2 : decide (n0 < n1) = false := by simp; omega
    go_enter Tryd.func52, Tryd.ntmps52
    go_wp2
    go_ret
    exact ⟨by rw [HC.out]; rfl, Below.refl _ _⟩

end Go.Proofs.YtgkjgaelclfffaaDoor
