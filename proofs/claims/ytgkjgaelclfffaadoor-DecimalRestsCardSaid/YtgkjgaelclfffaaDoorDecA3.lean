/- Package decimal: shifted, signed. -/
import Derived.Test.YtgkjgaelclfffaaDoorDecA2
namespace Go.Proofs.YtgkjgaelclfffaaDoor
open Go.RowKit

theorem below_undrew {B : Nat} {w w' : World} (h : Below B w.drew w') : Below B w w' := ⟨h.os, h.tape, h.output, h.size, h.block⟩
theorem pow10_lt (k : Nat) (h : k ≤ 19) : 10 ^ k < 18446744073709551616 := Nat.lt_of_le_of_lt (pow10_le k h) (by decide)

theorem dec_power_x (k : Nat) (x : Int) (w : World) (hx : x = (k : Int)) (hk : k ≤ 19) : Calls Tryd.prog 50 #[.int .i64 x] w fun e w' => e = .returned (.int .u64 ((10 ^ k : Nat) : Int)) ∧ w = w' := by
  subst hx; exact dec_power k w hk

set_option maxHeartbeats 400000 in
theorem dec_shifted_neg (h l n k : Nat) (x : Int) (w : World) (hw : Wd h l n) (hx : x = -(k : Int)) (h1 : 1 ≤ k) (hk : k ≤ 19) :
    Calls Tryd.prog 54 #[.agg #[.int .u64 (h : Int), .int .u64 (l : Int)], .int .i64 x] w (WideR (rnd n (10 ^ k)) w) := by
  subst hx
  have HP := Lib.hid (dec_power_x k · · · hk)
  have HR := Lib.hid (dec_rounded h l n (10 ^ k) · hw (Nat.pow_pos (by omega)) (pow10_lt k hk))
  have hneg : decide (-(k : Int) < 0) = true := by simp; omega
  have hneg' : -(k : Int) < 0 := by omega
  clear hw
  revert HP HR
  generalize 10 ^ k = p
  intro HP HR
  go_enter Tryd.func54, Tryd.ntmps54
  go_upto_region 2 with (fail)
  go_region_with (first
    | (go_at_call 50; refine (HP.out _ _ (by first | omega | (rw [IntKind.wrap_i64]; omega))).mono ?_; rintro e w1 ⟨rfl, rfl⟩)
    | (go_at_call 57; refine (HR.out _).mono ?_; rintro e w1 ⟨h1, l1, rfl, hwd, hbl⟩; have HW := Lib.hid hwd; have HBL := Lib.hid hbl; obtain ⟨hc, hf⟩ := bcell hbl; have hz : w.heap.size + 1 < w1.heap.size := (by have := hbl.size; simp at this; omega); clear hwd hbl))
  all_goals
    go_wp2
    refine bodyPost_ret (v := .agg #[.int .u64 (h1 : Int), .int .u64 (l1 : Int)]) (by simp [results, Tryd.results54, go_sem, hc, hz]) rfl ⟨h1, l1, rfl, HW.out, ?_⟩
    exact ((((((Below.refl _ _).alloc (Nat.le_refl _) _).alloc (by simp) _).trans ((below_undrew HBL.out).mono (by simp; omega))).setCell (by simp) _).setCell (by simp) _)

set_option maxHeartbeats 400000 in
theorem dec_shifted_big (h l n : Nat) (x : Int) (w : World) (hw : Wd h l n) (hx : 0 ≤ x) (h0 : 0 < h) :
    Calls Tryd.prog 54 #[.agg #[.int .u64 (h : Int), .int .u64 (l : Int)], .int .i64 x] w (WideR n w) := by
  have HW := Lib.hid hw
  have q0 : decide (x < 0) = false := by simp; omega
  have q1 : ((h : Int) != 0) = true := by simp; omega
  have q2 : ((h : Int) == 0) = false := by simp; omega
  clear hw
  go_enter Tryd.func54, Tryd.ntmps54
  go_wp2
  refine bodyPost_ret (v := .agg #[.int .u64 (h : Int), .int .u64 (l : Int)]) (by simp [results, Tryd.results54, go_sem]) rfl ⟨h, l, rfl, HW.out, ?_⟩
  exact ((Below.refl _ _).alloc (Nat.le_refl _) _).alloc (by simp) _

set_option maxHeartbeats 400000 in
theorem dec_shifted_pos (l k : Nat) (x : Int) (w : World) (hl : l < 18446744073709551616) (hx : x = (k : Int)) (hk : k ≤ 19) :
    Calls Tryd.prog 54 #[.agg #[.int .u64 0, .int .u64 (l : Int)], .int .i64 x] w (WideR (l * 10 ^ k) w) := by
  subst hx
  have HP := Lib.hid (dec_power k · hk)
  have HR := Lib.hid (dec_product l (10 ^ k) · hl (pow10_lt k hk))
  have q0 : decide ((k : Int) < 0) = false := by simp
  clear hl
  revert HP HR
  generalize 10 ^ k = p
  intro HP HR
  go_enter Tryd.func54, Tryd.ntmps54
  go_upto_region 5 with (fail)
  go_region_with (first
    | (go_at_call 50; refine (HP.out _).mono ?_; rintro e w1 ⟨rfl, rfl⟩)
    | (go_at_call 49; refine (HR.out _).mono ?_; rintro e w1 ⟨h1, l1, rfl, hwd, hbl⟩; have HW := Lib.hid hwd; have HBL := Lib.hid hbl; obtain ⟨hc, hf⟩ := bcell hbl; have hz : w.heap.size + 1 < w1.heap.size := (by have := hbl.size; simp at this; omega); clear hwd hbl))
  all_goals
    go_wp2
    refine bodyPost_ret (v := .agg #[.int .u64 (h1 : Int), .int .u64 (l1 : Int)]) (by simp [results, Tryd.results54, go_sem, hc, hz]) rfl ⟨h1, l1, rfl, HW.out, ?_⟩
    exact ((((((Below.refl _ _).alloc (Nat.le_refl _) _).alloc (by simp) _).trans ((below_undrew HBL.out).mono (by simp; omega))).setCell (by simp) _).setCell (by simp) _)

theorem ret_ii {a b c d : Int} (h : a = c) (h2 : b = d) : Ending.returned (.tuple #[.int .i64 a, .int .i64 b]) = Ending.returned (.tuple #[.int .i64 c, .int .i64 d]) := by rw [h, h2]

set_option maxHeartbeats 400000 in
theorem dec_signed (h l n : Nat) (minus : Bool) (w : World) (hw : Wd h l n) :
    Calls Tryd.prog 55 #[.agg #[.int .u64 (h : Int), .int .u64 (l : Int)], .bool minus] w (Ans (ansV n minus) w) := by
  obtain ⟨h1, h2, h3⟩ := hw
  have il : (l : Int) ≤ 18446744073709551615 := by omega
  by_cases h0 : h = 0
  · subst h0
    have hn : l = n := by omega
    subst hn
    clear h1 h2 h3
    cases minus
    · by_cases hle : (l : Int) ≤ 9223372036854775807
      · have hm : ansV l false = ((l : Int), 0) := by unfold ansV; rw [if_neg (by decide), if_pos (by omega)]
        have HM := Lib.hid hm
        clear hm
        go_enter Tryd.func55, Tryd.ntmps55
        go_wp2
        go_ret2
        exact ⟨by rw [HM.out]; rfl, (Below.refl _ _).alloc (Nat.le_refl _) _⟩
      · have hm : ansV l false = (0, 20) := by unfold ansV; rw [if_neg (by decide), if_neg (by omega)]
        have HM := Lib.hid hm
        clear hm
        go_enter Tryd.func55, Tryd.ntmps55
        go_wp2
        go_ret2
        exact ⟨by rw [HM.out]; rfl, (Below.refl _ _).alloc (Nat.le_refl _) _⟩
    · by_cases hle : (l : Int) ≤ 9223372036854775808
      · have hm : ansV l true = (-(l : Int), 0) := by unfold ansV; rw [if_pos rfl, if_pos (by omega)]
        have HM := Lib.hid hm
        clear hm
        go_enter Tryd.func55, Tryd.ntmps55
        go_wp2
        go_ret2
        exact ⟨by rw [HM.out]; exact ret_ii (by simp only [IntKind.wrap_u64, wrap64]; omega) rfl, (Below.refl _ _).alloc (Nat.le_refl _) _⟩
      · have hm : ansV l true = (0, 20) := by unfold ansV; rw [if_pos rfl, if_neg (by omega)]
        have HM := Lib.hid hm
        clear hm
        go_enter Tryd.func55, Tryd.ntmps55
        go_wp2
        go_ret2
        exact ⟨by rw [HM.out]; rfl, (Below.refl _ _).alloc (Nat.le_refl _) _⟩
  · have hm : ansV n minus = (0, 20) := by
      have hb : 18446744073709551616 ≤ n := by omega
      unfold ansV; cases minus
      · rw [if_neg (by decide), if_neg (by omega)]
      · rw [if_pos rfl, if_neg (by omega)]
    have HM := Lib.hid hm
    have q1 : ((h : Int) != 0) = true := by simp; omega
    have q2 : ((h : Int) == 0) = false := by simp; omega
    clear hm h1 h2 h3
    cases minus
    all_goals
      go_enter Tryd.func55, Tryd.ntmps55
      go_wp2
      go_ret2
      exact ⟨by rw [HM.out]; rfl, (Below.refl _ _).alloc (Nat.le_refl _) _⟩
end Go.Proofs.YtgkjgaelclfffaaDoor
