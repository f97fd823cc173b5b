/- Package decimal: divided, rounded, shifted, signed. -/
import Derived.Test.YtfnnhhhkdfgefaaGreatDoorDecA1
import Derived.Deep.RegionWith
import Derived.Deep.RegionHeld3
import Derived.Laws.Externs
namespace Go.Proofs.YtfnnhhhkdfgefaaGreatDoor
open Go.RowKit

/-- what divided leaves -/
def DivR (q r : Nat) (w : World) (e : Ending) (w' : World) : Prop :=
  ∃ h l : Nat, e = .returned (.tuple #[.agg #[.int .u64 (h : Int), .int .u64 (l : Int)], .int .u64 (r : Int)]) ∧ Wd h l q ∧ Below w.heap.size w w'
/-- the quotient in two words -/
theorem div_words (h l b : Nat) (hb : 0 < b) (_hb2 : b < 18446744073709551616) (hh : h < 18446744073709551616) (hl : l < 18446744073709551616) :
    Wd (h / b) ((h % b * 18446744073709551616 + l) / b) ((h * 18446744073709551616 + l) / b) ∧ (h % b * 18446744073709551616 + l) % b = (h * 18446744073709551616 + l) % b := by
  have hm := Nat.mod_lt h hb
  have hd := Nat.div_add_mod h b
  have e : h * 18446744073709551616 + l = b * (h / b * 18446744073709551616) + (h % b * 18446744073709551616 + l) := by
    rw [← Nat.mul_assoc]; omega
  have hq : (h % b * 18446744073709551616 + l) / b < 18446744073709551616 := by rw [Nat.div_lt_iff_lt_mul hb]; omega
  refine ⟨⟨?_, Nat.lt_of_le_of_lt (Nat.div_le_self _ _) hh, hq⟩, ?_⟩
  · conv => rhs; rw [e, Nat.mul_add_div hb]
  · conv => rhs; rw [e, Nat.mul_add_mod]
theorem div64' (x : Int) (h l y q r : Nat) (w : World) (hx : x = (h : Int)) (hy : h < y) (hy64 : y < 18446744073709551616) (hl : l < 18446744073709551616) (hq : (h * 18446744073709551616 + l) / y = q) (hr : (h * 18446744073709551616 + l) % y = r) :
    Calls Tryz.prog 128 #[.int .u64 x, .int .u64 (l : Int), .int .u64 (y : Int)] w fun e w' => e = .returned (.tuple #[.int .u64 (q : Int), .int .u64 (r : Int)]) ∧ ∃ n, w' = w.drewN n := by
  subst hx hq hr; exact div64 h l y w hy (by omega) (by omega)
set_option maxHeartbeats 400000 in
theorem dec_divided (h l n b : Nat) (w : World) (hw : Wd h l n) (hb : 0 < b) (hb2 : b < 18446744073709551616) :
    Calls Tryz.prog 111 #[.agg #[.int .u64 (h : Int), .int .u64 (l : Int)], .int .u64 (b : Int)] w (DivR (n / b) (n % b) w) := by
  obtain ⟨hn, hh, hl⟩ := hw
  obtain ⟨d1, d2⟩ := div_words h l b hb hb2 hh hl
  rw [hn] at d1 d2
  obtain ⟨q, hq⟩ : ∃ q : Nat, (h % b * 18446744073709551616 + l) / b = q := ⟨_, rfl⟩
  rw [hq] at d1
  obtain ⟨r, hr⟩ : ∃ r : Nat, n % b = r := ⟨_, rfl⟩
  rw [hr] at d2 ⊢
  clear hr
  have hhb : h % b < b := Nat.mod_lt _ hb
  have H1 := Lib.hid d1; have H2 := Lib.hid d2; have HB := Lib.hid (And.intro hhb (And.intro hb2 (And.intro hl hq)))
  have i0 : (h : Int) ≤ 18446744073709551615 := by omega
  have i1 : (1 : Int) ≤ (b : Int) := by omega
  clear d1 d2 hn hh hl hb2 hhb hq
  go_enter Tryz.func111, Tryz.ntmps111
  go_upto_region 2 with (fail)
  rw [show (h : Int) / (b : Int) = ((h / b : Nat) : Int) from rfl, Dv.wrap_lt _ (Nat.lt_of_le_of_lt (Nat.div_le_self _ _) (by omega))]
  go_quiet ((go_at_call 128; exact Calls.quiet_of (div64' _ (h % b) l b q r _ rfl HB.out.1 HB.out.2.1 HB.out.2.2.1 HB.out.2.2.2 H2.out)))
  revert H1
  generalize h / b = p
  intro H1
  go_wp2
  exact bodyPost_ret (v := .tuple #[.agg #[.int .u64 (p : Int), .int .u64 (q : Int)], .int .u64 (r : Int)]) (by simp [results, Tryz.results111, go_sem]) rfl ⟨p, q, rfl, H1.out, ((below_n (((Below.refl _ _).alloc (Nat.le_refl _) _).alloc (by simp) _) _).setCell (by simp) _).setCell (by simp) _⟩
theorem bcell {W w1 : World} (hb : Below W.heap.size W w1) : (∀ b o, b < W.heap.size → w1.cell? ⟨b, o, none⟩ = W.cell? ⟨b, o, none⟩) ∧ (∀ b o, b < W.heap.size → w1.frozen? ⟨b, o, none⟩ = W.frozen? ⟨b, o, none⟩) :=
  ⟨fun b o h => hb.cell (p := ⟨b, o, none⟩) h, fun b o h => hb.frozen (p := ⟨b, o, none⟩) h⟩
/-- math/bits.Add64 at one more -/
theorem add64_run (x c l : Nat) (_hc : c ≤ 1) (h : x + 1 = c * 18446744073709551616 + l) (hx : x < 18446744073709551616) (hl : l < 18446744073709551616) (w : World) :
    (callFunc 112 #[.int .u64 (x : Int), .int .u64 1, .int .u64 0]).run Tryz.prog w = .ok (.value (.tuple #[.int .u64 (l : Int), .int .u64 (c : Int)])) w := by
  rw [run_callFunc_extern Tryz.func112 (by kernel_rfl) (by kernel_rfl) (by kernel_rfl) (e := add64Entry) (by kernel_rfl)]
  rw [run_add64 (P := Tryz.prog) (x : Int) 1 0 (by omega) (by omega) (by omega) (by omega) w]
  have e1 : ((x : Int) + 1 + 0) % 18446744073709551616 = (l : Int) := by omega
  have e2 : ((x : Int) + 1 + 0) / 18446744073709551616 = (c : Int) := by omega
  rw [e1, e2]
  rfl
set_option maxHeartbeats 400000 in
theorem dec_rounded_no (h l n b : Nat) (w : World) (hw : Wd h l n) (hb : 0 < b) (hb2 : b < 18446744073709551616) (hr : 2 * (n % b) < b) :
    Calls Tryz.prog 92 #[.agg #[.int .u64 (h : Int), .int .u64 (l : Int)], .int .u64 (b : Int)] w (WideR (rnd n b) w) := by
  have hm : rnd n b = n / b := by unfold rnd; rw [if_neg (by omega)]
  rw [hm]
  have HC := Lib.hid (dec_divided h l n b · hw hb hb2)
  have ib : (b : Int) ≤ 18446744073709551615 := by omega
  have ir : (2 : Int) * ((n % b : Nat) : Int) < (b : Int) := by omega
  clear hm hw hb2 hr
  revert HC ir
  generalize n / b = q
  generalize n % b = r
  intro HC ir
  go_enter Tryz.func92, Tryz.ntmps92
  go_wp2_with fail
  refine (HC.out _).mono ?_
  rintro e w1 ⟨h1, l1, rfl, hwd, hbl⟩
  have HW := Lib.hid hwd; have HBL := Lib.hid hbl
  obtain ⟨hc, hf⟩ := bcell hbl
  have hz : w.heap.size + 1 < w1.heap.size := by have := hbl.size; simp at this; omega
  clear hwd hbl HC
  go_wp2
  refine bodyPost_ret (v := .agg #[.int .u64 (h1 : Int), .int .u64 (l1 : Int)]) (by simp [results, Tryz.results92, go_sem, hc, hz]) rfl ⟨h1, l1, rfl, HW.out, ?_⟩
  exact ((((((Below.refl _ _).alloc (Nat.le_refl _) _).alloc (by simp) _).trans (HBL.out.mono (by simp; omega))).setCell (by simp) _).setCell (by simp) _).alloc (by simp; omega) _
theorem more_aux (T h l q k m : Nat) (a : h * T + l = q) (h2 : l + 1 = k * T + m) : (h + k) * T + m = q + 1 := by rw [Nat.add_mul]; omega
/-- one more -/
theorem Wd.more {h l q : Nat} (H : Wd h l q) (hq : q + 1 < 340282366920938463463374607431768211456) : ∃ c l2 : Nat, c ≤ 1 ∧ l + 1 = c * 18446744073709551616 + l2 ∧ l2 < 18446744073709551616 ∧ Wd (h + c) l2 (q + 1) := by
  obtain ⟨a, b, c⟩ := H
  obtain ⟨k, hk⟩ : ∃ k, k = (l + 1) / 18446744073709551616 := ⟨_, rfl⟩
  obtain ⟨m, hm⟩ : ∃ m, m = (l + 1) % 18446744073709551616 := ⟨_, rfl⟩
  have h1 : k ≤ 1 := by omega
  have h2 : l + 1 = k * 18446744073709551616 + m := by omega
  have h3 : m < 18446744073709551616 := by omega
  have h5 : (h + k) * 18446744073709551616 + m = q + 1 := more_aux _ h l q k m a h2
  have h6 : h + k < 18446744073709551616 := by
    have h7 : (h + k) * 18446744073709551616 < 18446744073709551616 * 18446744073709551616 := Nat.lt_of_le_of_lt (Nat.le_of_add_right_le (Nat.le_of_eq h5)) hq
    exact Nat.lt_of_mul_lt_mul_right h7
  have h4 : Wd (h + k) m (q + 1) := ⟨h5, h6, h3⟩
  exact ⟨k, m, h1, h2, h3, h4⟩
set_option maxHeartbeats 400000 in
theorem dec_rounded_yes (h l n b : Nat) (w : World) (hw : Wd h l n) (hb : 0 < b) (hb2 : b < 18446744073709551616) (hr : b ≤ 2 * (n % b)) :
    Calls Tryz.prog 92 #[.agg #[.int .u64 (h : Int), .int .u64 (l : Int)], .int .u64 (b : Int)] w (WideR (rnd n b) w) := by
  have hm : rnd n b = n / b + 1 := by unfold rnd; rw [if_pos (by omega)]
  rw [hm]
  have hlt := Nat.mod_lt n hb
  have HC := Lib.hid (dec_divided h l n b · hw hb hb2)
  have ib : (b : Int) ≤ 18446744073709551615 := by omega
  have ir : (b : Int) ≤ (2 : Int) * ((n % b : Nat) : Int) := by omega
  have ir2 : ((n % b : Nat) : Int) < (b : Int) := by omega
  have hq : n / b + 1 < 340282366920938463463374607431768211456 := by
    have h2 : 2 ≤ b := by omega
    have h3 : n / b ≤ n / 2 := Nat.div_le_div_left h2 (by omega)
    obtain ⟨a1, a2, a3⟩ := hw
    omega
  have HQ := Lib.hid hq
  clear hm hw hb2 hr hq hlt
  revert HC ir ir2 HQ
  generalize n / b = q
  generalize n % b = r
  intro HC ir ir2 HQ
  go_enter Tryz.func92, Tryz.ntmps92
  go_wp2_with fail
  refine (HC.out _).mono ?_
  rintro e w1 ⟨h1, l1, rfl, hwd, hbl⟩
  obtain ⟨c, l2, hc1, hl2, hl3, hwd2⟩ := hwd.more HQ.out
  have ha := add64_run l1 c l2 hc1 hl2 hwd.2.2 hl3
  have ihc : (h1 : Int) + (c : Int) ≤ 18446744073709551615 := by have := hwd2.2.1; omega
  have HW := Lib.hid hwd2; have HBL := Lib.hid hbl
  obtain ⟨hc, hf⟩ := bcell hbl
  have hz : w.heap.size + 1 < w1.heap.size := by have := hbl.size; simp at this; omega
  clear hwd hwd2 hl2 hl3 hbl HC
  go_wp2
  refine bodyPost_ret (v := .agg #[.int .u64 ((h1 + c : Nat) : Int), .int .u64 (l2 : Int)]) (by simp [results, Tryz.results92, go_sem, hc, hz]) rfl ⟨_, l2, rfl, HW.out, ?_⟩
  exact ((((((Below.refl _ _).alloc (Nat.le_refl _) _).alloc (by simp) _).trans (HBL.out.mono (by simp; omega))).setCell (by simp) _).setCell (by simp) _).alloc (by simp; omega) _
theorem dec_rounded (h l n b : Nat) (w : World) (hw : Wd h l n) (hb : 0 < b) (hb2 : b < 18446744073709551616) :
    Calls Tryz.prog 92 #[.agg #[.int .u64 (h : Int), .int .u64 (l : Int)], .int .u64 (b : Int)] w (WideR (rnd n b) w) := by
  by_cases hr : 2 * (n % b) < b
  · exact dec_rounded_no h l n b w hw hb hb2 hr
  · exact dec_rounded_yes h l n b w hw hb hb2 (by omega)
end Go.Proofs.YtfnnhhhkdfgefaaGreatDoor
/- Package decimal: shifted, signed. -/
namespace Go.Proofs.YtfnnhhhkdfgefaaGreatDoor
open Go.RowKit

theorem below_undrew {B : Nat} {w w' : World} (h : Below B w.drew w') : Below B w w' := ⟨h.os, h.tape, h.output, h.size, h.block⟩
theorem pow10_lt (k : Nat) (h : k ≤ 19) : 10 ^ k < 18446744073709551616 := Nat.lt_of_le_of_lt (pow10_le k h) (by decide)
theorem dec_power_x (k : Nat) (x : Int) (w : World) (hx : x = (k : Int)) (hk : k ≤ 19) : Calls Tryz.prog 61 #[.int .i64 x] w fun e w' => e = .returned (.int .u64 ((10 ^ k : Nat) : Int)) ∧ w = w' := by
  subst hx; exact dec_power k w hk
set_option maxHeartbeats 400000 in
theorem dec_shifted_neg (h l n k : Nat) (x : Int) (w : World) (hw : Wd h l n) (hx : x = -(k : Int)) (h1 : 1 ≤ k) (hk : k ≤ 19) :
    Calls Tryz.prog 71 #[.agg #[.int .u64 (h : Int), .int .u64 (l : Int)], .int .i64 x] w (WideR (rnd n (10 ^ k)) w) := by
  subst hx
  have HP := Lib.hid (dec_power_x k · · · hk)
  have HR := Lib.hid (dec_rounded h l n (10 ^ k) · hw (Nat.pow_pos (by omega)) (pow10_lt k hk))
  have hneg : decide (-(k : Int) < 0) = true := by simp; omega
  have hneg' : -(k : Int) < 0 := by omega
  clear hw
  revert HP HR
  generalize 10 ^ k = p
  intro HP HR
  go_enter Tryz.func71, Tryz.ntmps71
  go_upto_region 2 with (fail)
  go_region_with (first
    | (go_at_call 61; refine (HP.out _ _ (by first | omega | (rw [IntKind.wrap_i64]; omega))).mono ?_; rintro e w1 ⟨rfl, rfl⟩)
    | (go_at_call 92; refine (HR.out _).mono ?_; rintro e w1 ⟨h1, l1, rfl, hwd, hbl⟩; have HW := Lib.hid hwd; have HBL := Lib.hid hbl; obtain ⟨hc, hf⟩ := bcell hbl; have hz : w.heap.size + 1 < w1.heap.size := (by have := hbl.size; simp at this; omega); clear hwd hbl))
  all_goals
    go_wp2
    refine bodyPost_ret (v := .agg #[.int .u64 (h1 : Int), .int .u64 (l1 : Int)]) (by simp [results, Tryz.results71, go_sem, hc]) rfl ⟨h1, l1, rfl, HW.out, ?_⟩
    exact ((((((Below.refl _ _).alloc (Nat.le_refl _) _).alloc (by simp) _).trans ((below_undrew HBL.out).mono (by simp; omega))).setCell (by simp) _).setCell (by simp) _)
set_option maxHeartbeats 400000 in
theorem dec_shifted_big (h l n : Nat) (x : Int) (w : World) (hw : Wd h l n) (hx : 0 ≤ x) (h0 : 0 < h) :
    Calls Tryz.prog 71 #[.agg #[.int .u64 (h : Int), .int .u64 (l : Int)], .int .i64 x] w (WideR n w) := by
  have HW := Lib.hid hw
  have q0 : decide (x < 0) = false := by simp; omega
  have q1 : ((h : Int) != 0) = true := by simp; omega
  have q2 : ((h : Int) == 0) = false := by simp; omega
  clear hw
  go_enter Tryz.func71, Tryz.ntmps71
  go_wp2
  refine bodyPost_ret (v := .agg #[.int .u64 (h : Int), .int .u64 (l : Int)]) (by simp [results, Tryz.results71, go_sem]) rfl ⟨h, l, rfl, HW.out, ?_⟩
  exact ((Below.refl _ _).alloc (Nat.le_refl _) _).alloc (by simp) _
set_option maxHeartbeats 400000 in
theorem dec_shifted_pos (l k : Nat) (x : Int) (w : World) (hl : l < 18446744073709551616) (hx : x = (k : Int)) (hk : k ≤ 19) :
    Calls Tryz.prog 71 #[.agg #[.int .u64 0, .int .u64 (l : Int)], .int .i64 x] w (WideR (l * 10 ^ k) w) := by
  subst hx
  have HP := Lib.hid (dec_power k · hk)
  have HR := Lib.hid (dec_product l (10 ^ k) · hl (pow10_lt k hk))
  have q0 : decide ((k : Int) < 0) = false := by simp
  clear hl
  revert HP HR
  generalize 10 ^ k = p
  intro HP HR
  go_enter Tryz.func71, Tryz.ntmps71
  go_upto_region 5 with (fail)
  go_region_with (first
    | (go_at_call 61; refine (HP.out _).mono ?_; rintro e w1 ⟨rfl, rfl⟩)
    | (go_at_call 59; refine (HR.out _).mono ?_; rintro e w1 ⟨h1, l1, rfl, hwd, hbl⟩; have HW := Lib.hid hwd; have HBL := Lib.hid hbl; obtain ⟨hc, hf⟩ := bcell hbl; have hz : w.heap.size + 1 < w1.heap.size := (by have := hbl.size; simp at this; omega); clear hwd hbl))
  all_goals
    go_wp2
    refine bodyPost_ret (v := .agg #[.int .u64 (h1 : Int), .int .u64 (l1 : Int)]) (by simp [results, Tryz.results71, go_sem, hc]) rfl ⟨h1, l1, rfl, HW.out, ?_⟩
    exact ((((((Below.refl _ _).alloc (Nat.le_refl _) _).alloc (by simp) _).trans ((below_undrew HBL.out).mono (by simp; omega))).setCell (by simp) _).setCell (by simp) _)
theorem ret_ii {a b c d : Int} (h : a = c) (h2 : b = d) : Ending.returned (.tuple #[.int .i64 a, .int .i64 b]) = Ending.returned (.tuple #[.int .i64 c, .int .i64 d]) := by rw [h, h2]
set_option maxHeartbeats 400000 in
theorem dec_signed (h l n : Nat) (minus : Bool) (w : World) (hw : Wd h l n) :
    Calls Tryz.prog 72 #[.agg #[.int .u64 (h : Int), .int .u64 (l : Int)], .bool minus] w (Ans (ansV n minus) w) := by
  obtain ⟨h1, h2, h3⟩ := hw
  have il : (l : Int) ≤ 18446744073709551615 := by omega
  by_cases h0 : h = 0
  · subst h0
    have hn : l = n := by omega
    subst hn
    clear h1 h2 h3
    cases minus
    · by_cases hle : (l : Int) ≤ 9223372036854775807
      · have hm : ansV l false = ((l : Int), 0) := by unfold ansV; rw [if_neg (by decide), if_pos (by omega)]
        have HM := Lib.hid hm
        clear hm
        go_enter Tryz.func72, Tryz.ntmps72
        go_wp2
        go_ret2
        exact ⟨by rw [HM.out]; rfl, (Below.refl _ _).alloc (Nat.le_refl _) _⟩
      · have hm : ansV l false = (0, 20) := by unfold ansV; rw [if_neg (by decide), if_neg (by omega)]
        have HM := Lib.hid hm
        clear hm
        go_enter Tryz.func72, Tryz.ntmps72
        go_wp2
        go_ret2
        exact ⟨by rw [HM.out]; rfl, (Below.refl _ _).alloc (Nat.le_refl _) _⟩
    · by_cases hle : (l : Int) ≤ 9223372036854775808
      · have hm : ansV l true = (-(l : Int), 0) := by unfold ansV; rw [if_pos rfl, if_pos (by omega)]
        have HM := Lib.hid hm
        clear hm
        go_enter Tryz.func72, Tryz.ntmps72
        go_wp2
        go_ret2
        exact ⟨by rw [HM.out]; exact ret_ii (by simp only [IntKind.wrap_u64, wrap64]; omega) rfl, (Below.refl _ _).alloc (Nat.le_refl _) _⟩
      · have hm : ansV l true = (0, 20) := by unfold ansV; rw [if_pos rfl, if_neg (by omega)]
        have HM := Lib.hid hm
        clear hm
        go_enter Tryz.func72, Tryz.ntmps72
        go_wp2
        go_ret2
        exact ⟨by rw [HM.out]; rfl, (Below.refl _ _).alloc (Nat.le_refl _) _⟩
  · have hm : ansV n minus = (0, 20) := by
      have hb : 18446744073709551616 ≤ n := by omega
      unfold ansV; cases minus
      · rw [if_neg (by decide), if_neg (by omega)]
      · rw [if_pos rfl, if_neg (by omega)]
    have HM := Lib.hid hm
    have q1 : ((h : Int) != 0) = true := by simp; omega
    have q2 : ((h : Int) == 0) = false := by simp; omega
    clear hm h1 h2 h3
    cases minus
    all_goals
      go_enter Tryz.func72, Tryz.ntmps72
      go_wp2
      go_ret2
      exact ⟨by rw [HM.out]; rfl, (Below.refl _ _).alloc (Nat.le_refl _) _⟩
end Go.Proofs.YtfnnhhhkdfgefaaGreatDoor
/- Package decimal: allRight, compare; cmp.Or. -/
namespace Go.Proofs.YtfnnhhhkdfgefaaGreatDoor
open Go.RowKit

theorem below_drew {B : Nat} {a w : World} (h : Below B a w) : Below B a w.drew := h.trans ⟨rfl, rfl, rfl, Nat.le_refl _, fun _ _ => rfl⟩
/-- all are right -/
def allB (l : List Int) : Bool := l.all scB
set_option maxHeartbeats 400000 in
theorem dec_allRight (a : Option Addr) (n c : Nat) (l : List Int) (w : World) (hn : n = l.length) (h : IntC (.slice a n c) l w) (hl : n ≤ 10) :
    Calls Tryz.prog 57 #[.slice a n c] w fun e w' => e = .returned (.bool (allB l)) ∧ w = w' := by
  have HI := Lib.hid h; have HN := Lib.hid hn
  clear h hn
  go_enter Tryz.func57, Tryz.ntmps57
  go_wp2
  go_loop [7] (fun i => ∃ j : Nat, j ≤ n ∧ i = .int .i64 (j : Int) ∧ Hid (allB (l.take j) = true)) (fun i => n - (Lib.intOf i).toNat)
  case atStart => exact ⟨0, Nat.zero_le _, rfl, rfl⟩
  case round =>
    obtain ⟨j, hj, rfl, HA⟩ := hrel
    by_cases hlt : j < n
    · obtain ⟨g, off, rfl, hg, hcell⟩ := HI.out.at j hlt
      have ht : l.take (j + 1) = l.take j ++ [l.getD j 0] := by
        have : j < l.length := by rw [← HN.out]; exact hlt
        rw [List.take_succ_eq_append_getElem this]; simp [List.getD, this]
      have hall : allB (l.take (j + 1)) = scB (l.getD j 0) := by rw [ht]; unfold allB at *; rw [List.all_append, HA.out]; simp
      have hmem : l.getD j 0 ∈ l := by
        have : j < l.length := by rw [← HN.out]; exact hlt
        simp [List.getD, this]
      have HALL := Lib.hid hall; have HMEM := Lib.hid hmem
      clear ht hall hmem
      revert HALL HMEM hcell
      generalize l.getD j 0 = x
      intro hcell HALL HMEM
      go_wp2_with fail
      refine (dec_right x _).mono ?_
      rintro e w1 ⟨rfl, rfl⟩
      cases hs : scB x
      · have hfin : allB l = false := by
          cases hh : allB l
          · rfl
          · unfold allB at hh; rw [List.all_eq_true] at hh; rw [hh x HMEM.out] at hs; cases hs
        have HF := Lib.hid hfin
        clear hfin hs
        go_wp2
        go_ret
        exact ⟨by rw [HF.out]; rfl, rfl⟩
      · have HS := Lib.hid hs
        clear hs
        go_wp2
        go_round
        case rel => exact ⟨j + 1, by omega, by go_num, by show _ = _; rw [HALL.out, HS.out]⟩
        case measure => simp [Lib.intOf]; omega
    · have hfin : allB l = true := by
        have := HA.out
        rwa [List.take_of_length_le (by rw [← HN.out]; omega)] at this
      have HF := Lib.hid hfin
      clear hfin
      go_wp2
      go_ret
      exact ⟨by rw [HF.out]; rfl, rfl⟩
/-- the first that is not nought -/
def or2 (x y : Int) : Int := if x = 0 then y else x
set_option maxHeartbeats 400000 in
theorem cmp_or2 (g : Nat) (x y : Int) (w : World) (h0 : w.cell? ⟨g, 0, none⟩ = some (.int .i64 x)) (h1 : w.cell? ⟨g, 1, none⟩ = some (.int .i64 y)) :
    Calls Tryz.prog 44 #[.slice (some ⟨g, 0, none⟩) 2 2] w fun e w' => e = .returned (.int .i64 (or2 x y)) ∧ w = w' := by
  go_enter Tryz.func44, Tryz.ntmps44
  go_wp2_with fail
  go_loop [8] (fun i => ∃ j : Nat, j ≤ 2 ∧ i = .int .i64 (j : Int) ∧ Hid ((1 ≤ j → x = 0) ∧ (2 ≤ j → y = 0))) (fun i => 2 - (Lib.intOf i).toNat)
  case atStart => exact ⟨0, by omega, rfl, by omega, by omega⟩
  case round =>
    obtain ⟨j, hj, rfl, HJ⟩ := hrel
    have hj3 : j = 0 ∨ j = 1 ∨ j = 2 := by omega
    clear hj
    rcases hj3 with rfl | rfl | rfl
    · by_cases hx : x = 0
      · have HX := Lib.hid hx
        have q1 : (x == 0) = true := by simpa using hx
        have q2 : (x != 0) = false := by simpa using hx
        clear hx
        go_wp2
        go_round
        case rel => exact ⟨1, by omega, by go_num, by show _ ∧ _; exact ⟨fun _ => HX.out, fun h => by omega⟩⟩
        case measure => simp [Lib.intOf]
      · have hm : or2 x y = x := by unfold or2; rw [if_neg hx]
        have HM := Lib.hid hm
        have q1 : (x == 0) = false := by simpa using hx
        have q2 : (x != 0) = true := by simpa using hx
        clear hm hx
        go_wp2
        go_ret
        exact ⟨by rw [HM.out]; rfl, rfl⟩
    · have hx : x = 0 := HJ.out.1 (by omega)
      have hm : or2 x y = y := by unfold or2; rw [if_pos hx]
      have HM := Lib.hid hm
      have HX := Lib.hid hx
      clear hm hx
      by_cases hy : y = 0
      · have HY := Lib.hid hy
        have q1 : (y == 0) = true := by simpa using hy
        have q2 : (y != 0) = false := by simpa using hy
        clear hy
        go_wp2
        go_round
        case rel => exact ⟨2, by omega, by go_num, by show _ ∧ _; exact ⟨fun _ => HX.out, fun _ => HY.out⟩⟩
        case measure => simp [Lib.intOf]
      · have q1 : (y == 0) = false := by simpa using hy
        have q2 : (y != 0) = true := by simpa using hy
        clear hy
        go_wp2
        go_ret
        exact ⟨by rw [HM.out]; rfl, rfl⟩
    · have hm : or2 x y = 0 := by unfold or2; rw [if_pos (HJ.out.1 (by omega))]; exact HJ.out.2 (by omega)
      have HM := Lib.hid hm
      clear hm
      go_wp2
      go_ret
      exact ⟨by rw [HM.out]; rfl, rfl⟩
theorem cmp_of_lt {a b : Nat} (h : a < b) : Dm.cmp a b = -1 := by unfold Dm.cmp; rw [if_pos h]
theorem cmp_of_gt {a b : Nat} (h : b < a) : Dm.cmp a b = 1 := by unfold Dm.cmp; rw [if_neg (by omega), if_pos h]
theorem cmp_self (a : Nat) : Dm.cmp a a = 0 := by unfold Dm.cmp; rw [if_neg (by omega), if_neg (by omega)]
theorem or_cmp (h l n h' l' n' : Nat) (H : Wd h l n) (H' : Wd h' l' n') : or2 (Dm.cmp h h') (Dm.cmp l l') = Dm.cmp n n' := by
  obtain ⟨a, b, c⟩ := H
  obtain ⟨a', b', c'⟩ := H'
  rcases Nat.lt_trichotomy h h' with e | e | e
  · rw [cmp_of_lt e, cmp_of_lt (by omega : n < n')]; rfl
  · subst e
    rw [cmp_self]
    show Dm.cmp l l' = _
    rcases Nat.lt_trichotomy l l' with e | e | e
    · rw [cmp_of_lt e, cmp_of_lt (by omega : n < n')]
    · rw [show l' = l by omega, show n' = n by omega, cmp_self, cmp_self]
    · rw [cmp_of_gt e, cmp_of_gt (by omega : n' < n)]
  · rw [cmp_of_gt e, cmp_of_gt (by omega : n' < n)]; rfl
end Go.Proofs.YtfnnhhhkdfgefaaGreatDoor
/- Package decimal: compare of two numbers of 128 bits. -/
namespace Go.Proofs.YtfnnhhhkdfgefaaGreatDoor
open Go.RowKit

theorem cells2 (W : World) (g : Nat) (hg : g = W.heap.size) (a b : Value) (t : TypeId) : (W.alloc (.cells #[a, b] t)).cell? ⟨g, 0, none⟩ = some a ∧ (W.alloc (.cells #[a, b] t)).cell? ⟨g, 1, none⟩ = some b := by
  subst hg; exact ⟨by simp [World.cell?_alloc_new], by simp [World.cell?_alloc_new]⟩
theorem cells2d (W : World) (g : Nat) (hg : g = W.heap.size) (a b : Value) (t : TypeId) : (W.alloc (.cells #[a, b] t)).drew.cell? ⟨g, 0, none⟩ = some a ∧ (W.alloc (.cells #[a, b] t)).drew.cell? ⟨g, 1, none⟩ = some b := cells2 W g hg a b t
set_option maxHeartbeats 4000000 in
theorem dec_wcompare (h l n h' l' n' : Nat) (w : World) (H : Wd h l n) (H' : Wd h' l' n') :
    Calls Tryz.prog 62 #[.agg #[.int .u64 (h : Int), .int .u64 (l : Int)], .agg #[.int .u64 (h' : Int), .int .u64 (l' : Int)]] w (Num (Dm.cmp n n') w) := by
  have HE := Lib.hid (or_cmp h l n h' l' n' H H')
  clear H H'
  go_enter Tryz.func62, Tryz.ntmps62
  go_upto_region 1 with (fail)
  go_region_held3 (fun w' => w'.cell? ⟨w.heap.size, 0, none⟩ = some (.int .u64 (h : Int)) ∧ w'.cell? ⟨w.heap.size, 1, none⟩ = some (.int .u64 (l : Int)) ∧ w'.cell? ⟨w.heap.size + 1, 0, none⟩ = some (.int .u64 (h' : Int)) ∧ w'.cell? ⟨w.heap.size + 1, 1, none⟩ = some (.int .u64 (l' : Int))) (go_keep) (first
    | (go_at_call 76; refine (cmp_u64 _ _ _).mono ?_; rintro e w1 ⟨rfl, rfl⟩)
    | (go_at_call 44; refine (cmp_or2 _ (Dm.cmp h h') (Dm.cmp l l') _ (by exact (cells2d _ _ (by simp) _ _ _).1) (by exact (cells2d _ _ (by simp) _ _ _).2)).mono ?_; rintro e w1 ⟨rfl, rfl⟩))
  all_goals
    go_wp2
    go_ret
    exact ⟨by rw [← HE.out]; rfl, below_drew ((((Below.refl _ _).alloc (Nat.le_refl _) _).alloc (by simp) _).alloc (by simp; omega) _)⟩
end Go.Proofs.YtfnnhhhkdfgefaaGreatDoor
/- Package decimal: shifted in one; Mul, Rescale. -/
namespace Go.Proofs.YtfnnhhhkdfgefaaGreatDoor
open Go.RowKit

theorem lit3 (w : World) (x y z : Int) : IntC (.slice (some ⟨w.heap.size, 0, none⟩) 3 3) [x, y, z] (w.alloc (.cells #[.int .i64 x, .int .i64 y, .int .i64 z] 3)) := by
  refine .inr ⟨w.heap.size, 0, 3, rfl, Nat.le_refl _, by simp, ?_⟩
  intro j hj
  have hj3 : j = 0 ∨ j = 1 ∨ j = 2 := by simp at hj; omega
  rcases hj3 with rfl | rfl | rfl <;> simp [World.cell?_alloc_new]
theorem lit2 (w : World) (x y : Int) : IntC (.slice (some ⟨w.heap.size, 0, none⟩) 2 2) [x, y] (w.alloc (.cells #[.int .i64 x, .int .i64 y] 3)) := by
  refine .inr ⟨w.heap.size, 0, 2, rfl, Nat.le_refl _, by simp, ?_⟩
  intro j hj
  have hj3 : j = 0 ∨ j = 1 := by simp at hj; omega
  rcases hj3 with rfl | rfl <;> simp [World.cell?_alloc_new]
theorem all3 (x y z : Int) : allB [x, y, z] = (scB x && (scB y && scB z)) := by simp [allB]
theorem all2 (x y : Int) : allB [x, y] = (scB x && scB y) := by simp [allB]
/-- shifted in plain numbers -/
def shM (n : Nat) (x : Int) : Nat := if x < 0 then rnd n (10 ^ (-x).toNat) else if 18446744073709551616 ≤ n then n else n * 10 ^ x.toNat
theorem dec_shifted (h l n : Nat) (x : Int) (w : World) (hw : Wd h l n) (h1 : -19 ≤ x) (h2 : x ≤ 19) :
    Calls Tryz.prog 71 #[.agg #[.int .u64 (h : Int), .int .u64 (l : Int)], .int .i64 x] w (WideR (shM n x) w) := by
  unfold shM
  by_cases hx : x < 0
  · rw [if_pos hx]
    exact dec_shifted_neg h l n (-x).toNat x w hw (by omega) (by omega) (by omega)
  · rw [if_neg hx]
    obtain ⟨a, b, c⟩ := id hw
    by_cases hn : 18446744073709551616 ≤ n
    · rw [if_pos hn]
      exact dec_shifted_big h l n x w hw (by omega) (by omega)
    · rw [if_neg hn]
      have h0 : h = 0 := by omega
      subst h0
      have e : l = n := by omega
      subst e
      exact dec_shifted_pos l x.toNat x w c (by omega) (by omega)
theorem rnd_scale (n m c : Nat) (hc : 0 < c) : rnd (n * c) (m * c) = rnd n m := by
  unfold rnd
  rw [Nat.mul_mod_mul_right, Nat.mul_div_mul_right _ _ hc, ← Nat.mul_assoc]
  by_cases h : m ≤ 2 * (n % m)
  · rw [if_pos h, if_pos (Nat.mul_le_mul_right c h)]
  · rw [if_neg h, if_neg (fun h' => h (Nat.le_of_mul_le_mul_right h' hc))]
theorem rnd_one (n : Nat) : rnd n 1 = n := by unfold rnd; rw [Nat.mod_one]; simp
theorem ansV_big (n : Nat) (s : Bool) (h : 9223372036854775808 < n) : ansV n s = (0, 20) := by
  unfold ansV; cases s
  · rw [if_neg (by decide), if_neg (by omega)]
  · rw [if_pos rfl, if_neg (by omega)]
/-- shifting, then the sign: as rounding the product -/
theorem sh_eq (n f t : Nat) (s : Bool) : ansV (shM n ((t : Int) - (f : Int))) s = ansV (rnd (n * 10 ^ t) (10 ^ f)) s := by
  unfold shM
  by_cases h : (t : Int) - (f : Int) < 0
  · rw [if_pos h]
    obtain ⟨k, rfl⟩ : ∃ k, f = k + t := ⟨f - t, by omega⟩
    rw [Nat.pow_add, rnd_scale _ _ _ (Nat.pow_pos (by omega)), show (-((t : Int) - ((k + t : Nat) : Int))).toNat = k by omega]
  · rw [if_neg h]
    obtain ⟨k, rfl⟩ : ∃ k, t = k + f := ⟨t - f, by omega⟩
    have e : rnd (n * 10 ^ (k + f)) (10 ^ f) = n * 10 ^ k := by
      have := rnd_scale (n * 10 ^ k) 1 (10 ^ f) (Nat.pow_pos (by omega))
      rw [Nat.one_mul, rnd_one, Nat.mul_assoc, ← Nat.pow_add] at this
      exact this
    rw [e, show (((k + f : Nat) : Int) - (f : Int)).toNat = k by omega]
    by_cases hn : 18446744073709551616 ≤ n
    · rw [if_pos hn, ansV_big n s (by omega), ansV_big (n * 10 ^ k) s]
      have := Nat.mul_le_mul_left n (Nat.pow_pos (n := k) (show 0 < 10 by omega))
      omega
    · rw [if_neg hn]
theorem mul_eq (a fa b fb t : Int) (hs : allB [fa, fb, t] = true) : ansV (shM (a.natAbs * b.natAbs) (t - fa - fb)) (decide (a < 0) != decide (b < 0)) = mulM a fa b fb t := by
  rw [all3] at hs
  simp only [Bool.and_eq_true] at hs
  obtain ⟨h1, h2, h3⟩ := hs
  unfold mulM
  rw [h1, h2, h3]
  obtain ⟨p1, _⟩ := scB_true h1
  obtain ⟨p2, _⟩ := scB_true h2
  obtain ⟨p3, _⟩ := scB_true h3
  have := sh_eq (a.natAbs * b.natAbs) (fa + fb).toNat t.toNat (decide (a < 0) != decide (b < 0))
  rw [show ((t.toNat : Nat) : Int) - (((fa + fb).toNat : Nat) : Int) = t - fa - fb by omega] at this
  rw [this, Nat.one_mul]
  rfl
theorem dec_mul_no (a fa b fb t : Int) (w : World) (hs : allB [fa, fb, t] = false) : Calls Tryz.prog 50 #[.int .i64 a, .int .i64 fa, .int .i64 b, .int .i64 fb, .int .i64 t] w (Ans (mulM a fa b fb t) w) := by
  have hm : mulM a fa b fb t = (0, 2) := by
    rw [all3] at hs
    unfold mulM
    cases h1 : scB fa <;> cases h2 : scB fb <;> cases h3 : scB t <;> simp_all
  have HM := Lib.hid hm; have HS := Lib.hid hs
  clear hm hs
  go_enter Tryz.func50, Tryz.ntmps50
  go_wp2_with fail
  refine (dec_allRight _ 3 3 [fa, fb, t] _ rfl (lit3 w fa fb t) (by omega)).mono ?_
  rintro e w1 ⟨rfl, rfl⟩
  rw [HS.out]
  go_wp2
  go_ret2
  exact ⟨by rw [HM.out]; rfl, (Below.refl _ _).alloc (Nat.le_refl _) _⟩
theorem natAbs_lt (a : Int) (h : i64 a) : a.natAbs < 18446744073709551616 := by unfold i64 at h; omega
set_option maxHeartbeats 1000000 in
theorem dec_mul_yes (a fa b fb t : Int) (sa sb : Bool) (w : World) (ha : i64 a) (hb : i64 b) (hs : allB [fa, fb, t] = true) (qa : decide (a < 0) = sa) (qb : decide (b < 0) = sb) :
    Calls Tryz.prog 50 #[.int .i64 a, .int .i64 fa, .int .i64 b, .int .i64 fb, .int .i64 t] w (Ans (mulM a fa b fb t) w) := by
  have hm := mul_eq a fa b fb t hs
  rw [qa, qb] at hm
  have hf : (0 ≤ fa ∧ fa ≤ 6) ∧ (0 ≤ fb ∧ fb ≤ 6) ∧ (0 ≤ t ∧ t ≤ 6) := by
    rw [all3] at hs
    simp only [Bool.and_eq_true] at hs
    exact ⟨scB_true hs.1, scB_true hs.2.1, scB_true hs.2.2⟩
  obtain ⟨⟨f1, f2⟩, ⟨g1, g2⟩, ⟨t1, t2⟩⟩ := hf
  have HM := Lib.hid hm; have HS := Lib.hid hs
  have HA := Lib.hid (dec_mag a · ha); have HB := Lib.hid (dec_mag b · hb)
  have LA := Lib.hid (natAbs_lt a ha); have LB := Lib.hid (natAbs_lt b hb)
  clear hm hs ha hb
  cases sa <;> cases sb
  all_goals
    go_enter Tryz.func50, Tryz.ntmps50
    go_wp2_with fail
    refine (dec_allRight _ 3 3 [fa, fb, t] _ rfl (lit3 w fa fb t) (by omega)).mono ?_
    rintro e w1 ⟨rfl, rfl⟩
    rw [HS.out]
    go_wp2_with fail
    refine (HA.out _).mono ?_
    rintro e w1 ⟨rfl, rfl⟩
    go_wp2_with fail
    refine (HB.out _).mono ?_
    rintro e w1 ⟨rfl, rfl⟩
    clear HA HB
    revert HM LA LB
    generalize a.natAbs = A
    generalize b.natAbs = B
    intro LA LB HM
    go_wp2_with fail
    refine (dec_product A B _ LA.out LB.out).mono ?_
    rintro e w1 ⟨h1, l1, rfl, hwd, hbl⟩
    have HW := Lib.hid hwd; have HBL := Lib.hid hbl
    clear hwd hbl
    go_wp2_with fail
    refine (dec_shifted h1 l1 _ (t - fa - fb) _ HW.out (by omega) (by omega)).mono ?_
    rintro e w2 ⟨h2, l2, rfl, hwd, hbl⟩
    have HW2 := Lib.hid hwd; have HBL2 := Lib.hid (HBL.out.trans (hbl.mono HBL.out.size))
    clear hwd hbl HW HBL
    go_wp2_with fail
    refine (dec_signed h2 l2 _ _ _ HW2.out).mono ?_
    rintro e w3 ⟨rfl, hbl⟩
    have HB3 := Lib.hid (((HBL2.out.alloc HBL2.out.size _).trans (hbl.mono (by have := HBL2.out.size; simp at *; omega))))
    clear hbl HW2 HBL2
    go_wp2
    go_ret2
    exact ⟨by rw [← HM.out]; rfl, (((Below.refl _ _).alloc (Nat.le_refl _) _)).trans (HB3.out.mono (by simp))⟩
theorem dec_mul (a fa b fb t : Int) (w : World) (ha : i64 a) (hb : i64 b) :
    Calls Tryz.prog 50 #[.int .i64 a, .int .i64 fa, .int .i64 b, .int .i64 fb, .int .i64 t] w (Ans (mulM a fa b fb t) w) := by
  cases hs : allB [fa, fb, t]
  · exact dec_mul_no a fa b fb t w hs
  · exact dec_mul_yes a fa b fb t _ _ w ha hb hs rfl rfl
theorem dec_rescale (n f t : Int) (w : World) (hn : i64 n) : Calls Tryz.prog 37 #[.int .i64 n, .int .i64 f, .int .i64 t] w (Ans (mulM n f 1 0 t) w) := by
  have HN := Lib.hid (dec_mul n f 1 0 t · hn (by unfold i64; omega))
  clear hn
  revert HN
  generalize mulM n f 1 0 t = p
  intro HN
  go_enter Tryz.func37, Tryz.ntmps37
  go_wp2_with fail
  refine (HN.out _).mono ?_
  rintro e w1 ⟨rfl, hb⟩
  have HB := Lib.hid hb
  clear hb
  go_wp2
  go_ret2
  exact ⟨rfl, HB.out⟩
end Go.Proofs.YtfnnhhhkdfgefaaGreatDoor
/- Package decimal: Compare. -/
namespace Go.Proofs.YtfnnhhhkdfgefaaGreatDoor
open Go.RowKit

theorem dec_compare_no (a fa b fb : Int) (w : World) (hs : allB [fa, fb] = false) : Calls Tryz.prog 45 #[.int .i64 a, .int .i64 fa, .int .i64 b, .int .i64 fb] w (Num (compM a fa b fb) w) := by
  have hm : compM a fa b fb = 0 := by
    rw [all2] at hs
    unfold compM
    rw [hs]; rfl
  have HM := Lib.hid hm; have HS := Lib.hid hs
  clear hm hs
  go_enter Tryz.func45, Tryz.ntmps45
  go_wp2_with fail
  refine (dec_allRight _ 2 2 [fa, fb] _ rfl (lit2 w fa fb) (by omega)).mono ?_
  rintro e w1 ⟨rfl, rfl⟩
  rw [HS.out]
  go_wp2
  go_ret
  exact ⟨by rw [HM.out]; rfl, (Below.refl _ _).alloc (Nat.le_refl _) _⟩
set_option maxHeartbeats 400000 in
theorem dec_compare_signs (a fa b fb : Int) (sa sb : Bool) (w : World) (hs : allB [fa, fb] = true) (qa : decide (a < 0) = sa) (qb : decide (b < 0) = sb) (hne : sa ≠ sb) : Calls Tryz.prog 45 #[.int .i64 a, .int .i64 fa, .int .i64 b, .int .i64 fb] w (Num (compM a fa b fb) w) := by
  have hm : compM a fa b fb = Lib.compareInt a b := by
    rw [all2] at hs
    unfold compM Lib.compareInt
    rw [hs, qa, qb]
    cases sa <;> cases sb
    · exact absurd rfl hne
    · simp at qa qb ⊢; omega
    · simp at qa qb ⊢; omega
    · exact absurd rfl hne
  have HM := Lib.hid hm; have HS := Lib.hid hs
  clear hm hs
  cases sa <;> cases sb
  · exact absurd rfl hne
  all_goals first | (exact absurd rfl hne) | skip
  all_goals
    clear hne
    go_enter Tryz.func45, Tryz.ntmps45
    go_wp2_with fail
    refine (dec_allRight _ 2 2 [fa, fb] _ rfl (lit2 w fa fb) (by omega)).mono ?_
    rintro e w1 ⟨rfl, rfl⟩
    rw [HS.out]
    go_wp2_with fail
    refine (Tryz.cmp_Compare_int a b _).mono ?_
    rintro e w1 ⟨rfl, rfl⟩
    go_wp2
    go_ret
    exact ⟨by rw [HM.out]; rfl, (Below.refl _ _).alloc (Nat.le_refl _) _⟩
set_option maxHeartbeats 1000000 in
theorem dec_compare_same (a fa b fb : Int) (s : Bool) (w : World) (ha : i64 a) (hb : i64 b) (hs : allB [fa, fb] = true) (qa : decide (a < 0) = s) (qb : decide (b < 0) = s) : Calls Tryz.prog 45 #[.int .i64 a, .int .i64 fa, .int .i64 b, .int .i64 fb] w (Num (compM a fa b fb) w) := by
  have hf : (0 ≤ fa ∧ fa ≤ 6) ∧ (0 ≤ fb ∧ fb ≤ 6) := by
    rw [all2] at hs
    simp only [Bool.and_eq_true] at hs
    exact ⟨scB_true hs.1, scB_true hs.2⟩
  obtain ⟨⟨f1, f2⟩, ⟨g1, g2⟩⟩ := hf
  have hm : compM a fa b fb = if s then -(Dm.cmp (a.natAbs * 10 ^ fb.toNat) (b.natAbs * 10 ^ fa.toNat)) else Dm.cmp (a.natAbs * 10 ^ fb.toNat) (b.natAbs * 10 ^ fa.toNat) := by
    rw [all2] at hs
    unfold compM
    rw [hs, qa, qb]
    cases s <;> rfl
  have HM := Lib.hid hm; have HS := Lib.hid hs
  have HA := Lib.hid (dec_mag a · ha); have HB := Lib.hid (dec_mag b · hb)
  have LA := Lib.hid (natAbs_lt a ha); have LB := Lib.hid (natAbs_lt b hb)
  obtain ⟨ka, rfl⟩ : ∃ k : Nat, fa = (k : Int) := ⟨fa.toNat, by omega⟩
  obtain ⟨kb, rfl⟩ : ∃ k : Nat, fb = (k : Int) := ⟨fb.toNat, by omega⟩
  simp only [Int.toNat_natCast] at HM
  have HPA := Lib.hid (dec_power ka · (by omega)); have HPB := Lib.hid (dec_power kb · (by omega))
  have LPA := Lib.hid (pow10_lt ka (by omega)); have LPB := Lib.hid (pow10_lt kb (by omega))
  clear hm hs ha hb
  revert HM HPA HPB LPA LPB HA HB LA LB
  generalize 10 ^ ka = pa
  generalize 10 ^ kb = pb
  generalize a.natAbs = A
  generalize b.natAbs = B
  intro HA HB LA LB HM HPA HPB LPA LPB
  cases s
  all_goals
    go_enter Tryz.func45, Tryz.ntmps45
    go_wp2_with fail
    refine (dec_allRight _ 2 2 [(ka : Int), (kb : Int)] _ rfl (lit2 w _ _) (by omega)).mono ?_
    rintro e w1 ⟨rfl, rfl⟩
    rw [HS.out]
    go_wp2_with fail
    refine (HA.out _).mono ?_
    rintro e w1 ⟨rfl, rfl⟩
    clear HA
    go_wp2_with fail
    refine (HPB.out _).mono ?_
    rintro e w1 ⟨rfl, rfl⟩
    clear HPB
    go_wp2_with fail
    refine (dec_product A pb _ LA.out LPB.out).mono ?_
    rintro e w1 ⟨h1, l1, rfl, hwd, hbl⟩
    have HW := Lib.hid hwd; have HBL := Lib.hid hbl
    clear hwd hbl
    go_wp2_with fail
    refine (HB.out _).mono ?_
    rintro e w2 ⟨rfl, rfl⟩
    clear HB
    go_wp2_with fail
    refine (HPA.out _).mono ?_
    rintro e w2 ⟨rfl, rfl⟩
    clear HPA
    go_wp2_with fail
    refine (dec_product B pa _ LB.out LPA.out).mono ?_
    rintro e w2 ⟨h2, l2, rfl, hwd, hbl⟩
    have HW2 := Lib.hid hwd; have HBL2 := Lib.hid (HBL.out.trans (hbl.mono HBL.out.size))
    clear hwd hbl HBL
    go_wp2_with fail
    refine (dec_wcompare h1 l1 _ h2 l2 _ _ HW.out HW2.out).mono ?_
    rintro e w3 ⟨rfl, hbl⟩
    have HB3 := Lib.hid (HBL2.out.trans (hbl.mono HBL2.out.size))
    have hc := cmp_le (A * pb) (B * pa)
    clear hbl HW HW2 HBL2
    revert HM hc
    generalize Dm.cmp (A * pb) (B * pa) = c
    intro HM hc
    obtain ⟨hc1, hc2⟩ := hc
    go_wp2
    go_ret
    exact ⟨by rw [HM.out]; rfl, ((Below.refl _ _).alloc (Nat.le_refl _) _).trans (HB3.out.mono (by simp))⟩
theorem dec_compare (a fa b fb : Int) (w : World) (ha : i64 a) (hb : i64 b) : Calls Tryz.prog 45 #[.int .i64 a, .int .i64 fa, .int .i64 b, .int .i64 fb] w (Num (compM a fa b fb) w) := by
  cases hs : allB [fa, fb]
  · exact dec_compare_no a fa b fb w hs
  · by_cases hq : decide (a < 0) = decide (b < 0)
    · exact dec_compare_same a fa b fb _ w ha hb hs rfl hq.symm
    · exact dec_compare_signs a fa b fb _ _ w hs rfl rfl hq
end Go.Proofs.YtfnnhhhkdfgefaaGreatDoor
/- The laws of layer 2, in plain numbers. -/
namespace Go.Proofs.YtfnnhhhkdfgefaaGreatDoor

theorem mul_comm (a fa b fb t : Int) : mulM a fa b fb t = mulM b fb a fa t := by
  unfold mulM
  rw [Int.add_comm fa fb, Nat.mul_comm a.natAbs b.natAbs, Bool.and_comm (scB fa) (scB fb), bne_comm]
theorem mul_one (a fa t : Int) : mulM a fa 1 0 t = divM a fa 1 0 t := by
  unfold mulM divM
  cases h1 : scB fa <;> cases h2 : scB t <;> simp [scB] <;> rfl
theorem resc_eq (n f t : Int) : mulM n f 1 0 t = rescM n f t := by
  unfold mulM rescM
  cases h1 : scB f
  · simp [scB]
  cases h2 : scB t
  · simp [scB]
  obtain ⟨p1, p2⟩ := scB_true h1
  obtain ⟨q1, q2⟩ := scB_true h2
  obtain ⟨kf, rfl⟩ : ∃ k : Nat, f = (k : Int) := ⟨f.toNat, by omega⟩
  obtain ⟨kt, rfl⟩ : ∃ k : Nat, t = (k : Int) := ⟨t.toNat, by omega⟩
  rw [show ((kf : Int) + 0).toNat = kf by omega, show ((kt : Int)).toNat = kt by omega]
  have hs : (decide (n < 0) != decide ((1 : Int) < 0)) = decide (n < 0) := by simp
  rw [hs, show (1 : Int).natAbs = 1 from rfl, Nat.mul_one, Nat.one_mul]
  show (if (true && scB 0 && true) = true then _ else _) = _
  rw [if_pos (by decide)]
  by_cases h : (kf : Int) ≤ (kt : Int)
  · rw [if_pos (by decide), if_pos h]
    obtain ⟨k, rfl⟩ : ∃ k, kt = k + kf := ⟨kt - kf, by omega⟩
    have e : rnd (n.natAbs * 10 ^ (k + kf)) (10 ^ kf) = n.natAbs * 10 ^ k := by
      have := rnd_scale (n.natAbs * 10 ^ k) 1 (10 ^ kf) (Nat.pow_pos (by omega))
      rw [Nat.one_mul, rnd_one, Nat.mul_assoc, ← Nat.pow_add] at this
      exact this
    rw [e, show (((k + kf : Nat) : Int) - (kf : Int)).toNat = k by omega]
  · rw [if_pos (by decide), if_neg h]
    obtain ⟨k, rfl⟩ : ∃ k, kf = k + kt := ⟨kf - kt, by omega⟩
    rw [Nat.one_mul, show (((k + kt : Nat) : Int) - (kt : Int)).toNat = k by omega, Nat.pow_add, rnd_scale _ _ _ (Nat.pow_pos (by omega))]
/-- the number with its sign -/
theorem ansV_ok {A : Nat} {s : Bool} {m e : Int} (h : ansV A s = (m, e)) (he : e = 0) : m = (if s then -(A : Int) else (A : Int)) := by
  unfold ansV at h
  cases s
  · by_cases hA : A ≤ 9223372036854775807
    · simp [hA] at h; simp [h.1]
    · simp [hA] at h; omega
  · by_cases hA : A ≤ 9223372036854775808
    · simp [hA] at h; simp [h.1]
    · simp [hA] at h; omega
theorem ansV_self (n : Int) (h : i64 n) : ansV n.natAbs (decide (n < 0)) = (n, 0) := by
  unfold i64 at h
  unfold ansV
  by_cases hn : n < 0
  · rw [if_pos (by simpa using hn), if_pos (by omega)]; congr 1; omega
  · rw [if_neg (by simpa using hn), if_pos (by omega)]; congr 1; omega
theorem resc_up {n f t m e : Int} (h : rescM n f t = (m, e)) (he : e = 0) (hft : f ≤ t) (_hn : i64 n) : m = n * 10 ^ (t - f).toNat ∧ scB f = true ∧ scB t = true := by
  unfold rescM at h
  cases h1 : scB f
  · rw [h1] at h; simp at h; omega
  cases h2 : scB t
  · rw [h1, h2] at h; simp at h; omega
  rw [h1, h2, if_pos (by decide), if_pos hft] at h
  refine ⟨?_, rfl, rfl⟩
  rw [ansV_ok h he]
  have hc : ((n.natAbs * 10 ^ (t - f).toNat : Nat) : Int) = (n.natAbs : Int) * 10 ^ (t - f).toNat := by push_cast; rfl
  by_cases hn0 : n < 0
  · rw [if_pos (by simpa using hn0), hc, show (n.natAbs : Int) = -n by omega, Int.neg_mul, Int.neg_neg]
  · rw [if_neg (by simpa using hn0), hc, show (n.natAbs : Int) = n by omega]
/-- how two integers compare -/
def icmp (x y : Int) : Int := if x < y then -1 else if y < x then 1 else 0
theorem icmp_scale (x y c : Int) (hc : 0 < c) : icmp (x * c) (y * c) = icmp x y := by
  unfold icmp
  have h1 : x * c < y * c ↔ x < y := Int.mul_lt_mul_right hc
  have h2 : y * c < x * c ↔ y < x := Int.mul_lt_mul_right hc
  simp only [h1, h2]
theorem comp_int (a fa b fb : Int) (h1 : scB fa = true) (h2 : scB fb = true) : compM a fa b fb = icmp (a * 10 ^ fb.toNat) (b * 10 ^ fa.toNat) := by
  unfold compM
  rw [h1, h2]
  have pa : (0 : Int) < 10 ^ fa.toNat := Int.pow_pos (by omega)
  have pb : (0 : Int) < 10 ^ fb.toNat := Int.pow_pos (by omega)
  have ca : ((10 ^ fa.toNat : Nat) : Int) = (10 : Int) ^ fa.toNat := by push_cast; rfl
  have cb : ((10 ^ fb.toNat : Nat) : Int) = (10 : Int) ^ fb.toNat := by push_cast; rfl
  rw [← ca, ← cb]
  rw [← ca] at pa
  rw [← cb] at pb
  generalize 10 ^ fa.toNat = p at *
  generalize 10 ^ fb.toNat = q at *
  have na := Int.natCast_mul a.natAbs q
  have nb := Int.natCast_mul b.natAbs p
  show (if decide (a < 0) = true then _ else _) = _
  unfold icmp Dm.cmp
  by_cases ha : a < 0 <;> by_cases hb : b < 0
  · rw [if_pos (by simpa using ha), if_pos (by simpa using hb)]
    rw [show (a.natAbs : Int) = -a by omega, Int.neg_mul] at na
    rw [show (b.natAbs : Int) = -b by omega, Int.neg_mul] at nb
    repeat' split
    all_goals omega
  · have h3 := Int.mul_neg_of_neg_of_pos ha pb
    have h4 := Int.mul_nonneg (show 0 ≤ b by omega) (Int.le_of_lt pa)
    rw [if_pos (by simpa using ha), if_neg (by simpa using hb), if_pos (by omega)]
  · have h3 := Int.mul_neg_of_neg_of_pos hb pa
    have h4 := Int.mul_nonneg (show 0 ≤ a by omega) (Int.le_of_lt pb)
    rw [if_neg (by simpa using ha), if_pos (by simpa using hb), if_neg (by omega), if_pos (by omega)]
  · rw [if_neg (by simpa using ha), if_neg (by simpa using hb)]
    rw [show (a.natAbs : Int) = a by omega] at na
    rw [show (b.natAbs : Int) = b by omega] at nb
    repeat' split
    all_goals omega
theorem comp_bring {a fa b fb t x y e f : Int} (ha : i64 a) (hb : i64 b) (h1 : rescM a fa t = (x, e)) (h2 : rescM b fb t = (y, f)) (he : e = 0) (hf : f = 0) (ht1 : fa ≤ t) (ht2 : fb ≤ t) : compM a fa b fb = compM x t y t := by
  obtain ⟨hx, sa, st⟩ := resc_up h1 he ht1 ha
  obtain ⟨hy, sb, _⟩ := resc_up h2 hf ht2 hb
  rw [comp_int a fa b fb sa sb, comp_int x t y t st st, icmp_scale x y _ (Int.pow_pos (by omega))]
  obtain ⟨p1, _⟩ := scB_true sa
  obtain ⟨p2, _⟩ := scB_true sb
  obtain ⟨ka, hka⟩ : ∃ k, k = (t - fa).toNat := ⟨_, rfl⟩
  obtain ⟨kb, hkb⟩ : ∃ k, k = (t - fb).toNat := ⟨_, rfl⟩
  rw [← hka] at hx
  rw [← hkb] at hy
  rw [← icmp_scale (a * 10 ^ fb.toNat) (b * 10 ^ fa.toNat) (10 ^ ka) (Int.pow_pos (by omega)), ← icmp_scale x y (10 ^ fb.toNat) (Int.pow_pos (by omega)), hx, hy]
  congr 1
  · rw [Int.mul_assoc, Int.mul_assoc, Int.mul_comm (10 ^ fb.toNat)]
  · rw [Int.mul_assoc, Int.mul_assoc, ← Int.pow_add, ← Int.pow_add]
    congr 2
    omega
theorem ansV_i64 (A : Nat) (s : Bool) : i64 (ansV A s).1 := by
  unfold i64 ansV
  cases s
  · by_cases h : A ≤ 9223372036854775807
    · simp [h]; omega
    · simp [h]
  · by_cases h : A ≤ 9223372036854775808
    · simp [h]; omega
    · simp [h]
theorem mul_i64 (a fa b fb t : Int) : i64 (mulM a fa b fb t).1 := by
  unfold mulM
  split
  · exact ansV_i64 _ _
  · unfold i64; decide
/-- what is left of a division -/
structure Rest (a b r : Int) : Prop where
  i : i64 r
  up : 0 ≤ a → 0 ≤ r
  down : a ≤ 0 → r ≤ 0
  pos : 0 < b → r < b ∧ -b < r
  neg : b < 0 → r < -b ∧ b < r
  sub : i64 (a - r)
  zero : (a - r).tmod b = 0
theorem rest (a b : Int) (ha : i64 a) (hb : i64 b) (h0 : b ≠ 0) : Rest a b (a.tmod b) := by
  have e := Int.tmod_add_mul_tdiv a b
  have hz : (a - a.tmod b).tmod b = 0 := by
    rw [show a - a.tmod b = b * a.tdiv b by omega]; exact Int.mul_tmod_right _ _
  have hlt : (a.tmod b).natAbs < b.natAbs := by
    rw [Int.natAbs_tmod]; exact Nat.mod_lt _ (by omega)
  have hle : (a.tmod b).natAbs ≤ a.natAbs := by
    rw [Int.natAbs_tmod]; exact Nat.mod_le _ _
  have hup : 0 ≤ a → 0 ≤ a.tmod b := fun h => Int.tmod_nonneg b h
  have hdn : a ≤ 0 → a.tmod b ≤ 0 := fun h => by
    have := Int.tmod_nonneg b (show 0 ≤ -a by omega)
    rw [Int.neg_tmod] at this; omega
  obtain ⟨a1, a2⟩ := ha
  obtain ⟨b1, b2⟩ := hb
  refine ⟨⟨by omega, by omega⟩, hup, hdn, fun h => ⟨by omega, by omega⟩, fun h => ⟨by omega, by omega⟩, ?_, hz⟩
  rcases Int.le_total 0 a with h | h
  · have := hup h; exact ⟨by omega, by omega⟩
  · have := hdn h; exact ⟨by omega, by omega⟩
end Go.Proofs.YtfnnhhhkdfgefaaGreatDoor
