/- Package decimal: divided, rounded, shifted, signed. -/
import Derived.Test.YtgkjgaelclfffaaDoorDecA1
import Derived.Deep.RegionWith
import Derived.Deep.RegionHeld3
import Derived.Laws.Externs
namespace Go.Proofs.YtgkjgaelclfffaaDoor
open Go.RowKit

/-- what divided leaves -/
def DivR (q r : Nat) (w : World) (e : Ending) (w' : World) : Prop :=
  ∃ h l : Nat, e = .returned (.tuple #[.agg #[.int .u64 (h : Int), .int .u64 (l : Int)], .int .u64 (r : Int)]) ∧ Wd h l q ∧ Below w.heap.size w w'

/-- the quotient in two words -/
theorem div_words (h l b : Nat) (hb : 0 < b) (hb2 : b < 18446744073709551616) (hh : h < 18446744073709551616) (hl : l < 18446744073709551616) :
    Wd (h / b) ((h % b * 18446744073709551616 + l) / b) ((h * 18446744073709551616 + l) / b) ∧ (h % b * 18446744073709551616 + l) % b = (h * 18446744073709551616 + l) % b := by
  have hm := Nat.mod_lt h hb
  have hd := Nat.div_add_mod h b
  have e : h * 18446744073709551616 + l = b * (h / b * 18446744073709551616) + (h % b * 18446744073709551616 + l) := by
    rw [← Nat.mul_assoc]; omega
  have hq : (h % b * 18446744073709551616 + l) / b < 18446744073709551616 := by rw [Nat.div_lt_iff_lt_mul hb]; omega
  refine ⟨⟨?_, Nat.lt_of_le_of_lt (Nat.div_le_self _ _) hh, hq⟩, ?_⟩
  · conv => rhs; rw [e, Nat.mul_add_div hb]
  · conv => rhs; rw [e, Nat.mul_add_mod]

theorem div64' (x : Int) (h l y q r : Nat) (w : World) (hx : x = (h : Int)) (hy : h < y) (hy64 : y < 18446744073709551616) (hl : l < 18446744073709551616) (hq : (h * 18446744073709551616 + l) / y = q) (hr : (h * 18446744073709551616 + l) % y = r) :
    Calls Tryd.prog 79 #[.int .u64 x, .int .u64 (l : Int), .int .u64 (y : Int)] w fun e w' => e = .returned (.tuple #[.int .u64 (q : Int), .int .u64 (r : Int)]) ∧ ∃ n, w' = w.drewN n := by
  subst hx hq hr; exact div64 h l y w hy (by omega) (by omega)

set_option maxHeartbeats 400000 in
theorem dec_divided (h l n b : Nat) (w : World) (hw : Wd h l n) (hb : 0 < b) (hb2 : b < 18446744073709551616) :
    Calls Tryd.prog 58 #[.agg #[.int .u64 (h : Int), .int .u64 (l : Int)], .int .u64 (b : Int)] w (DivR (n / b) (n % b) w) := by
  obtain ⟨hn, hh, hl⟩ := hw
  obtain ⟨d1, d2⟩ := div_words h l b hb hb2 hh hl
  rw [hn] at d1 d2
  obtain ⟨q, hq⟩ : ∃ q : Nat, (h % b * 18446744073709551616 + l) / b = q := ⟨_, rfl⟩
  rw [hq] at d1
  obtain ⟨r, hr⟩ : ∃ r : Nat, n % b = r := ⟨_, rfl⟩
  rw [hr] at d2 ⊢
  clear hr
  have hhb : h % b < b := Nat.mod_lt _ hb
  have H1 := Lib.hid d1; have H2 := Lib.hid d2; have HB := Lib.hid (And.intro hhb (And.intro hb2 (And.intro hl hq)))
  have i0 : (h : Int) ≤ 18446744073709551615 := by omega
  have i1 : (1 : Int) ≤ (b : Int) := by omega
  clear d1 d2 hn hh hl hb2 hhb hq
  go_enter Tryd.func58, Tryd.ntmps58
  go_upto_region 2 with (fail)
  rw [show (h : Int) / (b : Int) = ((h / b : Nat) : Int) from rfl, Dv.wrap_lt _ (Nat.lt_of_le_of_lt (Nat.div_le_self _ _) (by omega))]
  go_quiet ((go_at_call 79; exact Calls.quiet_of (div64' _ (h % b) l b q r _ rfl HB.out.1 HB.out.2.1 HB.out.2.2.1 HB.out.2.2.2 H2.out)))
  revert H1
  generalize h / b = p
  intro H1
  go_wp2
  exact bodyPost_ret (v := .tuple #[.agg #[.int .u64 (p : Int), .int .u64 (q : Int)], .int .u64 (r : Int)]) (by simp [results, Tryd.results58, go_sem]) rfl ⟨p, q, rfl, H1.out, ((below_drewN (((Below.refl _ _).alloc (Nat.le_refl _) _).alloc (by simp) _) _).setCell (by simp) _).setCell (by simp) _⟩

theorem bcell {W w1 : World} (hb : Below W.heap.size W w1) : (∀ b o, b < W.heap.size → w1.cell? ⟨b, o, none⟩ = W.cell? ⟨b, o, none⟩) ∧ (∀ b o, b < W.heap.size → w1.frozen? ⟨b, o, none⟩ = W.frozen? ⟨b, o, none⟩) :=
  ⟨fun b o h => hb.cell (p := ⟨b, o, none⟩) h, fun b o h => hb.frozen (p := ⟨b, o, none⟩) h⟩

/-- math/bits.Add64 at one more -/
theorem add64_run (x c l : Nat) (hc : c ≤ 1) (h : x + 1 = c * 18446744073709551616 + l) (hx : x < 18446744073709551616) (hl : l < 18446744073709551616) (w : World) :
    (callFunc 78 #[.int .u64 (x : Int), .int .u64 1, .int .u64 0]).run Tryd.prog w = .ok (.value (.tuple #[.int .u64 (l : Int), .int .u64 (c : Int)])) w := by
  rw [run_callFunc_extern Tryd.func78 (by kernel_rfl) (by kernel_rfl) (by kernel_rfl) (e := add64Entry) (by kernel_rfl)]
  rw [run_add64 (P := Tryd.prog) (x : Int) 1 0 (by omega) (by omega) (by omega) (by omega) w]
  have e1 : ((x : Int) + 1 + 0) % 18446744073709551616 = (l : Int) := by omega
  have e2 : ((x : Int) + 1 + 0) / 18446744073709551616 = (c : Int) := by omega
  rw [e1, e2]
  rfl

set_option maxHeartbeats 400000 in
theorem dec_rounded_no (h l n b : Nat) (w : World) (hw : Wd h l n) (hb : 0 < b) (hb2 : b < 18446744073709551616) (hr : 2 * (n % b) < b) :
    Calls Tryd.prog 57 #[.agg #[.int .u64 (h : Int), .int .u64 (l : Int)], .int .u64 (b : Int)] w (WideR (rnd n b) w) := by
  have hm : rnd n b = n / b := by unfold rnd; rw [if_neg (by omega)]
  rw [hm]
  have HC := Lib.hid (dec_divided h l n b · hw hb hb2)
  have ib : (b : Int) ≤ 18446744073709551615 := by omega
  have ir : (2 : Int) * ((n % b : Nat) : Int) < (b : Int) := by omega
  clear hm hw hb2 hr
  revert HC ir
  generalize n / b = q
  generalize n % b = r
  intro HC ir
  go_enter Tryd.func57, Tryd.ntmps57
  go_wp2_with fail
  refine (HC.out _).mono ?_
  rintro e w1 ⟨h1, l1, rfl, hwd, hbl⟩
  have HW := Lib.hid hwd; have HBL := Lib.hid hbl
  obtain ⟨hc, hf⟩ := bcell hbl
  have hz : w.heap.size + 1 < w1.heap.size := by have := hbl.size; simp at this; omega
  clear hwd hbl HC
  go_wp2
  refine bodyPost_ret (v := .agg #[.int .u64 (h1 : Int), .int .u64 (l1 : Int)]) (by simp [results, Tryd.results57, go_sem, hc, hz]) rfl ⟨h1, l1, rfl, HW.out, ?_⟩
  exact ((((((Below.refl _ _).alloc (Nat.le_refl _) _).alloc (by simp) _).trans (HBL.out.mono (by simp; omega))).setCell (by simp) _).setCell (by simp) _).alloc (by simp; omega) _

theorem more_aux (T h l q k m : Nat) (a : h * T + l = q) (h2 : l + 1 = k * T + m) : (h + k) * T + m = q + 1 := by rw [Nat.add_mul]; omega
/-- one more -/
theorem Wd.more {h l q : Nat} (H : Wd h l q) (hq : q + 1 < 340282366920938463463374607431768211456) : ∃ c l2 : Nat, c ≤ 1 ∧ l + 1 = c * 18446744073709551616 + l2 ∧ l2 < 18446744073709551616 ∧ Wd (h + c) l2 (q + 1) := by
  obtain ⟨a, b, c⟩ := H
  obtain ⟨k, hk⟩ : ∃ k, k = (l + 1) / 18446744073709551616 := ⟨_, rfl⟩
  obtain ⟨m, hm⟩ : ∃ m, m = (l + 1) % 18446744073709551616 := ⟨_, rfl⟩
  have h1 : k ≤ 1 := by omega
  have h2 : l + 1 = k * 18446744073709551616 + m := by omega
  have h3 : m < 18446744073709551616 := by omega
  have h5 : (h + k) * 18446744073709551616 + m = q + 1 := more_aux _ h l q k m a h2
  have h6 : h + k < 18446744073709551616 := by
    have h7 : (h + k) * 18446744073709551616 < 18446744073709551616 * 18446744073709551616 := Nat.lt_of_le_of_lt (Nat.le_of_add_right_le (Nat.le_of_eq h5)) hq
    exact Nat.lt_of_mul_lt_mul_right h7
  have h4 : Wd (h + k) m (q + 1) := ⟨h5, h6, h3⟩
  exact ⟨k, m, h1, h2, h3, h4⟩

set_option maxHeartbeats 400000 in
theorem dec_rounded_yes (h l n b : Nat) (w : World) (hw : Wd h l n) (hb : 0 < b) (hb2 : b < 18446744073709551616) (hr : b ≤ 2 * (n % b)) :
    Calls Tryd.prog 57 #[.agg #[.int .u64 (h : Int), .int .u64 (l : Int)], .int .u64 (b : Int)] w (WideR (rnd n b) w) := by
  have hm : rnd n b = n / b + 1 := by unfold rnd; rw [if_pos (by omega)]
  rw [hm]
  have hlt := Nat.mod_lt n hb
  have HC := Lib.hid (dec_divided h l n b · hw hb hb2)
  have ib : (b : Int) ≤ 18446744073709551615 := by omega
  have ir : (b : Int) ≤ (2 : Int) * ((n % b : Nat) : Int) := by omega
  have ir2 : ((n % b : Nat) : Int) < (b : Int) := by omega
  have hq : n / b + 1 < 340282366920938463463374607431768211456 := by
    have h2 : 2 ≤ b := by omega
    have h3 : n / b ≤ n / 2 := Nat.div_le_div_left h2 (by omega)
    obtain ⟨a1, a2, a3⟩ := hw
    omega
  have HQ := Lib.hid hq
  clear hm hw hb2 hr hq hlt
  revert HC ir ir2 HQ
  generalize n / b = q
  generalize n % b = r
  intro HC ir ir2 HQ
  go_enter Tryd.func57, Tryd.ntmps57
  go_wp2_with fail
  refine (HC.out _).mono ?_
  rintro e w1 ⟨h1, l1, rfl, hwd, hbl⟩
  obtain ⟨c, l2, hc1, hl2, hl3, hwd2⟩ := hwd.more HQ.out
  have ha := add64_run l1 c l2 hc1 hl2 hwd.2.2 hl3
  have ihc : (h1 : Int) + (c : Int) ≤ 18446744073709551615 := by have := hwd2.2.1; omega
  have HW := Lib.hid hwd2; have HBL := Lib.hid hbl
  obtain ⟨hc, hf⟩ := bcell hbl
  have hz : w.heap.size + 1 < w1.heap.size := by have := hbl.size; simp at this; omega
  clear hwd hwd2 hl2 hl3 hbl HC
  go_wp2
  refine bodyPost_ret (v := .agg #[.int .u64 ((h1 + c : Nat) : Int), .int .u64 (l2 : Int)]) (by simp [results, Tryd.results57, go_sem, hc, hz]) rfl ⟨_, l2, rfl, HW.out, ?_⟩
  exact ((((((Below.refl _ _).alloc (Nat.le_refl _) _).alloc (by simp) _).trans (HBL.out.mono (by simp; omega))).setCell (by simp) _).setCell (by simp) _).alloc (by simp; omega) _

theorem dec_rounded (h l n b : Nat) (w : World) (hw : Wd h l n) (hb : 0 < b) (hb2 : b < 18446744073709551616) :
    Calls Tryd.prog 57 #[.agg #[.int .u64 (h : Int), .int .u64 (l : Int)], .int .u64 (b : Int)] w (WideR (rnd n b) w) := by
  by_cases hr : 2 * (n % b) < b
  · exact dec_rounded_no h l n b w hw hb hb2 hr
  · exact dec_rounded_yes h l n b w hw hb hb2 (by omega)
end Go.Proofs.YtgkjgaelclfffaaDoor
