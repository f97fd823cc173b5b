/- Package decimal: Div, where the shift is to the right; Div in one. -/
import Derived.Test.YtgkjgaelclfffaaDoorDecA7
namespace Go.Proofs.YtgkjgaelclfffaaDoor
open Go.RowKit

set_option maxHeartbeats 2000000 in
theorem dec_div_neg (a fa b fb t : Int) (sa sb : Bool) (w : World) (ha : i64 a) (hb : i64 b) (hs : allB [fa, fb, t] = true) (q0 : (b == 0) = false) (hp : t + fb - fa < 0) (qa : decide (a < 0) = sa) (qb : decide (b < 0) = sb) :
    Calls Tryd.prog 29 #[.int .i64 a, .int .i64 fa, .int .i64 b, .int .i64 fb, .int .i64 t] w (Ans (divM a fa b fb t) w) := by
  have hm := (div_model a fa b fb t hs q0 ha).2 hp
  rw [qa, qb] at hm
  have hf : (0 ≤ fa ∧ fa ≤ 6) ∧ (0 ≤ fb ∧ fb ≤ 6) ∧ (0 ≤ t ∧ t ≤ 6) := by
    rw [all3] at hs
    simp only [Bool.and_eq_true] at hs
    exact ⟨scB_true hs.1, scB_true hs.2.1, scB_true hs.2.2⟩
  obtain ⟨⟨f1, f2⟩, ⟨g1, g2⟩, ⟨t1, t2⟩⟩ := hf
  have HM := Lib.hid hm; have HS := Lib.hid hs
  have HA := Lib.hid (dec_mag a · ha); have HB := Lib.hid (dec_mag b · hb)
  have LA := Lib.hid (natAbs_lt a ha); have LB := Lib.hid (natAbs_lt b hb)
  have PB : Hid (0 < b.natAbs) := by show 0 < b.natAbs; simp at q0; omega
  have hp' : decide (0 ≤ t + fb - fa) = false := by simp; omega
  clear hm hs ha hb
  cases sa <;> cases sb
  all_goals
    go_enter Tryd.func29, Tryd.ntmps29
    go_wp2_with fail
    refine (dec_allRight _ 3 3 [fa, fb, t] _ rfl (lit3 w fa fb t) (by omega)).mono ?_
    rintro e w1 ⟨rfl, rfl⟩
    rw [HS.out]
    go_wp2_with fail
    refine (HA.out _).mono ?_
    rintro e w1 ⟨rfl, rfl⟩
    clear HA
    go_upto_region 8 with (fail)
    go_region_with (first
      | (go_at_call 40; refine (HB.out _).mono ?_; rintro e w3 ⟨rfl, rfl⟩)
      | (go_at_call 58; refine (dec_divided 0 a.natAbs a.natAbs b.natAbs _ (wd_small _ LA.out) PB.out LB.out).mono ?_; rintro e w2 ⟨h1, l1, rfl, hwd, hbl⟩; have HW := Lib.hid hwd; have HBL := Lib.hid (below_undrew hbl); obtain ⟨hc, hf⟩ := bcell hbl; have hz : w.heap.size + 1 < w2.heap.size := (by have := hbl.size; simp at this; omega); clear hwd hbl))
    all_goals
      go_wp2_with fail
      refine (dec_shifted h1 l1 _ (t + fb - fa) _ HW.out (by omega) (by omega)).mono ?_
      rintro e w4 ⟨h2, l2, rfl, hwd, hbl⟩
      have HW2 := Lib.hid hwd
      have HB2 := Lib.hid ((((((((Below.refl _ _).alloc (Nat.le_refl _) _).alloc (by simp) _).trans (HBL.out.mono (by simp; omega))).setCell (by simp) _).setCell (by simp) _)).trans (hbl.mono (by simp; omega)))
      have hlt : w.heap.size + 1 < ((w2.setCell ⟨w.heap.size + 1, 0, none⟩ (.int .u64 (h1 : Int))).setCell ⟨w.heap.size + 1, 1, none⟩ (.int .u64 (l1 : Int))).heap.size := by simp; omega
      have c0 : w4.cell? ⟨w.heap.size + 1, 0, none⟩ = some (.int .u64 (h1 : Int)) := by rw [hbl.cell (p := ⟨w.heap.size + 1, 0, none⟩) hlt]; simp [go_sem, hc]
      have c1 : w4.cell? ⟨w.heap.size + 1, 1, none⟩ = some (.int .u64 (l1 : Int)) := by rw [hbl.cell (p := ⟨w.heap.size + 1, 1, none⟩) hlt]; simp [go_sem, hc]
      have d0 : w4.frozen? ⟨w.heap.size + 1, 0, none⟩ = false := by rw [hbl.frozen (p := ⟨w.heap.size + 1, 0, none⟩) hlt, World.frozen?_setCell, World.frozen?_setCell, hf _ _ (by simp)]; exact World.frozen?_alloc_at _ _ _ _ (by simp)
      have d1 : w4.frozen? ⟨w.heap.size + 1, 1, none⟩ = false := by rw [hbl.frozen (p := ⟨w.heap.size + 1, 1, none⟩) hlt, World.frozen?_setCell, World.frozen?_setCell, hf _ _ (by simp)]; exact World.frozen?_alloc_at _ _ _ _ (by simp)
      have hz2 : w.heap.size + 1 < w4.heap.size := by have := hbl.size; simp at this; omega
      clear hwd hbl HW HBL HB hc hf hlt
      go_wp2_with fail
      refine (dec_signed h2 l2 _ _ _ HW2.out).mono ?_
      rintro e w5 ⟨rfl, hbl⟩
      have HB3 := Lib.hid (((HB2.out.setCell (by simp) _).setCell (by simp) _).trans (hbl.mono (by have := HB2.out.size; simp at *; omega)))
      clear hbl HW2 HB2 c0 c1 d0 d1
      go_wp2
      go_ret2
      exact ⟨by rw [← HM.out]; rfl, HB3.out⟩

theorem dec_div (a fa b fb t : Int) (w : World) (ha : i64 a) (hb : i64 b) :
    Calls Tryd.prog 29 #[.int .i64 a, .int .i64 fa, .int .i64 b, .int .i64 fb, .int .i64 t] w (Ans (divM a fa b fb t) w) := by
  cases hs : allB [fa, fb, t]
  · exact dec_div_no a fa b fb t w hs
  · cases q0 : (b == 0)
    · by_cases hp : t + fb - fa < 0
      · exact dec_div_neg a fa b fb t _ _ w ha hb hs q0 hp rfl rfl
      · exact dec_div_pos a fa b fb t _ _ w ha hb hs q0 (by omega) rfl rfl
    · exact dec_div_zero a fa b fb t w hs q0
end Go.Proofs.YtgkjgaelclfffaaDoor
