/- Package decimal: divided, rounded, shifted, signed. -/
import Derived.Test.YtpbmjknhfgdnnaaGreatDoorDecA1
import Derived.Deep.RegionWith
import Derived.Deep.RegionHeld3
import Derived.Laws.Externs
namespace Go.Proofs.YtpbmjknhfgdnnaaGreatDoor
open Go.RowKit
theorem more_aux (T h l q k m : Nat) (a : h * T + l = q) (h2 : l + 1 = k * T + m) : (h + k) * T + m = q + 1 := by rw [Nat.add_mul]; omega
/-- one more -/
theorem Wd.more {h l q : Nat} (H : Wd h l q) (hq : q + 1 < 340282366920938463463374607431768211456) : ∃ c l2 : Nat, c ≤ 1 ∧ l + 1 = c * 18446744073709551616 + l2 ∧ l2 < 18446744073709551616 ∧ Wd (h + c) l2 (q + 1) := by
  obtain ⟨a, b, c⟩ := H
  obtain ⟨k, hk⟩ : ∃ k, k = (l + 1) / 18446744073709551616 := ⟨_, rfl⟩
  obtain ⟨m, hm⟩ : ∃ m, m = (l + 1) % 18446744073709551616 := ⟨_, rfl⟩
  have h1 : k ≤ 1 := by omega
  have h2 : l + 1 = k * 18446744073709551616 + m := by omega
  have h3 : m < 18446744073709551616 := by omega
  have h5 : (h + k) * 18446744073709551616 + m = q + 1 := more_aux _ h l q k m a h2
  have h6 : h + k < 18446744073709551616 := by
    have h7 : (h + k) * 18446744073709551616 < 18446744073709551616 * 18446744073709551616 := Nat.lt_of_le_of_lt (Nat.le_of_add_right_le (Nat.le_of_eq h5)) hq
    exact Nat.lt_of_mul_lt_mul_right h7
  have h4 : Wd (h + k) m (q + 1) := ⟨h5, h6, h3⟩
  exact ⟨k, m, h1, h2, h3, h4⟩
end Go.Proofs.YtpbmjknhfgdnnaaGreatDoor
/- Package decimal: shifted, signed. -/
namespace Go.Proofs.YtpbmjknhfgdnnaaGreatDoor
open Go.RowKit
theorem pow10_lt (k : Nat) (h : k ≤ 19) : 10 ^ k < 18446744073709551616 := Nat.lt_of_le_of_lt (pow10_le k h) (by decide)
end Go.Proofs.YtpbmjknhfgdnnaaGreatDoor
/- Package decimal: allRight, compare; cmp.Or. -/
namespace Go.Proofs.YtpbmjknhfgdnnaaGreatDoor
open Go.RowKit

theorem below_drew {B : Nat} {a w : World} (h : Below B a w) : Below B a w.drew := h.trans ⟨rfl, rfl, rfl, Nat.le_refl _, fun _ _ => rfl⟩
/-- all are right -/
def allB (l : List Int) : Bool := l.all scB
set_option maxHeartbeats 400000 in
theorem dec_allRight (a : Option Addr) (n c : Nat) (l : List Int) (w : World) (hn : n = l.length) (h : IntC (.slice a n c) l w) (hl : n ≤ 10) :
    Calls Tryz.prog 80 #[.slice a n c] w fun e w' => e = .returned (.bool (allB l)) ∧ w = w' := by
  have HI := Lib.hid h; have HN := Lib.hid hn
  clear h hn
  go_enter Tryz.func80, Tryz.ntmps80
  go_wp2
  go_loop [7] (fun i => ∃ j : Nat, j ≤ n ∧ i = .int .i64 (j : Int) ∧ Hid (allB (l.take j) = true)) (fun i => n - (Lib.intOf i).toNat)
  case atStart => exact ⟨0, Nat.zero_le _, rfl, rfl⟩
  case round =>
    obtain ⟨j, hj, rfl, HA⟩ := hrel
    by_cases hlt : j < n
    · obtain ⟨g, off, rfl, hg, hcell⟩ := HI.out.at j hlt
      have ht : l.take (j + 1) = l.take j ++ [l.getD j 0] := by
        have : j < l.length := by rw [← HN.out]; exact hlt
        rw [List.take_succ_eq_append_getElem this]; simp [List.getD, this]
      have hall : allB (l.take (j + 1)) = scB (l.getD j 0) := by rw [ht]; unfold allB at *; rw [List.all_append, HA.out]; simp
      have hmem : l.getD j 0 ∈ l := by
        have : j < l.length := by rw [← HN.out]; exact hlt
        simp [List.getD, this]
      have HALL := Lib.hid hall; have HMEM := Lib.hid hmem
      clear ht hall hmem
      revert HALL HMEM hcell
      generalize l.getD j 0 = x
      intro hcell HALL HMEM
      go_wp2_with fail
      refine (dec_right x _).mono ?_
      rintro e w1 ⟨rfl, rfl⟩
      cases hs : scB x
      · have hfin : allB l = false := by
          cases hh : allB l
          · rfl
          · unfold allB at hh; rw [List.all_eq_true] at hh; rw [hh x HMEM.out] at hs; cases hs
        have HF := Lib.hid hfin
        clear hfin hs
        go_wp2
        go_ret
        exact ⟨by rw [HF.out]; rfl, rfl⟩
      · have HS := Lib.hid hs
        clear hs
        go_wp2
        go_round
        case rel => exact ⟨j + 1, by omega, by go_num, by show _ = _; rw [HALL.out, HS.out]⟩
        case measure => simp [Lib.intOf]; omega
    · have hfin : allB l = true := by
        have := HA.out
        rwa [List.take_of_length_le (by rw [← HN.out]; omega)] at this
      have HF := Lib.hid hfin
      clear hfin
      go_wp2
      go_ret
      exact ⟨by rw [HF.out]; rfl, rfl⟩
/-- the first that is not nought -/
def or2 (x y : Int) : Int := if x = 0 then y else x
set_option maxHeartbeats 400000 in
theorem cmp_or2 (g : Nat) (x y : Int) (w : World) (h0 : w.cell? ⟨g, 0, none⟩ = some (.int .i64 x)) (h1 : w.cell? ⟨g, 1, none⟩ = some (.int .i64 y)) :
    Calls Tryz.prog 45 #[.slice (some ⟨g, 0, none⟩) 2 2] w fun e w' => e = .returned (.int .i64 (or2 x y)) ∧ w = w' := by
  go_enter Tryz.func45, Tryz.ntmps45
  go_wp2_with fail
  go_loop [8] (fun i => ∃ j : Nat, j ≤ 2 ∧ i = .int .i64 (j : Int) ∧ Hid ((1 ≤ j → x = 0) ∧ (2 ≤ j → y = 0))) (fun i => 2 - (Lib.intOf i).toNat)
  case atStart => exact ⟨0, by omega, rfl, by omega, by omega⟩
  case round =>
    obtain ⟨j, hj, rfl, HJ⟩ := hrel
    have hj3 : j = 0 ∨ j = 1 ∨ j = 2 := by omega
    clear hj
    rcases hj3 with rfl | rfl | rfl
    · by_cases hx : x = 0
      · have HX := Lib.hid hx
        have q1 : (x == 0) = true := by simpa using hx
        have q2 : (x != 0) = false := by simpa using hx
        clear hx
        go_wp2
        go_round
        case rel => exact ⟨1, by omega, by go_num, by show _ ∧ _; exact ⟨fun _ => HX.out, fun h => by omega⟩⟩
        case measure => simp [Lib.intOf]
      · have hm : or2 x y = x := by unfold or2; rw [if_neg hx]
        have HM := Lib.hid hm
        have q1 : (x == 0) = false := by simpa using hx
        have q2 : (x != 0) = true := by simpa using hx
        clear hm hx
        go_wp2
        go_ret
        exact ⟨by rw [HM.out]; rfl, rfl⟩
    · have hx : x = 0 := HJ.out.1 (by omega)
      have hm : or2 x y = y := by unfold or2; rw [if_pos hx]
      have HM := Lib.hid hm
      have HX := Lib.hid hx
      clear hm hx
      by_cases hy : y = 0
      · have HY := Lib.hid hy
        have q1 : (y == 0) = true := by simpa using hy
        have q2 : (y != 0) = false := by simpa using hy
        clear hy
        go_wp2
        go_round
        case rel => exact ⟨2, by omega, by go_num, by show _ ∧ _; exact ⟨fun _ => HX.out, fun _ => HY.out⟩⟩
        case measure => simp [Lib.intOf]
      · have q1 : (y == 0) = false := by simpa using hy
        have q2 : (y != 0) = true := by simpa using hy
        clear hy
        go_wp2
        go_ret
        exact ⟨by rw [HM.out]; rfl, rfl⟩
    · have hm : or2 x y = 0 := by unfold or2; rw [if_pos (HJ.out.1 (by omega))]; exact HJ.out.2 (by omega)
      have HM := Lib.hid hm
      clear hm
      go_wp2
      go_ret
      exact ⟨by rw [HM.out]; rfl, rfl⟩
theorem cmp_of_lt {a b : Nat} (h : a < b) : Dm.cmp a b = -1 := by unfold Dm.cmp; rw [if_pos h]
theorem cmp_of_gt {a b : Nat} (h : b < a) : Dm.cmp a b = 1 := by unfold Dm.cmp; rw [if_neg (by omega), if_pos h]
theorem cmp_self (a : Nat) : Dm.cmp a a = 0 := by unfold Dm.cmp; rw [if_neg (by omega), if_neg (by omega)]
theorem or_cmp (h l n h' l' n' : Nat) (H : Wd h l n) (H' : Wd h' l' n') : or2 (Dm.cmp h h') (Dm.cmp l l') = Dm.cmp n n' := by
  obtain ⟨a, b, c⟩ := H
  obtain ⟨a', b', c'⟩ := H'
  rcases Nat.lt_trichotomy h h' with e | e | e
  · rw [cmp_of_lt e, cmp_of_lt (by omega : n < n')]; rfl
  · subst e
    rw [cmp_self]
    show Dm.cmp l l' = _
    rcases Nat.lt_trichotomy l l' with e | e | e
    · rw [cmp_of_lt e, cmp_of_lt (by omega : n < n')]
    · rw [show l' = l by omega, show n' = n by omega, cmp_self, cmp_self]
    · rw [cmp_of_gt e, cmp_of_gt (by omega : n' < n)]
  · rw [cmp_of_gt e, cmp_of_gt (by omega : n' < n)]; rfl
end Go.Proofs.YtpbmjknhfgdnnaaGreatDoor
/- Package decimal: compare of two numbers of 128 bits. -/
namespace Go.Proofs.YtpbmjknhfgdnnaaGreatDoor
open Go.RowKit

theorem cells2 (W : World) (g : Nat) (hg : g = W.heap.size) (a b : Value) (t : TypeId) : (W.alloc (.cells #[a, b] t)).cell? ⟨g, 0, none⟩ = some a ∧ (W.alloc (.cells #[a, b] t)).cell? ⟨g, 1, none⟩ = some b := by
  subst hg; exact ⟨by simp [World.cell?_alloc_new], by simp [World.cell?_alloc_new]⟩
theorem cells2d (W : World) (g : Nat) (hg : g = W.heap.size) (a b : Value) (t : TypeId) : (W.alloc (.cells #[a, b] t)).drew.cell? ⟨g, 0, none⟩ = some a ∧ (W.alloc (.cells #[a, b] t)).drew.cell? ⟨g, 1, none⟩ = some b := cells2 W g hg a b t
set_option maxHeartbeats 4000000 in
theorem dec_wcompare (h l n h' l' n' : Nat) (w : World) (H : Wd h l n) (H' : Wd h' l' n') :
    Calls Tryz.prog 83 #[.agg #[.int .u64 (h : Int), .int .u64 (l : Int)], .agg #[.int .u64 (h' : Int), .int .u64 (l' : Int)]] w (Num (Dm.cmp n n') w) := by
  have HE := Lib.hid (or_cmp h l n h' l' n' H H')
  clear H H'
  go_enter Tryz.func83, Tryz.ntmps83
  go_upto_region 1 with (fail)
  go_region_held3 (fun w' => w'.cell? ⟨w.heap.size, 0, none⟩ = some (.int .u64 (h : Int)) ∧ w'.cell? ⟨w.heap.size, 1, none⟩ = some (.int .u64 (l : Int)) ∧ w'.cell? ⟨w.heap.size + 1, 0, none⟩ = some (.int .u64 (h' : Int)) ∧ w'.cell? ⟨w.heap.size + 1, 1, none⟩ = some (.int .u64 (l' : Int))) (go_keep) (first
    | (go_at_call 105; refine (cmp_u64 _ _ _).mono ?_; rintro e w1 ⟨rfl, rfl⟩)
    | (go_at_call 45; refine (cmp_or2 _ (Dm.cmp h h') (Dm.cmp l l') _ (by exact (cells2d _ _ (by simp) _ _ _).1) (by exact (cells2d _ _ (by simp) _ _ _).2)).mono ?_; rintro e w1 ⟨rfl, rfl⟩))
  all_goals
    go_wp2
    go_ret
    exact ⟨by rw [← HE.out]; rfl, below_drew ((((Below.refl _ _).alloc (Nat.le_refl _) _).alloc (by simp) _).alloc (by simp; omega) _)⟩
end Go.Proofs.YtpbmjknhfgdnnaaGreatDoor
/- Package decimal: shifted in one; Mul, Rescale. -/
namespace Go.Proofs.YtpbmjknhfgdnnaaGreatDoor
open Go.RowKit
theorem lit2 (w : World) (x y : Int) : IntC (.slice (some ⟨w.heap.size, 0, none⟩) 2 2) [x, y] (w.alloc (.cells #[.int .i64 x, .int .i64 y] 3)) := by
  refine .inr ⟨w.heap.size, 0, 2, rfl, Nat.le_refl _, by simp, ?_⟩
  intro j hj
  have hj3 : j = 0 ∨ j = 1 := by simp at hj; omega
  rcases hj3 with rfl | rfl <;> simp [World.cell?_alloc_new]
theorem all2 (x y : Int) : allB [x, y] = (scB x && scB y) := by simp [allB]
theorem natAbs_lt (a : Int) (h : i64 a) : a.natAbs < 18446744073709551616 := by unfold i64 at h; omega
end Go.Proofs.YtpbmjknhfgdnnaaGreatDoor
/- Package decimal: Compare. -/
namespace Go.Proofs.YtpbmjknhfgdnnaaGreatDoor
open Go.RowKit

theorem dec_compare_no (a fa b fb : Int) (w : World) (hs : allB [fa, fb] = false) : Calls Tryz.prog 59 #[.int .i64 a, .int .i64 fa, .int .i64 b, .int .i64 fb] w (Num (compM a fa b fb) w) := by
  have hm : compM a fa b fb = 0 := by
    rw [all2] at hs
    unfold compM
    rw [hs]; rfl
  have HM := Lib.hid hm; have HS := Lib.hid hs
  clear hm hs
  go_enter Tryz.func59, Tryz.ntmps59
  go_wp2_with fail
  refine (dec_allRight _ 2 2 [fa, fb] _ rfl (lit2 w fa fb) (by omega)).mono ?_
  rintro e w1 ⟨rfl, rfl⟩
  rw [HS.out]
  go_wp2
  go_ret
  exact ⟨by rw [HM.out]; rfl, (Below.refl _ _).alloc (Nat.le_refl _) _⟩
set_option maxHeartbeats 400000 in
theorem dec_compare_signs (a fa b fb : Int) (sa sb : Bool) (w : World) (hs : allB [fa, fb] = true) (qa : decide (a < 0) = sa) (qb : decide (b < 0) = sb) (hne : sa ≠ sb) : Calls Tryz.prog 59 #[.int .i64 a, .int .i64 fa, .int .i64 b, .int .i64 fb] w (Num (compM a fa b fb) w) := by
  have hm : compM a fa b fb = Lib.compareInt a b := by
    rw [all2] at hs
    unfold compM Lib.compareInt
    rw [hs, qa, qb]
    cases sa <;> cases sb
    · exact absurd rfl hne
    · simp at qa qb ⊢; omega
    · simp at qa qb ⊢; omega
    · exact absurd rfl hne
  have HM := Lib.hid hm; have HS := Lib.hid hs
  clear hm hs
  cases sa <;> cases sb
  · exact absurd rfl hne
  all_goals first | (exact absurd rfl hne) | skip
  all_goals
    clear hne
    go_enter Tryz.func59, Tryz.ntmps59
    go_wp2_with fail
    refine (dec_allRight _ 2 2 [fa, fb] _ rfl (lit2 w fa fb) (by omega)).mono ?_
    rintro e w1 ⟨rfl, rfl⟩
    rw [HS.out]
    go_wp2_with fail
    refine (Tryz.cmp_Compare_int a b _).mono ?_
    rintro e w1 ⟨rfl, rfl⟩
    go_wp2
    go_ret
    exact ⟨by rw [HM.out]; rfl, (Below.refl _ _).alloc (Nat.le_refl _) _⟩
set_option maxHeartbeats 1000000 in
theorem dec_compare_same (a fa b fb : Int) (s : Bool) (w : World) (ha : i64 a) (hb : i64 b) (hs : allB [fa, fb] = true) (qa : decide (a < 0) = s) (qb : decide (b < 0) = s) : Calls Tryz.prog 59 #[.int .i64 a, .int .i64 fa, .int .i64 b, .int .i64 fb] w (Num (compM a fa b fb) w) := by
  have hf : (0 ≤ fa ∧ fa ≤ 6) ∧ (0 ≤ fb ∧ fb ≤ 6) := by
    rw [all2] at hs
    simp only [Bool.and_eq_true] at hs
    exact ⟨scB_true hs.1, scB_true hs.2⟩
  obtain ⟨⟨f1, f2⟩, ⟨g1, g2⟩⟩ := hf
  have hm : compM a fa b fb = if s then -(Dm.cmp (a.natAbs * 10 ^ fb.toNat) (b.natAbs * 10 ^ fa.toNat)) else Dm.cmp (a.natAbs * 10 ^ fb.toNat) (b.natAbs * 10 ^ fa.toNat) := by
    rw [all2] at hs
    unfold compM
    rw [hs, qa, qb]
    cases s <;> rfl
  have HM := Lib.hid hm; have HS := Lib.hid hs
  have HA := Lib.hid (dec_mag a · ha); have HB := Lib.hid (dec_mag b · hb)
  have LA := Lib.hid (natAbs_lt a ha); have LB := Lib.hid (natAbs_lt b hb)
  obtain ⟨ka, rfl⟩ : ∃ k : Nat, fa = (k : Int) := ⟨fa.toNat, by omega⟩
  obtain ⟨kb, rfl⟩ : ∃ k : Nat, fb = (k : Int) := ⟨fb.toNat, by omega⟩
  simp only [Int.toNat_natCast] at HM
  have HPA := Lib.hid (dec_power ka · (by omega)); have HPB := Lib.hid (dec_power kb · (by omega))
  have LPA := Lib.hid (pow10_lt ka (by omega)); have LPB := Lib.hid (pow10_lt kb (by omega))
  clear hm hs ha hb
  revert HM HPA HPB LPA LPB HA HB LA LB
  generalize 10 ^ ka = pa
  generalize 10 ^ kb = pb
  generalize a.natAbs = A
  generalize b.natAbs = B
  intro HA HB LA LB HM HPA HPB LPA LPB
  cases s
  all_goals
    go_enter Tryz.func59, Tryz.ntmps59
    go_wp2_with fail
    refine (dec_allRight _ 2 2 [(ka : Int), (kb : Int)] _ rfl (lit2 w _ _) (by omega)).mono ?_
    rintro e w1 ⟨rfl, rfl⟩
    rw [HS.out]
    go_wp2_with fail
    refine (HA.out _).mono ?_
    rintro e w1 ⟨rfl, rfl⟩
    clear HA
    go_wp2_with fail
    refine (HPB.out _).mono ?_
    rintro e w1 ⟨rfl, rfl⟩
    clear HPB
    go_wp2_with fail
    refine (dec_product A pb _ LA.out LPB.out).mono ?_
    rintro e w1 ⟨h1, l1, rfl, hwd, hbl⟩
    have HW := Lib.hid hwd; have HBL := Lib.hid hbl
    clear hwd hbl
    go_wp2_with fail
    refine (HB.out _).mono ?_
    rintro e w2 ⟨rfl, rfl⟩
    clear HB
    go_wp2_with fail
    refine (HPA.out _).mono ?_
    rintro e w2 ⟨rfl, rfl⟩
    clear HPA
    go_wp2_with fail
    refine (dec_product B pa _ LB.out LPA.out).mono ?_
    rintro e w2 ⟨h2, l2, rfl, hwd, hbl⟩
    have HW2 := Lib.hid hwd; have HBL2 := Lib.hid (HBL.out.trans (hbl.mono HBL.out.size))
    clear hwd hbl HBL
    go_wp2_with fail
    refine (dec_wcompare h1 l1 _ h2 l2 _ _ HW.out HW2.out).mono ?_
    rintro e w3 ⟨rfl, hbl⟩
    have HB3 := Lib.hid (HBL2.out.trans (hbl.mono HBL2.out.size))
    have hc := cmp_le (A * pb) (B * pa)
    clear hbl HW HW2 HBL2
    revert HM hc
    generalize Dm.cmp (A * pb) (B * pa) = c
    intro HM hc
    obtain ⟨hc1, hc2⟩ := hc
    go_wp2
    go_ret
    exact ⟨by rw [HM.out]; rfl, ((Below.refl _ _).alloc (Nat.le_refl _) _).trans (HB3.out.mono (by simp))⟩
theorem dec_compare (a fa b fb : Int) (w : World) (ha : i64 a) (hb : i64 b) : Calls Tryz.prog 59 #[.int .i64 a, .int .i64 fa, .int .i64 b, .int .i64 fb] w (Num (compM a fa b fb) w) := by
  cases hs : allB [fa, fb]
  · exact dec_compare_no a fa b fb w hs
  · by_cases hq : decide (a < 0) = decide (b < 0)
    · exact dec_compare_same a fa b fb _ w ha hb hs rfl hq.symm
    · exact dec_compare_signs a fa b fb _ _ w hs rfl rfl hq
end Go.Proofs.YtpbmjknhfgdnnaaGreatDoor
/- The laws of layer 2, in plain numbers. -/
namespace Go.Proofs.YtpbmjknhfgdnnaaGreatDoor

theorem mul_comm (a fa b fb t : Int) : mulM a fa b fb t = mulM b fb a fa t := by
  unfold mulM
  rw [Int.add_comm fa fb, Nat.mul_comm a.natAbs b.natAbs, Bool.and_comm (scB fa) (scB fb), bne_comm]
theorem mul_one (a fa t : Int) : mulM a fa 1 0 t = divM a fa 1 0 t := by
  unfold mulM divM
  cases h1 : scB fa <;> cases h2 : scB t <;> simp [scB] <;> rfl
/-- how two integers compare -/
def icmp (x y : Int) : Int := if x < y then -1 else if y < x then 1 else 0
theorem icmp_scale (x y c : Int) (hc : 0 < c) : icmp (x * c) (y * c) = icmp x y := by
  unfold icmp
  have h1 : x * c < y * c ↔ x < y := Int.mul_lt_mul_right hc
  have h2 : y * c < x * c ↔ y < x := Int.mul_lt_mul_right hc
  simp only [h1, h2]
theorem comp_int (a fa b fb : Int) (h1 : scB fa = true) (h2 : scB fb = true) : compM a fa b fb = icmp (a * 10 ^ fb.toNat) (b * 10 ^ fa.toNat) := by
  unfold compM
  rw [h1, h2]
  have pa : (0 : Int) < 10 ^ fa.toNat := Int.pow_pos (by omega)
  have pb : (0 : Int) < 10 ^ fb.toNat := Int.pow_pos (by omega)
  have ca : ((10 ^ fa.toNat : Nat) : Int) = (10 : Int) ^ fa.toNat := by push_cast; rfl
  have cb : ((10 ^ fb.toNat : Nat) : Int) = (10 : Int) ^ fb.toNat := by push_cast; rfl
  rw [← ca, ← cb]
  rw [← ca] at pa
  rw [← cb] at pb
  generalize 10 ^ fa.toNat = p at *
  generalize 10 ^ fb.toNat = q at *
  have na := Int.natCast_mul a.natAbs q
  have nb := Int.natCast_mul b.natAbs p
  show (if decide (a < 0) = true then _ else _) = _
  unfold icmp Dm.cmp
  by_cases ha : a < 0 <;> by_cases hb : b < 0
  · rw [if_pos (by simpa using ha), if_pos (by simpa using hb)]
    rw [show (a.natAbs : Int) = -a by omega, Int.neg_mul] at na
    rw [show (b.natAbs : Int) = -b by omega, Int.neg_mul] at nb
    repeat' split
    all_goals omega
  · have h3 := Int.mul_neg_of_neg_of_pos ha pb
    have h4 := Int.mul_nonneg (show 0 ≤ b by omega) (Int.le_of_lt pa)
    rw [if_pos (by simpa using ha), if_neg (by simpa using hb), if_pos (by omega)]
  · have h3 := Int.mul_neg_of_neg_of_pos hb pa
    have h4 := Int.mul_nonneg (show 0 ≤ a by omega) (Int.le_of_lt pb)
    rw [if_neg (by simpa using ha), if_pos (by simpa using hb), if_neg (by omega), if_pos (by omega)]
  · rw [if_neg (by simpa using ha), if_neg (by simpa using hb)]
    rw [show (a.natAbs : Int) = a by omega] at na
    rw [show (b.natAbs : Int) = b by omega] at nb
    repeat' split
    all_goals omega
theorem comp_range (a fa b fb : Int) : -1 ≤ compM a fa b fb ∧ compM a fa b fb ≤ 1 := by
  have h := cmp_le (a.natAbs * 10 ^ fb.toNat) (b.natAbs * 10 ^ fa.toNat)
  unfold compM
  repeat' split
  all_goals omega
/-- what is left of a division -/
structure Rest (a b r : Int) : Prop where
  i : i64 r
  up : 0 ≤ a → 0 ≤ r
  down : a ≤ 0 → r ≤ 0
  pos : 0 < b → r < b ∧ -b < r
  neg : b < 0 → r < -b ∧ b < r
  sub : i64 (a - r)
  zero : (a - r).tmod b = 0
theorem rest (a b : Int) (ha : i64 a) (hb : i64 b) (h0 : b ≠ 0) : Rest a b (a.tmod b) := by
  have e := Int.tmod_add_mul_tdiv a b
  have hz : (a - a.tmod b).tmod b = 0 := by
    rw [show a - a.tmod b = b * a.tdiv b by omega]; exact Int.mul_tmod_right _ _
  have hlt : (a.tmod b).natAbs < b.natAbs := by
    rw [Int.natAbs_tmod]; exact Nat.mod_lt _ (by omega)
  have hle : (a.tmod b).natAbs ≤ a.natAbs := by
    rw [Int.natAbs_tmod]; exact Nat.mod_le _ _
  have hup : 0 ≤ a → 0 ≤ a.tmod b := fun h => Int.tmod_nonneg b h
  have hdn : a ≤ 0 → a.tmod b ≤ 0 := fun h => by
    have := Int.tmod_nonneg b (show 0 ≤ -a by omega)
    rw [Int.neg_tmod] at this; omega
  obtain ⟨a1, a2⟩ := ha
  obtain ⟨b1, b2⟩ := hb
  refine ⟨⟨by omega, by omega⟩, hup, hdn, fun h => ⟨by omega, by omega⟩, fun h => ⟨by omega, by omega⟩, ?_, hz⟩
  rcases Int.le_total 0 a with h | h
  · have := hup h; exact ⟨by omega, by omega⟩
  · have := hdn h; exact ⟨by omega, by omega⟩
end Go.Proofs.YtpbmjknhfgdnnaaGreatDoor
