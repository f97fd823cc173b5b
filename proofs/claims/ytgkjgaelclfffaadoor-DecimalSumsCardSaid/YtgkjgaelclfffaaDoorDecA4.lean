/- Package decimal: allRight, compare; cmp.Or. -/
import Derived.Test.YtgkjgaelclfffaaDoorDecA3
namespace Go.Proofs.YtgkjgaelclfffaaDoor
open Go.RowKit

theorem below_drew {B : Nat} {a w : World} (h : Below B a w) : Below B a w.drew := h.trans ⟨rfl, rfl, rfl, Nat.le_refl _, fun _ _ => rfl⟩
/-- all are right -/
def allB (l : List Int) : Bool := l.all scB

set_option maxHeartbeats 400000 in
theorem dec_allRight (a : Option Addr) (n c : Nat) (l : List Int) (w : World) (hn : n = l.length) (h : IntC (.slice a n c) l w) (hl : n ≤ 10) :
    Calls Tryd.prog 47 #[.slice a n c] w fun e w' => e = .returned (.bool (allB l)) ∧ w = w' := by
  have HI := Lib.hid h; have HN := Lib.hid hn
  clear h hn
  go_enter Tryd.func47, Tryd.ntmps47
  go_wp2
  go_loop [7] (fun i => ∃ j : Nat, j ≤ n ∧ i = .int .i64 (j : Int) ∧ Hid (allB (l.take j) = true)) (fun i => n - (Lib.intOf i).toNat)
  case atStart => exact ⟨0, Nat.zero_le _, rfl, rfl⟩
  case round =>
    obtain ⟨j, hj, rfl, HA⟩ := hrel
    by_cases hlt : j < n
    · obtain ⟨g, off, rfl, hg, hcell⟩ := HI.out.at j hlt
      have ht : l.take (j + 1) = l.take j ++ [l.getD j 0] := by
        have : j < l.length := by rw [← HN.out]; exact hlt
        rw [List.take_succ_eq_append_getElem this]; simp [List.getD, this]
      have hall : allB (l.take (j + 1)) = scB (l.getD j 0) := by rw [ht]; unfold allB at *; rw [List.all_append, HA.out]; simp
      have hmem : l.getD j 0 ∈ l := by
        have : j < l.length := by rw [← HN.out]; exact hlt
        simp [List.getD, this]
      have HALL := Lib.hid hall; have HMEM := Lib.hid hmem
      clear ht hall hmem
      revert HALL HMEM hcell
      generalize l.getD j 0 = x
      intro hcell HALL HMEM
      go_wp2_with fail
      refine (dec_right x _).mono ?_
      rintro e w1 ⟨rfl, rfl⟩
      cases hs : scB x
      · have hfin : allB l = false := by
          cases hh : allB l
          · rfl
          · unfold allB at hh; rw [List.all_eq_true] at hh; rw [hh x HMEM.out] at hs; cases hs
        have HF := Lib.hid hfin
        clear hfin hs
        go_wp2
        go_ret
        exact ⟨by rw [HF.out]; rfl, rfl⟩
      · have HS := Lib.hid hs
        clear hs
        go_wp2
        go_round
        case rel => exact ⟨j + 1, by omega, by go_num, by show _ = _; rw [HALL.out, HS.out]⟩
        case measure => simp [Lib.intOf]; omega
    · have hfin : allB l = true := by
        have := HA.out
        rwa [List.take_of_length_le (by rw [← HN.out]; omega)] at this
      have HF := Lib.hid hfin
      clear hfin
      go_wp2
      go_ret
      exact ⟨by rw [HF.out]; rfl, rfl⟩

/-- the first that is not nought -/
def or2 (x y : Int) : Int := if x = 0 then y else x

set_option maxHeartbeats 400000 in
theorem cmp_or2 (g : Nat) (x y : Int) (w : World) (h0 : w.cell? ⟨g, 0, none⟩ = some (.int .i64 x)) (h1 : w.cell? ⟨g, 1, none⟩ = some (.int .i64 y)) :
    Calls Tryd.prog 76 #[.slice (some ⟨g, 0, none⟩) 2 2] w fun e w' => e = .returned (.int .i64 (or2 x y)) ∧ w = w' := by
  go_enter Tryd.func76, Tryd.ntmps76
  go_wp2_with fail
  go_loop [8] (fun i => ∃ j : Nat, j ≤ 2 ∧ i = .int .i64 (j : Int) ∧ Hid ((1 ≤ j → x = 0) ∧ (2 ≤ j → y = 0))) (fun i => 2 - (Lib.intOf i).toNat)
  case atStart => exact ⟨0, by omega, rfl, by omega, by omega⟩
  case round =>
    obtain ⟨j, hj, rfl, HJ⟩ := hrel
    have hj3 : j = 0 ∨ j = 1 ∨ j = 2 := by omega
    clear hj
    rcases hj3 with rfl | rfl | rfl
    · by_cases hx : x = 0
      · have HX := Lib.hid hx
        have q1 : (x == 0) = true := by simpa using hx
        have q2 : (x != 0) = false := by simpa using hx
        clear hx
        go_wp2
        go_round
        case rel => exact ⟨1, by omega, by go_num, by show _ ∧ _; exact ⟨fun _ => HX.out, fun h => by omega⟩⟩
        case measure => simp [Lib.intOf]
      · have hm : or2 x y = x := by unfold or2; rw [if_neg hx]
        have HM := Lib.hid hm
        have q1 : (x == 0) = false := by simpa using hx
        have q2 : (x != 0) = true := by simpa using hx
        clear hm hx
        go_wp2
        go_ret
        exact ⟨by rw [HM.out]; rfl, rfl⟩
    · have hx : x = 0 := HJ.out.1 (by omega)
      have hm : or2 x y = y := by unfold or2; rw [if_pos hx]
      have HM := Lib.hid hm
      have HX := Lib.hid hx
      clear hm hx
      by_cases hy : y = 0
      · have HY := Lib.hid hy
        have q1 : (y == 0) = true := by simpa using hy
        have q2 : (y != 0) = false := by simpa using hy
        clear hy
        go_wp2
        go_round
        case rel => exact ⟨2, by omega, by go_num, by show _ ∧ _; exact ⟨fun _ => HX.out, fun _ => HY.out⟩⟩
        case measure => simp [Lib.intOf]
      · have q1 : (y == 0) = false := by simpa using hy
        have q2 : (y != 0) = true := by simpa using hy
        clear hy
        go_wp2
        go_ret
        exact ⟨by rw [HM.out]; rfl, rfl⟩
    · have hm : or2 x y = 0 := by unfold or2; rw [if_pos (HJ.out.1 (by omega))]; exact HJ.out.2 (by omega)
      have HM := Lib.hid hm
      clear hm
      go_wp2
      go_ret
      exact ⟨by rw [HM.out]; rfl, rfl⟩

theorem cmp_of_lt {a b : Nat} (h : a < b) : Dm.cmp a b = -1 := by unfold Dm.cmp; rw [if_pos h]
theorem cmp_of_gt {a b : Nat} (h : b < a) : Dm.cmp a b = 1 := by unfold Dm.cmp; rw [if_neg (by omega), if_pos h]
theorem cmp_self (a : Nat) : Dm.cmp a a = 0 := by unfold Dm.cmp; rw [if_neg (by omega), if_neg (by omega)]
theorem or_cmp (h l n h' l' n' : Nat) (H : Wd h l n) (H' : Wd h' l' n') : or2 (Dm.cmp h h') (Dm.cmp l l') = Dm.cmp n n' := by
  obtain ⟨a, b, c⟩ := H
  obtain ⟨a', b', c'⟩ := H'
  rcases Nat.lt_trichotomy h h' with e | e | e
  · rw [cmp_of_lt e, cmp_of_lt (by omega : n < n')]; rfl
  · subst e
    rw [cmp_self]
    show Dm.cmp l l' = _
    rcases Nat.lt_trichotomy l l' with e | e | e
    · rw [cmp_of_lt e, cmp_of_lt (by omega : n < n')]
    · rw [show l' = l by omega, show n' = n by omega, cmp_self, cmp_self]
    · rw [cmp_of_gt e, cmp_of_gt (by omega : n' < n)]
  · rw [cmp_of_gt e, cmp_of_gt (by omega : n' < n)]; rfl

end Go.Proofs.YtgkjgaelclfffaaDoor
