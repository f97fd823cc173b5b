/- Package decimal: Add, Sub, Mod. -/
import Derived.Test.YtgkjgaelclfffaaDoorDecA1
namespace Go.Proofs.YtgkjgaelclfffaaDoor
open Go.RowKit

theorem ansV_in (A : Nat) (s : Bool) : ansV A s = if (if s then A ≤ 9223372036854775808 else A ≤ 9223372036854775807) then ((if s then -(A : Int) else (A : Int)), 0) else (0, 20) := by
  unfold ansV; cases s <;> simp
/-- the sum, or 0 and that it is beyond the ends -/
def inM (x : Int) : Int × Int := if -9223372036854775808 ≤ x ∧ x ≤ 9223372036854775807 then (x, 0) else (0, 20)

theorem sum_eq (a b : Int) (ha : i64 a) (hb : i64 b) : sumM a b = inM (a + b) := by
  unfold i64 at ha hb
  unfold sumM inM ansV
  by_cases h1 : a < 0 <;> by_cases h2 : b < 0
  · rw [decide_eq_true h1, decide_eq_true h2]
    simp only [beq_self_eq_true, if_true]
    by_cases h3 : a.natAbs + b.natAbs ≤ 9223372036854775808
    · rw [if_pos h3, if_pos (by omega)]; congr 1; omega
    · rw [if_neg h3, if_neg (by omega)]
  · rw [decide_eq_true h1, decide_eq_false h2, if_neg (by decide), if_pos (by omega)]
  · rw [decide_eq_false h1, decide_eq_true h2, if_neg (by decide), if_pos (by omega)]
  · rw [decide_eq_false h1, decide_eq_false h2, if_pos (by decide), if_neg (by decide)]
    by_cases h3 : a.natAbs + b.natAbs ≤ 9223372036854775807
    · rw [if_pos h3, if_pos (by omega)]; congr 1; omega
    · rw [if_neg h3, if_neg (by omega)]
theorem diff_eq (a b : Int) (ha : i64 a) (hb : i64 b) : diffM a b = inM (a - b) := by
  unfold i64 at ha hb
  unfold diffM inM ansV
  by_cases h1 : a < 0 <;> by_cases h2 : b < 0
  · rw [decide_eq_true h1, decide_eq_true h2, if_pos (by decide), if_pos (by omega)]
  · rw [decide_eq_true h1, decide_eq_false h2, if_neg (by decide), if_pos rfl]
    by_cases h3 : a.natAbs + b.natAbs ≤ 9223372036854775808
    · rw [if_pos h3, if_pos (by omega)]; congr 1; omega
    · rw [if_neg h3, if_neg (by omega)]
  · rw [decide_eq_false h1, decide_eq_true h2, if_neg (by decide), if_neg (by decide)]
    by_cases h3 : a.natAbs + b.natAbs ≤ 9223372036854775807
    · rw [if_pos h3, if_pos (by omega)]; congr 1; omega
    · rw [if_neg h3, if_neg (by omega)]
  · rw [decide_eq_false h1, decide_eq_false h2, if_pos (by decide), if_pos (by omega)]

/-- what a function that answers two numbers and leaves memory as it was leaves -/
def Two (p : Int × Int) (w : World) (e : Ending) (w' : World) : Prop := e = .returned (.tuple #[.int .i64 p.1, .int .i64 p.2]) ∧ w = w'

theorem dec_add (a b : Int) (w : World) (ha : i64 a) (hb : i64 b) : Calls Tryd.prog 23 #[.int .i64 a, .int .i64 b] w (Two (sumM a b) w) := by
  rw [sum_eq a b ha hb]
  obtain ⟨a1, a2⟩ := ha
  obtain ⟨b1, b2⟩ := hb
  by_cases h : -9223372036854775808 ≤ a + b ∧ a + b ≤ 9223372036854775807
  · have hm : inM (a + b) = (a + b, 0) := by unfold inM; rw [if_pos h]
    have HM := Lib.hid hm
    obtain ⟨h1, h2⟩ := h
    clear hm
    have q : decide (a < a + b) = decide (0 < b) := decide_eq_decide.2 (by omega)
    by_cases hp : 0 < b
    all_goals
      first | rw [decide_eq_true hp] at q | rw [decide_eq_false hp] at q
      go_enter Tryd.func23, Tryd.ntmps23
      go_wp2
      go_ret2
      exact ⟨by rw [HM.out]; rfl, rfl⟩
  · have hm : inM (a + b) = (0, 20) := by unfold inM; rw [if_neg h]
    have HM := Lib.hid hm
    clear hm
    by_cases hp : 0 < b
    · have e : wrap64 (a + b) = a + b - 18446744073709551616 := by unfold wrap64; omega
      have q : decide (a < a + b - 18446744073709551616) = false := by rw [decide_eq_false_iff_not]; omega
      clear h
      go_enter Tryd.func23, Tryd.ntmps23
      go_wp2
      go_ret2
      exact ⟨by rw [HM.out]; rfl, rfl⟩
    · have e : wrap64 (a + b) = a + b + 18446744073709551616 := by unfold wrap64; omega
      have q : decide (a < a + b + 18446744073709551616) = true := by rw [decide_eq_true_iff]; omega
      have hn : b < 0 := by omega
      clear h
      go_enter Tryd.func23, Tryd.ntmps23
      go_wp2
      go_ret2
      exact ⟨by rw [HM.out]; rfl, rfl⟩

theorem dec_sub (a b : Int) (w : World) (ha : i64 a) (hb : i64 b) : Calls Tryd.prog 25 #[.int .i64 a, .int .i64 b] w (Two (diffM a b) w) := by
  rw [diff_eq a b ha hb]
  obtain ⟨a1, a2⟩ := ha
  obtain ⟨b1, b2⟩ := hb
  by_cases h : -9223372036854775808 ≤ a - b ∧ a - b ≤ 9223372036854775807
  · have hm : inM (a - b) = (a - b, 0) := by unfold inM; rw [if_pos h]
    have HM := Lib.hid hm
    obtain ⟨h1, h2⟩ := h
    clear hm
    have q : decide (a - b < a) = decide (0 < b) := decide_eq_decide.2 (by omega)
    by_cases hp : 0 < b
    all_goals
      first | rw [decide_eq_true hp] at q | rw [decide_eq_false hp] at q
      go_enter Tryd.func25, Tryd.ntmps25
      go_wp2
      go_ret2
      exact ⟨by rw [HM.out]; rfl, rfl⟩
  · have hm : inM (a - b) = (0, 20) := by unfold inM; rw [if_neg h]
    have HM := Lib.hid hm
    clear hm
    by_cases hp : 0 < b
    · have e : wrap64 (a - b) = a - b + 18446744073709551616 := by unfold wrap64; omega
      have q : decide (a - b + 18446744073709551616 < a) = false := by rw [decide_eq_false_iff_not]; omega
      clear h
      go_enter Tryd.func25, Tryd.ntmps25
      go_wp2
      go_ret2
      exact ⟨by rw [HM.out]; rfl, rfl⟩
    · have e : wrap64 (a - b) = a - b - 18446744073709551616 := by unfold wrap64; omega
      have q : decide (a - b - 18446744073709551616 < a) = true := by rw [decide_eq_true_iff]; omega
      have hn : b < 0 := by omega
      clear h
      go_enter Tryd.func25, Tryd.ntmps25
      go_wp2
      go_ret2
      exact ⟨by rw [HM.out]; rfl, rfl⟩

/-- Mod in plain numbers -/
def modM (a b : Int) : Int × Int := if b = 0 then (0, 21) else (a.tmod b, 0)

theorem dec_mod (a b : Int) (w : World) (ha : i64 a) (hb : i64 b) : Calls Tryd.prog 31 #[.int .i64 a, .int .i64 b] w (Two (modM a b) w) := by
  obtain ⟨a1, a2⟩ := ha
  obtain ⟨b1, b2⟩ := hb
  by_cases h0 : b = 0
  · have hm : modM a b = (0, 21) := by unfold modM; rw [if_pos h0]
    have HM := Lib.hid hm
    have q : (b == 0) = true := by simpa using h0
    clear hm h0
    go_enter Tryd.func31, Tryd.ntmps31
    go_wp2
    go_ret2
    exact ⟨by rw [HM.out]; rfl, rfl⟩
  · have hm : modM a b = (a.tmod b, 0) := by unfold modM; rw [if_neg h0]
    have HM := Lib.hid hm
    have q : (b == 0) = false := by simpa using h0
    clear hm
    go_enter Tryd.func31, Tryd.ntmps31
    go_wp2
    go_ret2
    exact ⟨by rw [HM.out]; rfl, rfl⟩
end Go.Proofs.YtgkjgaelclfffaaDoor
