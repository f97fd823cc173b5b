/- Layer 7: the laws' Long. -/
import Derived.Test.YtofbignggadkiaaLogEm
namespace Go.Proofs.Ytofbignggadkiaa
open Go.RowKit

/-- is an act too long to be asked? -/
def Lm.lg (nb nt : Nat) : Int := if (400 < nb ∧ nb ≤ 65536) ∨ 200 < nt then 2000 else (nt : Int)
set_option maxHeartbeats 1000000 in
set_option maxRecDepth 100000 in
theorem law_long (k i : Int) (ab : Option Addr) (nb cb : Nat) (av : Option Addr) (nt ct : Nat) (w : World) :
    Calls Try.prog 15 #[.agg #[.int .i64 k, .int .i64 i, .slice ab nb cb, .slice av nt ct]] w fun e w' => e = .returned (.int .i64 (Lm.lg nb nt)) ∧ Below w.heap.size w w' := by
  have HB := Lib.hid (one_bs w (.cells #[.int .i64 k, .int .i64 i, .slice ab nb cb, .slice av nt ct] 46))
  by_cases h1 : 400 < nb
  · have q1 : decide ((400 : Int) < (nb : Int)) = true := by simp; omega
    by_cases h2 : nb ≤ 65536
    · have q2 : decide ((nb : Int) ≤ 65536) = true := by simp; omega
      have HF : Hid (Lm.lg nb nt = 2000) := by show _ = _; unfold Lm.lg; rw [if_pos (.inl ⟨h1, h2⟩)]
      clear h1 h2
      go_enter Try.func15, Try.ntmps15
      go_wp2
      go_ret
      exact ⟨by rw [HF.out]; rfl, HB.out⟩
    · have q2 : decide ((nb : Int) ≤ 65536) = false := by simp; omega
      by_cases h3 : 200 < nt
      · have q3 : decide ((200 : Int) < (nt : Int)) = true := by simp; omega
        have HF : Hid (Lm.lg nb nt = 2000) := by show _ = _; unfold Lm.lg; rw [if_pos (.inr h3)]
        clear h1 h2 h3
        go_enter Try.func15, Try.ntmps15
        go_wp2
        go_ret
        exact ⟨by rw [HF.out]; rfl, HB.out⟩
      · have q3 : decide ((200 : Int) < (nt : Int)) = false := by simp; omega
        have HF : Hid (Lm.lg nb nt = (nt : Int)) := by show _ = _; unfold Lm.lg; rw [if_neg (by rintro (⟨_, h⟩ | h); exact h2 h; exact h3 h)]
        clear h1 h2 h3
        go_enter Try.func15, Try.ntmps15
        go_wp2
        go_ret
        exact ⟨by rw [HF.out]; rfl, HB.out⟩
  · have q1 : decide ((400 : Int) < (nb : Int)) = false := by simp; omega
    by_cases h3 : 200 < nt
    · have q3 : decide ((200 : Int) < (nt : Int)) = true := by simp; omega
      have HF : Hid (Lm.lg nb nt = 2000) := by show _ = _; unfold Lm.lg; rw [if_pos (.inr h3)]
      clear h1 h3
      go_enter Try.func15, Try.ntmps15
      go_wp2
      go_ret
      exact ⟨by rw [HF.out]; rfl, HB.out⟩
    · have q3 : decide ((200 : Int) < (nt : Int)) = false := by simp; omega
      have HF : Hid (Lm.lg nb nt = (nt : Int)) := by show _ = _; unfold Lm.lg; rw [if_neg (by rintro (⟨h, _⟩ | h); exact h1 h; exact h3 h)]
      clear h1 h3
      go_enter Try.func15, Try.ntmps15
      go_wp2
      go_ret
      exact ⟨by rw [HF.out]; rfl, HB.out⟩
end Go.Proofs.Ytofbignggadkiaa
