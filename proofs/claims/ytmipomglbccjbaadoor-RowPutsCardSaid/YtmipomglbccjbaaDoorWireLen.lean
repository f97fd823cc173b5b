/- math/bits.Len64 returns the number of bits that its argument needs. -/
import Derived.Test.YtmipomglbccjbaaDoorRows
import Derived.Lib.Strings
import Derived.Lib.Slices
import Derived.Lib.Small
import Derived.Lib.Walk
import Derived.Lib.BitFns
namespace Go.Proofs.YtmipomglbccjbaaDoor

/-- a number of more than s and at most s + 8 bits, by its highest byte -/
theorem bitLen_top (x s : Nat) (h0 : 2 ^ s ≤ x ∨ s = 0) (h1 : x / 2 ^ s < 256) (h2 : x < 2 ^ 64) : Lib.bitLen x = s + Lib.bitLen (x / 2 ^ s) ∧ Lib.bitLen (x / 2 ^ s) ≤ 8 := by
  refine ⟨?_, Lib.bitLen_le8 ⟨_, h1⟩⟩
  rcases h0 with h | rfl
  · exact Lib.bitLen_shift s x h h2
  · simp
theorem len8_top (q : Int) (y : Nat) (hq : q = (y : Int)) (h : y < 256) : Lib.len8 q = (Lib.bitLen y : Int) := by
  subst hq
  exact Lib.len8_eq ⟨y, h⟩
theorem len_goal (x q : Int) (X s : Nat) (hX : x = (X : Int)) (hq : q = ((X / 2 ^ s : Nat) : Int)) (h0 : 2 ^ s ≤ X ∨ s = 0) (h1 : X / 2 ^ s < 256) (h2 : X < 2 ^ 64) : Lib.len8 q = (Lib.bitLen x.toNat : Int) - s ∧ Lib.len8 q ≤ 8 ∧ 0 ≤ Lib.len8 q := by
  obtain ⟨e1, e2⟩ := bitLen_top X s h0 h1 h2
  rw [len8_top q _ hq h1, hX, Int.toNat_natCast]
  omega
set_option maxHeartbeats 4000000 in
set_option maxRecDepth 100000 in
theorem len64 (x : Int) (w : World) (h0 : 0 ≤ x) (h1 : x ≤ 18446744073709551615) :
    Calls Tryd.prog 43 #[.int .u64 x] w fun e w' => e = .returned (.int .i64 (Lib.bitLen x.toNat)) ∧ w = w' := by
  go_enter Tryd.func43, Tryd.ntmps43
  go_wp2
  all_goals go_ret
  all_goals refine ⟨congrArg Ending.returned (congrArg (Value.int IntKind.i64) ?_), rfl⟩
  all_goals obtain ⟨X, rfl⟩ : ∃ X : Nat, x = (X : Int) := ⟨x.toNat, by omega⟩
  · have := len_goal X ((X : Int) / 4294967296 / 65536 / 256 % 256) X 56 rfl (by omega) (by omega) (by omega) (by omega); omega
  · have := len_goal X ((X : Int) / 4294967296 / 65536 % 256) X 48 rfl (by omega) (by omega) (by omega) (by omega); omega
  · have := len_goal X ((X : Int) / 4294967296 / 256 % 256) X 40 rfl (by omega) (by omega) (by omega) (by omega); omega
  · have := len_goal X ((X : Int) / 4294967296 % 256) X 32 rfl (by omega) (by omega) (by omega) (by omega); omega
  · have := len_goal X ((X : Int) / 65536 / 256 % 256) X 24 rfl (by omega) (by omega) (by omega) (by omega); omega
  · have := len_goal X ((X : Int) / 65536 % 256) X 16 rfl (by omega) (by omega) (by omega) (by omega); omega
  · have := len_goal X ((X : Int) / 256 % 256) X 8 rfl (by omega) (by omega) (by omega) (by omega); omega
  · have := len_goal X ((X : Int) % 256) X 0 rfl (by omega) (by omega) (by omega) (by omega); omega
end Go.Proofs.YtmipomglbccjbaaDoor
