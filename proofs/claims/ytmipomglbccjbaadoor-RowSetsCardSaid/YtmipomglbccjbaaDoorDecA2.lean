/- Package decimal: divided, rounded, shifted, signed. -/
import Derived.Test.YtmipomglbccjbaaDoorDecA1
import Derived.Deep.RegionWith
import Derived.Deep.RegionHeld3
import Derived.Laws.Externs
namespace Go.Proofs.YtmipomglbccjbaaDoor
open Go.RowKit
theorem more_aux (T h l q k m : Nat) (a : h * T + l = q) (h2 : l + 1 = k * T + m) : (h + k) * T + m = q + 1 := by rw [Nat.add_mul]; omega
/-- one more -/
theorem Wd.more {h l q : Nat} (H : Wd h l q) (hq : q + 1 < 340282366920938463463374607431768211456) : ∃ c l2 : Nat, c ≤ 1 ∧ l + 1 = c * 18446744073709551616 + l2 ∧ l2 < 18446744073709551616 ∧ Wd (h + c) l2 (q + 1) := by
  obtain ⟨a, b, c⟩ := H
  obtain ⟨k, hk⟩ : ∃ k, k = (l + 1) / 18446744073709551616 := ⟨_, rfl⟩
  obtain ⟨m, hm⟩ : ∃ m, m = (l + 1) % 18446744073709551616 := ⟨_, rfl⟩
  have h1 : k ≤ 1 := by omega
  have h2 : l + 1 = k * 18446744073709551616 + m := by omega
  have h3 : m < 18446744073709551616 := by omega
  have h5 : (h + k) * 18446744073709551616 + m = q + 1 := more_aux _ h l q k m a h2
  have h6 : h + k < 18446744073709551616 := by
    have h7 : (h + k) * 18446744073709551616 < 18446744073709551616 * 18446744073709551616 := Nat.lt_of_le_of_lt (Nat.le_of_add_right_le (Nat.le_of_eq h5)) hq
    exact Nat.lt_of_mul_lt_mul_right h7
  have h4 : Wd (h + k) m (q + 1) := ⟨h5, h6, h3⟩
  exact ⟨k, m, h1, h2, h3, h4⟩
end Go.Proofs.YtmipomglbccjbaaDoor
