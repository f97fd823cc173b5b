/- The laws of layer 2, in plain numbers. -/
import Derived.Test.YtmipomglbccjbaaDoorDecA2
import Derived.Test.YtmipomglbccjbaaDoorDecA1
namespace Go.Proofs.YtmipomglbccjbaaDoor

theorem mul_comm (a fa b fb t : Int) : mulM a fa b fb t = mulM b fb a fa t := by
  unfold mulM
  rw [Int.add_comm fa fb, Nat.mul_comm a.natAbs b.natAbs, Bool.and_comm (scB fa) (scB fb), bne_comm]
theorem mul_one (a fa t : Int) : mulM a fa 1 0 t = divM a fa 1 0 t := by
  unfold mulM divM
  cases h1 : scB fa <;> cases h2 : scB t <;> simp [scB] <;> rfl
/-- what is left of a division -/
structure Rest (a b r : Int) : Prop where
  i : i64 r
  up : 0 ≤ a → 0 ≤ r
  down : a ≤ 0 → r ≤ 0
  pos : 0 < b → r < b ∧ -b < r
  neg : b < 0 → r < -b ∧ b < r
  sub : i64 (a - r)
  zero : (a - r).tmod b = 0
theorem rest (a b : Int) (ha : i64 a) (hb : i64 b) (h0 : b ≠ 0) : Rest a b (a.tmod b) := by
  have e := Int.tmod_add_mul_tdiv a b
  have hz : (a - a.tmod b).tmod b = 0 := by
    rw [show a - a.tmod b = b * a.tdiv b by omega]; exact Int.mul_tmod_right _ _
  have hlt : (a.tmod b).natAbs < b.natAbs := by
    rw [Int.natAbs_tmod]; exact Nat.mod_lt _ (by omega)
  have hle : (a.tmod b).natAbs ≤ a.natAbs := by
    rw [Int.natAbs_tmod]; exact Nat.mod_le _ _
  have hup : 0 ≤ a → 0 ≤ a.tmod b := fun h => Int.tmod_nonneg b h
  have hdn : a ≤ 0 → a.tmod b ≤ 0 := fun h => by
    have := Int.tmod_nonneg b (show 0 ≤ -a by omega)
    rw [Int.neg_tmod] at this; omega
  obtain ⟨a1, a2⟩ := ha
  obtain ⟨b1, b2⟩ := hb
  refine ⟨⟨by omega, by omega⟩, hup, hdn, fun h => ⟨by omega, by omega⟩, fun h => ⟨by omega, by omega⟩, ?_, hz⟩
  rcases Int.le_total 0 a with h | h
  · have := hup h; exact ⟨by omega, by omega⟩
  · have := hdn h; exact ⟨by omega, by omega⟩
end Go.Proofs.YtmipomglbccjbaaDoor
