/- The laws of layer 2, in plain numbers. -/
import Derived.Test.YtamclbagafcmgaaDoorDecA6
import Derived.Test.YtamclbagafcmgaaDoorDecA1
namespace Go.Proofs.YtamclbagafcmgaaDoor

theorem mul_comm (a fa b fb t : Int) : mulM a fa b fb t = mulM b fb a fa t := by
  unfold mulM
  rw [Int.add_comm fa fb, Nat.mul_comm a.natAbs b.natAbs, Bool.and_comm (scB fa) (scB fb), bne_comm]
/-- how two integers compare -/
def icmp (x y : Int) : Int := if x < y then -1 else if y < x then 1 else 0
theorem icmp_scale (x y c : Int) (hc : 0 < c) : icmp (x * c) (y * c) = icmp x y := by
  unfold icmp
  have h1 : x * c < y * c ↔ x < y := Int.mul_lt_mul_right hc
  have h2 : y * c < x * c ↔ y < x := Int.mul_lt_mul_right hc
  simp only [h1, h2]
theorem comp_int (a fa b fb : Int) (h1 : scB fa = true) (h2 : scB fb = true) : compM a fa b fb = icmp (a * 10 ^ fb.toNat) (b * 10 ^ fa.toNat) := by
  unfold compM
  rw [h1, h2]
  have pa : (0 : Int) < 10 ^ fa.toNat := Int.pow_pos (by omega)
  have pb : (0 : Int) < 10 ^ fb.toNat := Int.pow_pos (by omega)
  have ca : ((10 ^ fa.toNat : Nat) : Int) = (10 : Int) ^ fa.toNat := by push_cast; rfl
  have cb : ((10 ^ fb.toNat : Nat) : Int) = (10 : Int) ^ fb.toNat := by push_cast; rfl
  rw [← ca, ← cb]
  rw [← ca] at pa
  rw [← cb] at pb
  generalize 10 ^ fa.toNat = p at *
  generalize 10 ^ fb.toNat = q at *
  have na := Int.natCast_mul a.natAbs q
  have nb := Int.natCast_mul b.natAbs p
  show (if decide (a < 0) = true then _ else _) = _
  unfold icmp Dm.cmp
  by_cases ha : a < 0 <;> by_cases hb : b < 0
  · rw [if_pos (by simpa using ha), if_pos (by simpa using hb)]
    rw [show (a.natAbs : Int) = -a by omega, Int.neg_mul] at na
    rw [show (b.natAbs : Int) = -b by omega, Int.neg_mul] at nb
    repeat' split
    all_goals omega
  · have h3 := Int.mul_neg_of_neg_of_pos ha pb
    have h4 := Int.mul_nonneg (show 0 ≤ b by omega) (Int.le_of_lt pa)
    rw [if_pos (by simpa using ha), if_neg (by simpa using hb), if_pos (by omega)]
  · have h3 := Int.mul_neg_of_neg_of_pos hb pa
    have h4 := Int.mul_nonneg (show 0 ≤ a by omega) (Int.le_of_lt pb)
    rw [if_neg (by simpa using ha), if_pos (by simpa using hb), if_neg (by omega), if_pos (by omega)]
  · rw [if_neg (by simpa using ha), if_neg (by simpa using hb)]
    rw [show (a.natAbs : Int) = a by omega] at na
    rw [show (b.natAbs : Int) = b by omega] at nb
    repeat' split
    all_goals omega
/-- what is left of a division -/
structure Rest (a b r : Int) : Prop where
  i : i64 r
  up : 0 ≤ a → 0 ≤ r
  down : a ≤ 0 → r ≤ 0
  pos : 0 < b → r < b ∧ -b < r
  neg : b < 0 → r < -b ∧ b < r
  sub : i64 (a - r)
  zero : (a - r).tmod b = 0
theorem rest (a b : Int) (ha : i64 a) (hb : i64 b) (h0 : b ≠ 0) : Rest a b (a.tmod b) := by
  have e := Int.tmod_add_mul_tdiv a b
  have hz : (a - a.tmod b).tmod b = 0 := by
    rw [show a - a.tmod b = b * a.tdiv b by omega]; exact Int.mul_tmod_right _ _
  have hlt : (a.tmod b).natAbs < b.natAbs := by
    rw [Int.natAbs_tmod]; exact Nat.mod_lt _ (by omega)
  have hle : (a.tmod b).natAbs ≤ a.natAbs := by
    rw [Int.natAbs_tmod]; exact Nat.mod_le _ _
  have hup : 0 ≤ a → 0 ≤ a.tmod b := fun h => Int.tmod_nonneg b h
  have hdn : a ≤ 0 → a.tmod b ≤ 0 := fun h => by
    have := Int.tmod_nonneg b (show 0 ≤ -a by omega)
    rw [Int.neg_tmod] at this; omega
  obtain ⟨a1, a2⟩ := ha
  obtain ⟨b1, b2⟩ := hb
  refine ⟨⟨by omega, by omega⟩, hup, hdn, fun h => ⟨by omega, by omega⟩, fun h => ⟨by omega, by omega⟩, ?_, hz⟩
  rcases Int.le_total 0 a with h | h
  · have := hup h; exact ⟨by omega, by omega⟩
  · have := hdn h; exact ⟨by omega, by omega⟩
end Go.Proofs.YtamclbagafcmgaaDoor
