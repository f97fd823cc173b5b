/- The laws of layer 2, in plain numbers. -/
import Derived.Test.YtgkjgaelclfffaaDoorDecA7
import Derived.Test.YtgkjgaelclfffaaDoorDecA9
namespace Go.Proofs.YtgkjgaelclfffaaDoor

theorem mul_comm (a fa b fb t : Int) : mulM a fa b fb t = mulM b fb a fa t := by
  unfold mulM
  rw [Int.add_comm fa fb, Nat.mul_comm a.natAbs b.natAbs, Bool.and_comm (scB fa) (scB fb), bne_comm]
theorem sum_comm (a b : Int) : sumM a b = sumM b a := by
  unfold sumM
  rw [Int.add_comm a b, Nat.add_comm a.natAbs b.natAbs]
  by_cases h : decide (a < 0) = decide (b < 0)
  · rw [h]
  · rw [if_neg (by simpa using h), if_neg (fun e => h (by rw [beq_iff_eq] at e; exact e.symm))]
theorem mul_one (a fa t : Int) : mulM a fa 1 0 t = divM a fa 1 0 t := by
  unfold mulM divM
  cases h1 : scB fa <;> cases h2 : scB t <;> simp [scB] <;> rfl
theorem resc_eq (n f t : Int) : mulM n f 1 0 t = rescM n f t := by
  unfold mulM rescM
  cases h1 : scB f
  · simp [scB]
  cases h2 : scB t
  · simp [scB]
  obtain ⟨p1, p2⟩ := scB_true h1
  obtain ⟨q1, q2⟩ := scB_true h2
  obtain ⟨kf, rfl⟩ : ∃ k : Nat, f = (k : Int) := ⟨f.toNat, by omega⟩
  obtain ⟨kt, rfl⟩ : ∃ k : Nat, t = (k : Int) := ⟨t.toNat, by omega⟩
  rw [show ((kf : Int) + 0).toNat = kf by omega, show ((kt : Int)).toNat = kt by omega]
  have hs : (decide (n < 0) != decide ((1 : Int) < 0)) = decide (n < 0) := by simp
  rw [hs, show (1 : Int).natAbs = 1 from rfl, Nat.mul_one, Nat.one_mul]
  show (if (true && scB 0 && true) = true then _ else _) = _
  rw [if_pos (by decide)]
  by_cases h : (kf : Int) ≤ (kt : Int)
  · rw [if_pos (by decide), if_pos h]
    obtain ⟨k, rfl⟩ : ∃ k, kt = k + kf := ⟨kt - kf, by omega⟩
    have e : rnd (n.natAbs * 10 ^ (k + kf)) (10 ^ kf) = n.natAbs * 10 ^ k := by
      have := rnd_scale (n.natAbs * 10 ^ k) 1 (10 ^ kf) (Nat.pow_pos (by omega))
      rw [Nat.one_mul, rnd_one, Nat.mul_assoc, ← Nat.pow_add] at this
      exact this
    rw [e, show (((k + kf : Nat) : Int) - (kf : Int)).toNat = k by omega]
  · rw [if_pos (by decide), if_neg h]
    obtain ⟨k, rfl⟩ : ∃ k, kf = k + kt := ⟨kf - kt, by omega⟩
    rw [Nat.one_mul, show (((k + kt : Nat) : Int) - (kt : Int)).toNat = k by omega, Nat.pow_add, rnd_scale _ _ _ (Nat.pow_pos (by omega))]

/-- the number with its sign -/
theorem ansV_ok {A : Nat} {s : Bool} {m e : Int} (h : ansV A s = (m, e)) (he : e = 0) : m = (if s then -(A : Int) else (A : Int)) := by
  unfold ansV at h
  cases s
  · by_cases hA : A ≤ 9223372036854775807
    · simp [hA] at h; simp [h.1]
    · simp [hA] at h; omega
  · by_cases hA : A ≤ 9223372036854775808
    · simp [hA] at h; simp [h.1]
    · simp [hA] at h; omega
theorem ansV_self (n : Int) (h : i64 n) : ansV n.natAbs (decide (n < 0)) = (n, 0) := by
  unfold i64 at h
  unfold ansV
  by_cases hn : n < 0
  · rw [if_pos (by simpa using hn), if_pos (by omega)]; congr 1; omega
  · rw [if_neg (by simpa using hn), if_pos (by omega)]; congr 1; omega

theorem resc_up {n f t m e : Int} (h : rescM n f t = (m, e)) (he : e = 0) (hft : f ≤ t) (hn : i64 n) : m = n * 10 ^ (t - f).toNat ∧ scB f = true ∧ scB t = true := by
  unfold rescM at h
  cases h1 : scB f
  · rw [h1] at h; simp at h; omega
  cases h2 : scB t
  · rw [h1, h2] at h; simp at h; omega
  rw [h1, h2, if_pos (by decide), if_pos hft] at h
  refine ⟨?_, rfl, rfl⟩
  rw [ansV_ok h he]
  have hc : ((n.natAbs * 10 ^ (t - f).toNat : Nat) : Int) = (n.natAbs : Int) * 10 ^ (t - f).toNat := by push_cast; rfl
  by_cases hn0 : n < 0
  · rw [if_pos (by simpa using hn0), hc, show (n.natAbs : Int) = -n by omega, Int.neg_mul, Int.neg_neg]
  · rw [if_neg (by simpa using hn0), hc, show (n.natAbs : Int) = n by omega]
theorem resc_back {n f t m e : Int} (h : rescM n f t = (m, e)) (he : e = 0) (hft : f ≤ t) (hn : i64 n) : rescM m t f = (n, 0) := by
  obtain ⟨hm, h1, h2⟩ := resc_up h he hft hn
  obtain ⟨k, hk⟩ : ∃ k, k = (t - f).toNat := ⟨_, rfl⟩
  rw [← hk] at hm
  have hp : (0 : Int) < 10 ^ k := Int.pow_pos (by omega)
  have hs : decide (m < 0) = decide (n < 0) := by
    rw [decide_eq_decide, hm]
    constructor
    · intro h; exact Decidable.byContradiction fun h' => by have := Int.mul_nonneg (show 0 ≤ n by omega) (Int.le_of_lt hp); omega
    · intro h; exact Int.mul_neg_of_neg_of_pos h hp
  have ha : m.natAbs = n.natAbs * 10 ^ k := by rw [hm, Int.natAbs_mul, Int.natAbs_pow]; rfl
  unfold rescM
  rw [h1, h2, hs, ha]
  show (if t ≤ f then _ else _) = _
  by_cases htf : t ≤ f
  · rw [if_pos htf, show k = 0 by omega, Nat.pow_zero, Nat.mul_one, show (f - t).toNat = 0 by omega, Nat.pow_zero, Nat.mul_one]
    exact ansV_self n hn
  · rw [if_neg htf, Nat.one_mul, ← hk]
    have e2 : rnd (n.natAbs * 10 ^ k) (10 ^ k) = n.natAbs := by
      have := rnd_scale n.natAbs 1 (10 ^ k) (Nat.pow_pos (by omega))
      rw [Nat.one_mul, rnd_one] at this
      exact this
    rw [e2]
    exact ansV_self n hn

/-- how two integers compare -/
def icmp (x y : Int) : Int := if x < y then -1 else if y < x then 1 else 0
theorem icmp_anti (x y : Int) : icmp y x = -icmp x y := by unfold icmp; repeat' split <;> omega
theorem icmp_scale (x y c : Int) (hc : 0 < c) : icmp (x * c) (y * c) = icmp x y := by
  unfold icmp
  have h1 : x * c < y * c ↔ x < y := Int.mul_lt_mul_right hc
  have h2 : y * c < x * c ↔ y < x := Int.mul_lt_mul_right hc
  simp only [h1, h2]
theorem comp_int (a fa b fb : Int) (h1 : scB fa = true) (h2 : scB fb = true) : compM a fa b fb = icmp (a * 10 ^ fb.toNat) (b * 10 ^ fa.toNat) := by
  unfold compM
  rw [h1, h2]
  have pa : (0 : Int) < 10 ^ fa.toNat := Int.pow_pos (by omega)
  have pb : (0 : Int) < 10 ^ fb.toNat := Int.pow_pos (by omega)
  have ca : ((10 ^ fa.toNat : Nat) : Int) = (10 : Int) ^ fa.toNat := by push_cast; rfl
  have cb : ((10 ^ fb.toNat : Nat) : Int) = (10 : Int) ^ fb.toNat := by push_cast; rfl
  rw [← ca, ← cb]
  rw [← ca] at pa
  rw [← cb] at pb
  generalize 10 ^ fa.toNat = p at *
  generalize 10 ^ fb.toNat = q at *
  have na := Int.natCast_mul a.natAbs q
  have nb := Int.natCast_mul b.natAbs p
  show (if decide (a < 0) = true then _ else _) = _
  unfold icmp Dm.cmp
  by_cases ha : a < 0 <;> by_cases hb : b < 0
  · rw [if_pos (by simpa using ha), if_pos (by simpa using hb)]
    rw [show (a.natAbs : Int) = -a by omega, Int.neg_mul] at na
    rw [show (b.natAbs : Int) = -b by omega, Int.neg_mul] at nb
    repeat' split
    all_goals omega
  · have h3 := Int.mul_neg_of_neg_of_pos ha pb
    have h4 := Int.mul_nonneg (show 0 ≤ b by omega) (Int.le_of_lt pa)
    rw [if_pos (by simpa using ha), if_neg (by simpa using hb), if_pos (by omega)]
  · have h3 := Int.mul_neg_of_neg_of_pos hb pa
    have h4 := Int.mul_nonneg (show 0 ≤ a by omega) (Int.le_of_lt pb)
    rw [if_neg (by simpa using ha), if_pos (by simpa using hb), if_neg (by omega), if_pos (by omega)]
  · rw [if_neg (by simpa using ha), if_neg (by simpa using hb)]
    rw [show (a.natAbs : Int) = a by omega] at na
    rw [show (b.natAbs : Int) = b by omega] at nb
    repeat' split
    all_goals omega
theorem comp_no (a fa b fb : Int) (h : (scB fa && scB fb) = false) : compM a fa b fb = 0 := by unfold compM; rw [h]; rfl
theorem comp_anti (a fa b fb : Int) : compM b fb a fa = -compM a fa b fb := by
  cases h : scB fa && scB fb
  · rw [comp_no a fa b fb h, comp_no b fb a fa (by rw [Bool.and_comm]; exact h)]; rfl
  · simp only [Bool.and_eq_true] at h
    rw [comp_int a fa b fb h.1 h.2, comp_int b fb a fa h.2 h.1, icmp_anti]
theorem comp_range (a fa b fb : Int) : -1 ≤ compM a fa b fb ∧ compM a fa b fb ≤ 1 := by
  have h := cmp_le (a.natAbs * 10 ^ fb.toNat) (b.natAbs * 10 ^ fa.toNat)
  unfold compM
  repeat' split
  all_goals omega
theorem comp_three (a b : Int) : compM a 3 b 3 = icmp a b := by
  rw [comp_int a 3 b 3 (by decide) (by decide)]
  exact icmp_scale a b _ (Int.pow_pos (by omega))
theorem comp_bring {a fa b fb t x y e f : Int} (ha : i64 a) (hb : i64 b) (h1 : rescM a fa t = (x, e)) (h2 : rescM b fb t = (y, f)) (he : e = 0) (hf : f = 0) (ht1 : fa ≤ t) (ht2 : fb ≤ t) : compM a fa b fb = compM x t y t := by
  obtain ⟨hx, sa, st⟩ := resc_up h1 he ht1 ha
  obtain ⟨hy, sb, _⟩ := resc_up h2 hf ht2 hb
  rw [comp_int a fa b fb sa sb, comp_int x t y t st st, icmp_scale x y _ (Int.pow_pos (by omega))]
  obtain ⟨p1, _⟩ := scB_true sa
  obtain ⟨p2, _⟩ := scB_true sb
  obtain ⟨ka, hka⟩ : ∃ k, k = (t - fa).toNat := ⟨_, rfl⟩
  obtain ⟨kb, hkb⟩ : ∃ k, k = (t - fb).toNat := ⟨_, rfl⟩
  rw [← hka] at hx
  rw [← hkb] at hy
  rw [← icmp_scale (a * 10 ^ fb.toNat) (b * 10 ^ fa.toNat) (10 ^ ka) (Int.pow_pos (by omega)), ← icmp_scale x y (10 ^ fb.toNat) (Int.pow_pos (by omega)), hx, hy]
  congr 1
  · rw [Int.mul_assoc, Int.mul_assoc, Int.mul_comm (10 ^ fb.toNat)]
  · rw [Int.mul_assoc, Int.mul_assoc, ← Int.pow_add, ← Int.pow_add]
    congr 2
    omega
theorem ansV_i64 (A : Nat) (s : Bool) : i64 (ansV A s).1 := by
  unfold i64 ansV
  cases s
  · by_cases h : A ≤ 9223372036854775807
    · simp [h]; omega
    · simp [h]
  · by_cases h : A ≤ 9223372036854775808
    · simp [h]; omega
    · simp [h]
theorem mul_i64 (a fa b fb t : Int) : i64 (mulM a fa b fb t).1 := by
  unfold mulM
  split
  · exact ansV_i64 _ _
  · unfold i64; decide
/-- what is left of a division -/
structure Rest (a b r : Int) : Prop where
  i : i64 r
  up : 0 ≤ a → 0 ≤ r
  down : a ≤ 0 → r ≤ 0
  pos : 0 < b → r < b ∧ -b < r
  neg : b < 0 → r < -b ∧ b < r
  sub : i64 (a - r)
  zero : (a - r).tmod b = 0
theorem rest (a b : Int) (ha : i64 a) (hb : i64 b) (h0 : b ≠ 0) : Rest a b (a.tmod b) := by
  have e := Int.tmod_add_mul_tdiv a b
  have hz : (a - a.tmod b).tmod b = 0 := by
    rw [show a - a.tmod b = b * a.tdiv b by omega]; exact Int.mul_tmod_right _ _
  have hlt : (a.tmod b).natAbs < b.natAbs := by
    rw [Int.natAbs_tmod]; exact Nat.mod_lt _ (by omega)
  have hle : (a.tmod b).natAbs ≤ a.natAbs := by
    rw [Int.natAbs_tmod]; exact Nat.mod_le _ _
  have hup : 0 ≤ a → 0 ≤ a.tmod b := fun h => Int.tmod_nonneg b h
  have hdn : a ≤ 0 → a.tmod b ≤ 0 := fun h => by
    have := Int.tmod_nonneg b (show 0 ≤ -a by omega)
    rw [Int.neg_tmod] at this; omega
  obtain ⟨a1, a2⟩ := ha
  obtain ⟨b1, b2⟩ := hb
  refine ⟨⟨by omega, by omega⟩, hup, hdn, fun h => ⟨by omega, by omega⟩, fun h => ⟨by omega, by omega⟩, ?_, hz⟩
  rcases Int.le_total 0 a with h | h
  · have := hup h; exact ⟨by omega, by omega⟩
  · have := hdn h; exact ⟨by omega, by omega⟩
end Go.Proofs.YtgkjgaelclfffaaDoor
