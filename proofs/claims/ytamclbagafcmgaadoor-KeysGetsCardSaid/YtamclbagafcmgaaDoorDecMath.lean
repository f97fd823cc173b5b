/- Plain facts about decimal digits: the digits of a number, least first. No program is named here. -/
import Derived.KernelRfl
namespace Go.Proofs.YtamclbagafcmgaaDoor.Dm

/-- the digits of m, least first, without noughts at the end -/
def dg (m : Nat) : List Int := if m = 0 then [] else ((m % 10 : Nat) : Int) :: dg (m / 10)
termination_by m
decreasing_by omega
/-- the i lowest digits of m -/
def lowd (i m : Nat) : List Int := (List.range i).map fun j => ((m / 10 ^ j % 10 : Nat) : Int)
def nd (m : Nat) : Nat := (dg m).length
theorem dg_zero : dg 0 = [] := by rw [dg]; rfl
theorem dg_pos (m : Nat) (h : m ≠ 0) : dg m = ((m % 10 : Nat) : Int) :: dg (m / 10) := by conv => lhs; rw [dg]; rw [if_neg h]
theorem nd_zero : nd 0 = 0 := by unfold nd; rw [dg_zero]; rfl
theorem nd_pos (m : Nat) (h : m ≠ 0) : nd m = nd (m / 10) + 1 := by unfold nd; rw [dg_pos m h]; simp
theorem lowd_length (i m : Nat) : (lowd i m).length = i := by simp [lowd]
theorem lowd_snoc (i m : Nat) : lowd (i + 1) m = lowd i m ++ [((m / 10 ^ i % 10 : Nat) : Int)] := by
  simp [lowd, List.range_succ]
theorem lowd_cons (i m : Nat) : lowd (i + 1) m = ((m % 10 : Nat) : Int) :: lowd i (m / 10) := by
  unfold lowd
  rw [List.range_succ_eq_map]
  simp only [List.map_cons, List.map_map, Nat.pow_zero, Nat.div_one]
  congr 1
  apply List.map_congr_left
  intro j _
  simp only [Function.comp]
  rw [Nat.pow_succ, Nat.mul_comm, ← Nat.div_div_eq_div_mul]
theorem lowd_get (i m j : Nat) (h : j < i) : (lowd i m).getD j 0 = ((m / 10 ^ j % 10 : Nat) : Int) := by
  simp [lowd, List.getD, h]
theorem lowd_eq (i : Nat) : ∀ m, m < 10 ^ i → (i = 0 ∨ 10 ^ (i - 1) ≤ m) → lowd i m = dg m := by
  induction i with
  | zero => intro m h _; have e : m = 0 := (by simpa using h); subst e; rw [dg_zero]; rfl
  | succ i ih =>
    intro m h h1
    have h1' : 10 ^ i ≤ m := by rcases h1 with e | e; omega; simpa using e
    have hp : 0 < 10 ^ i := Nat.pow_pos (by omega)
    rw [lowd_cons, dg_pos m (by omega), ih (m / 10) (by rw [Nat.pow_succ] at h; omega)]
    rcases Nat.eq_zero_or_pos i with e | e
    · exact .inl e
    · right
      have : 10 ^ i = 10 ^ (i - 1) * 10 := by rw [← Nat.pow_succ]; congr 1; omega
      omega
theorem nd_spec : ∀ m, m < 10 ^ nd m ∧ (m = 0 ∨ (0 < nd m ∧ 10 ^ (nd m - 1) ≤ m)) := by
  intro m
  induction m using Nat.strongRecOn with
  | _ m ih =>
    by_cases h : m = 0
    · subst h; rw [nd_zero]; simp
    · obtain ⟨h1, h2⟩ := ih (m / 10) (by omega)
      rw [nd_pos m h]
      refine ⟨by rw [Nat.pow_succ]; omega, .inr ⟨by omega, ?_⟩⟩
      simp only [Nat.add_sub_cancel]
      rcases h2 with e | ⟨e1, e2⟩
      · have : nd (m / 10) = 0 := by rw [e]; exact nd_zero
        rw [this]; simp; omega
      · have : 10 ^ nd (m / 10) = 10 ^ (nd (m / 10) - 1) * 10 := by rw [← Nat.pow_succ]; congr 1; omega
        omega
theorem dg_lowd (m : Nat) : dg m = lowd (nd m) m := by
  obtain ⟨h1, h2⟩ := nd_spec m
  symm
  refine lowd_eq _ m h1 ?_
  rcases h2 with e | e
  · left; rw [e]; exact nd_zero
  · exact .inr e.2
theorem dg_length (m : Nat) : (dg m).length = nd m := rfl
theorem dg_get (m j : Nat) (h : j < nd m) : (dg m).getD j 0 = ((m / 10 ^ j % 10 : Nat) : Int) := by
  rw [dg_lowd, lowd_get _ _ _ h]
theorem nd_le (m k : Nat) (h : m < 10 ^ k) : nd m ≤ k := by
  obtain ⟨h1, h2⟩ := nd_spec m
  rcases h2 with e | ⟨e1, e2⟩
  · rw [e, nd_zero]; omega
  · rcases Nat.lt_or_ge k (nd m) with hk | hk
    · have : 10 ^ k ≤ 10 ^ (nd m - 1) := Nat.pow_le_pow_right (by omega) (by omega)
      omega
    · exact hk
theorem lt_of_nd (a b : Nat) (h : nd a < nd b) : a < b := by
  obtain ⟨h1, _⟩ := nd_spec a
  obtain ⟨_, h2⟩ := nd_spec b
  rcases h2 with e | ⟨e1, e2⟩
  · rw [e, nd_zero] at h; omega
  · have : 10 ^ nd a ≤ 10 ^ (nd b - 1) := Nat.pow_le_pow_right (by omega) (by omega)
    omega
theorem dg_shift (a k : Nat) (h : a ≠ 0) : dg (a * 10 ^ k) = List.replicate k (0 : Int) ++ dg a := by
  induction k with
  | zero => simp
  | succ k ih =>
    have hp : 0 < 10 ^ k := Nat.pow_pos (by omega)
    have hm : 0 < a * 10 ^ k := Nat.mul_pos (by omega) hp
    have e : a * 10 ^ (k + 1) = (a * 10 ^ k) * 10 := by rw [Nat.pow_succ, Nat.mul_assoc]
    rw [e, dg_pos _ (by omega), Nat.mul_mod_left, Nat.mul_div_cancel _ (by omega), ih]
    rfl
theorem nd_shift (a k : Nat) (h : a ≠ 0) : nd (a * 10 ^ k) = k + nd a := by
  unfold nd; rw [dg_shift a k h]; simp
/-- how two numbers compare -/
def cmp (a b : Nat) : Int := if a < b then -1 else if b < a then 1 else 0
theorem div_step (m i : Nat) : m / 10 ^ i = (m / 10 ^ (i + 1)) * 10 + m / 10 ^ i % 10 := by
  rw [Nat.pow_succ, ← Nat.div_div_eq_div_mul]; omega
theorem cmp_digit_lt (a b i : Nat) (h : a / 10 ^ (i + 1) = b / 10 ^ (i + 1)) (hd : a / 10 ^ i % 10 < b / 10 ^ i % 10) : a < b := by
  have h1 := div_step a i
  have h2 := div_step b i
  have h3 : a / 10 ^ i < b / 10 ^ i := by omega
  exact Nat.lt_of_not_le fun hle => by have := Nat.div_le_div_right (c := 10 ^ i) hle; omega
theorem cmp_digit_eq (a b i : Nat) (h : a / 10 ^ (i + 1) = b / 10 ^ (i + 1)) (hd : a / 10 ^ i % 10 = b / 10 ^ i % 10) : a / 10 ^ i = b / 10 ^ i := by
  have h1 := div_step a i
  have h2 := div_step b i
  omega
end Go.Proofs.YtamclbagafcmgaaDoor.Dm
