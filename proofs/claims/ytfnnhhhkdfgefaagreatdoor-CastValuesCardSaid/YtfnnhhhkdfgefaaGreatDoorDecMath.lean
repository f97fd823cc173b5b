/- Plain facts about decimal digits: the digits of a number, least first. No program is named here. -/
import Derived.KernelRfl
namespace Go.Proofs.YtfnnhhhkdfgefaaGreatDoor.Dm

/-- the digits of m, least first, without noughts at the end -/
def dg (m : Nat) : List Int := if m = 0 then [] else ((m % 10 : Nat) : Int) :: dg (m / 10)
termination_by m
decreasing_by omega
/-- the i lowest digits of m -/
def lowd (i m : Nat) : List Int := (List.range i).map fun j => ((m / 10 ^ j % 10 : Nat) : Int)
def nd (m : Nat) : Nat := (dg m).length
theorem dg_zero : dg 0 = [] := by rw [dg]; rfl
theorem dg_pos (m : Nat) (h : m ≠ 0) : dg m = ((m % 10 : Nat) : Int) :: dg (m / 10) := by conv => lhs; rw [dg]; rw [if_neg h]
theorem nd_zero : nd 0 = 0 := by unfold nd; rw [dg_zero]; rfl
theorem nd_pos (m : Nat) (h : m ≠ 0) : nd m = nd (m / 10) + 1 := by unfold nd; rw [dg_pos m h]; simp
theorem lowd_length (i m : Nat) : (lowd i m).length = i := by simp [lowd]
theorem lowd_snoc (i m : Nat) : lowd (i + 1) m = lowd i m ++ [((m / 10 ^ i % 10 : Nat) : Int)] := by
  simp [lowd, List.range_succ]
theorem lowd_cons (i m : Nat) : lowd (i + 1) m = ((m % 10 : Nat) : Int) :: lowd i (m / 10) := by
  unfold lowd
  rw [List.range_succ_eq_map]
  simp only [List.map_cons, List.map_map, Nat.pow_zero, Nat.div_one]
  congr 1
  apply List.map_congr_left
  intro j _
  simp only [Function.comp]
  rw [Nat.pow_succ, Nat.mul_comm, ← Nat.div_div_eq_div_mul]
theorem lowd_get (i m j : Nat) (h : j < i) : (lowd i m).getD j 0 = ((m / 10 ^ j % 10 : Nat) : Int) := by
  simp [lowd, List.getD, h]
theorem lowd_take (i m j : Nat) (h : j ≤ i) : (lowd i m).take j = lowd j m := by
  unfold lowd; rw [← List.map_take, List.take_range, Nat.min_eq_left h]
theorem lowd_eq (i : Nat) : ∀ m, m < 10 ^ i → (i = 0 ∨ 10 ^ (i - 1) ≤ m) → lowd i m = dg m := by
  induction i with
  | zero => intro m h _; have e : m = 0 := (by simpa using h); subst e; rw [dg_zero]; rfl
  | succ i ih =>
    intro m h h1
    have h1' : 10 ^ i ≤ m := by rcases h1 with e | e; omega; simpa using e
    have hp : 0 < 10 ^ i := Nat.pow_pos (by omega)
    rw [lowd_cons, dg_pos m (by omega), ih (m / 10) (by rw [Nat.pow_succ] at h; omega)]
    rcases Nat.eq_zero_or_pos i with e | e
    · exact .inl e
    · right
      have : 10 ^ i = 10 ^ (i - 1) * 10 := by rw [← Nat.pow_succ]; congr 1; omega
      omega
theorem nd_spec : ∀ m, m < 10 ^ nd m ∧ (m = 0 ∨ (0 < nd m ∧ 10 ^ (nd m - 1) ≤ m)) := by
  intro m
  induction m using Nat.strongRecOn with
  | _ m ih =>
    by_cases h : m = 0
    · subst h; rw [nd_zero]; simp
    · obtain ⟨h1, h2⟩ := ih (m / 10) (by omega)
      rw [nd_pos m h]
      refine ⟨by rw [Nat.pow_succ]; omega, .inr ⟨by omega, ?_⟩⟩
      simp only [Nat.add_sub_cancel]
      rcases h2 with e | ⟨e1, e2⟩
      · have : nd (m / 10) = 0 := by rw [e]; exact nd_zero
        rw [this]; simp; omega
      · have : 10 ^ nd (m / 10) = 10 ^ (nd (m / 10) - 1) * 10 := by rw [← Nat.pow_succ]; congr 1; omega
        omega
theorem dg_lowd (m : Nat) : dg m = lowd (nd m) m := by
  obtain ⟨h1, h2⟩ := nd_spec m
  symm
  refine lowd_eq _ m h1 ?_
  rcases h2 with e | e
  · left; rw [e]; exact nd_zero
  · exact .inr e.2
theorem dg_length (m : Nat) : (dg m).length = nd m := rfl
theorem dg_get (m j : Nat) (h : j < nd m) : (dg m).getD j 0 = ((m / 10 ^ j % 10 : Nat) : Int) := by
  rw [dg_lowd, lowd_get _ _ _ h]
theorem nd_le (m k : Nat) (h : m < 10 ^ k) : nd m ≤ k := by
  obtain ⟨h1, h2⟩ := nd_spec m
  rcases h2 with e | ⟨e1, e2⟩
  · rw [e, nd_zero]; omega
  · rcases Nat.lt_or_ge k (nd m) with hk | hk
    · have : 10 ^ k ≤ 10 ^ (nd m - 1) := Nat.pow_le_pow_right (by omega) (by omega)
      omega
    · exact hk
theorem lt_of_nd (a b : Nat) (h : nd a < nd b) : a < b := by
  obtain ⟨h1, _⟩ := nd_spec a
  obtain ⟨_, h2⟩ := nd_spec b
  rcases h2 with e | ⟨e1, e2⟩
  · rw [e, nd_zero] at h; omega
  · have : 10 ^ nd a ≤ 10 ^ (nd b - 1) := Nat.pow_le_pow_right (by omega) (by omega)
    omega
theorem dg_shift (a k : Nat) (h : a ≠ 0) : dg (a * 10 ^ k) = List.replicate k (0 : Int) ++ dg a := by
  induction k with
  | zero => simp
  | succ k ih =>
    have hp : 0 < 10 ^ k := Nat.pow_pos (by omega)
    have hm : 0 < a * 10 ^ k := Nat.mul_pos (by omega) hp
    have e : a * 10 ^ (k + 1) = (a * 10 ^ k) * 10 := by rw [Nat.pow_succ, Nat.mul_assoc]
    rw [e, dg_pos _ (by omega), Nat.mul_mod_left, Nat.mul_div_cancel _ (by omega), ih]
    rfl
theorem nd_shift (a k : Nat) (h : a ≠ 0) : nd (a * 10 ^ k) = k + nd a := by
  unfold nd; rw [dg_shift a k h]; simp
theorem top_digit (i m : Nat) (h : m < 10 ^ (i + 1)) : m / 10 ^ i % 10 = m / 10 ^ i := by
  have hp : 0 < 10 ^ i := Nat.pow_pos (by omega)
  have : m / 10 ^ i < 10 := by rw [Nat.div_lt_iff_lt_mul hp, Nat.mul_comm, ← Nat.pow_succ]; exact h
  exact Nat.mod_eq_of_lt this
theorem top_zero (i m : Nat) (h : m < 10 ^ (i + 1)) (hz : m / 10 ^ i % 10 = 0) : m < 10 ^ i := by
  rw [top_digit i m h] at hz
  have hp : 0 < 10 ^ i := Nat.pow_pos (by omega)
  rw [Nat.div_eq_zero_iff] at hz
  omega
theorem top_pos (i m : Nat) (h : m < 10 ^ (i + 1)) (hz : m / 10 ^ i % 10 ≠ 0) : 10 ^ i ≤ m := by
  rw [top_digit i m h] at hz
  exact (Nat.div_pos_iff.1 (Nat.pos_of_ne_zero hz)).2
/-- how two numbers compare -/
def cmp (a b : Nat) : Int := if a < b then -1 else if b < a then 1 else 0
theorem div_step (m i : Nat) : m / 10 ^ i = (m / 10 ^ (i + 1)) * 10 + m / 10 ^ i % 10 := by
  rw [Nat.pow_succ, ← Nat.div_div_eq_div_mul]; omega
theorem cmp_digit_lt (a b i : Nat) (h : a / 10 ^ (i + 1) = b / 10 ^ (i + 1)) (hd : a / 10 ^ i % 10 < b / 10 ^ i % 10) : a < b := by
  have h1 := div_step a i
  have h2 := div_step b i
  have h3 : a / 10 ^ i < b / 10 ^ i := by omega
  exact Nat.lt_of_not_le fun hle => by have := Nat.div_le_div_right (c := 10 ^ i) hle; omega
theorem cmp_digit_eq (a b i : Nat) (h : a / 10 ^ (i + 1) = b / 10 ^ (i + 1)) (hd : a / 10 ^ i % 10 = b / 10 ^ i % 10) : a / 10 ^ i = b / 10 ^ i := by
  have h1 := div_step a i
  have h2 := div_step b i
  omega
/-- the carry -/
def car (a b i : Nat) : Nat := (a % 10 ^ i + b % 10 ^ i) / 10 ^ i
theorem mod_step (m i : Nat) : m % 10 ^ (i + 1) = m % 10 ^ i + 10 ^ i * (m / 10 ^ i % 10) := by rw [Nat.pow_succ, Nat.mod_mul]
theorem car_le (a b i : Nat) : car a b i ≤ 1 := by
  have hp : 0 < 10 ^ i := Nat.pow_pos (by omega)
  have h1 := Nat.mod_lt a hp
  have h2 := Nat.mod_lt b hp
  unfold car
  have : (a % 10 ^ i + b % 10 ^ i) / 10 ^ i < 2 := by rw [Nat.div_lt_iff_lt_mul hp]; omega
  omega
theorem car_zero (a b : Nat) : car a b 0 = 0 := by simp [car, Nat.mod_one]
theorem car_succ (a b i : Nat) : car a b (i + 1) = (car a b i + a / 10 ^ i % 10 + b / 10 ^ i % 10) / 10 := by
  have hp : 0 < 10 ^ i := Nat.pow_pos (by omega)
  unfold car
  rw [mod_step a i, mod_step b i, Nat.pow_succ, ← Nat.div_div_eq_div_mul]
  congr 1
  have e : a % 10 ^ i + 10 ^ i * (a / 10 ^ i % 10) + (b % 10 ^ i + 10 ^ i * (b / 10 ^ i % 10)) = (a % 10 ^ i + b % 10 ^ i) + 10 ^ i * (a / 10 ^ i % 10 + b / 10 ^ i % 10) := by
    rw [Nat.mul_add]; omega
  rw [e, Nat.add_mul_div_left _ _ hp]; omega
theorem sum_digit (a b i : Nat) : (a + b) / 10 ^ i % 10 = (car a b i + a / 10 ^ i % 10 + b / 10 ^ i % 10) % 10 := by
  have hp : 0 < 10 ^ i := Nat.pow_pos (by omega)
  have ha := Nat.div_add_mod a (10 ^ i)
  have hb := Nat.div_add_mod b (10 ^ i)
  have e : a + b = (a % 10 ^ i + b % 10 ^ i) + 10 ^ i * (a / 10 ^ i + b / 10 ^ i) := by rw [Nat.mul_add]; omega
  have : (a + b) / 10 ^ i = car a b i + (a / 10 ^ i + b / 10 ^ i) := by
    conv => lhs; rw [e]
    rw [Nat.add_mul_div_left _ _ hp]; rfl
  rw [this]; omega
theorem sum_lt (a b i : Nat) (ha : a < 10 ^ i) (hb : b < 10 ^ i) (hc : car a b i = 0) : a + b < 10 ^ i := by
  have hp : 0 < 10 ^ i := Nat.pow_pos (by omega)
  unfold car at hc
  rw [Nat.mod_eq_of_lt ha, Nat.mod_eq_of_lt hb, Nat.div_eq_zero_iff] at hc
  omega
theorem sum_ge (a b i : Nat) (hc : 0 < car a b i) : 10 ^ i ≤ a + b := by
  have hp : 0 < 10 ^ i := Nat.pow_pos (by omega)
  unfold car at hc
  have h1 := (Nat.div_pos_iff.1 hc).2
  have h2 := Nat.mod_le a (10 ^ i)
  have h3 := Nat.mod_le b (10 ^ i)
  omega
/-- the borrow -/
def bor (a b i : Nat) : Nat := if a % 10 ^ i < b % 10 ^ i then 1 else 0
theorem bor_zero (a b : Nat) : bor a b 0 = 0 := by simp [bor, Nat.mod_one]
theorem bor_le (a b i : Nat) : bor a b i ≤ 1 := by unfold bor; split <;> omega
theorem bor_succ (a b i : Nat) : bor a b (i + 1) = if a / 10 ^ i % 10 < bor a b i + b / 10 ^ i % 10 then 1 else 0 := by
  have hp : 0 < 10 ^ i := Nat.pow_pos (by omega)
  have h1 := Nat.mod_lt a hp
  have h2 := Nat.mod_lt b hp
  unfold bor
  rw [mod_step a i, mod_step b i]
  generalize a / 10 ^ i % 10 = x
  generalize b / 10 ^ i % 10 = y
  generalize a % 10 ^ i = p at *
  generalize b % 10 ^ i = q at *
  generalize 10 ^ i = P at *
  rcases Nat.lt_trichotomy x y with h | h | h
  · have h3 : P * (x + 1) ≤ P * y := Nat.mul_le_mul_left _ h
    rw [Nat.mul_add, Nat.mul_one] at h3
    rw [if_pos (by omega), if_pos (by split <;> omega)]
  · subst h
    split <;> split <;> split <;> first | rfl | omega
  · have h3 : P * (y + 1) ≤ P * x := Nat.mul_le_mul_left _ h
    rw [Nat.mul_add, Nat.mul_one] at h3
    rw [if_neg (by omega), if_neg (by split <;> omega)]
theorem dif_digit (a b i : Nat) (h : b ≤ a) : ((a - b) / 10 ^ i % 10 + bor a b i + b / 10 ^ i % 10) % 10 = a / 10 ^ i % 10 := by
  have hp : 0 < 10 ^ i := Nat.pow_pos (by omega)
  have ha := Nat.div_add_mod a (10 ^ i)
  have hb := Nat.div_add_mod b (10 ^ i)
  have h1 := Nat.mod_lt a hp
  have h2 := Nat.mod_lt b hp
  have hle : b / 10 ^ i ≤ a / 10 ^ i := Nat.div_le_div_right h
  have key : (a - b) / 10 ^ i + bor a b i + b / 10 ^ i = a / 10 ^ i := by
    unfold bor
    generalize hx : a / 10 ^ i = x at *
    generalize hy : b / 10 ^ i = y at *
    generalize a % 10 ^ i = p at *
    generalize b % 10 ^ i = q at *
    generalize 10 ^ i = P at *
    split
    · have hxy : y < x := by
        rcases Nat.lt_or_ge y x with hh | hh
        · exact hh
        · have : x = y := by omega
          subst this; omega
      have e : a - b = P * (x - y - 1) + (P + p - q) := by
        have : P * x = P * (x - y - 1) + P * y + P := by
          rw [← Nat.mul_add, ← Nat.mul_succ]; congr 1; omega
        omega
      rw [e, Nat.mul_add_div hp, Nat.div_eq_of_lt (by omega)]; omega
    · have e : a - b = P * (x - y) + (p - q) := by
        have : P * x = P * (x - y) + P * y := by rw [← Nat.mul_add]; congr 1; omega
        omega
      rw [e, Nat.mul_add_div hp, Nat.div_eq_of_lt (by omega)]; omega
  omega
end Go.Proofs.YtfnnhhhkdfgefaaGreatDoor.Dm
