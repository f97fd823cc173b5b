/- Layer 4 in plain words: the cast of a value to a type, which casts never fail, the common type. No function of the program is named here. -/
import Derived.Test.YtfnnhhhkdfgefaaGreatDoorValPm
import Derived.Test.YtfnnhhhkdfgefaaGreatDoorDecRb
import Derived.Test.YtfnnhhhkdfgefaaGreatDoorDecAm
import Derived.Test.YtfnnhhhkdfgefaaGreatDoorDecPrMath
namespace Go.Proofs.YtfnnhhhkdfgefaaGreatDoor.Vm
open Go.RowKit

def tru : ByteArray := ⟨#[116, 114, 117, 101]⟩
def fal : ByteArray := ⟨#[102, 97, 108, 115, 101]⟩
/-- a number of a type; the error -/
def scaled (n s k t : Int) : Cl × Int := if (rescM n s t).2 = 0 then (⟨k, (rescM n s t).1, t, ⟨#[]⟩⟩, 0) else (nil, (rescM n s t).2)
/-- a right value to a right type that it does not have -/
def castR (c : Cl) (k sc : Int) : Cl × Int :=
  if c.k = 1 then
    (if k = 2 then (⟨2, c.n, 0, ⟨#[]⟩⟩, 0) else if k = 4 then (⟨4, 0, 0, if c.n = 1 then tru else fal⟩, 0) else (nil, 40))
  else if c.k = 2 ∨ c.k = 3 then
    (if k = 1 ∧ c.k = 2 ∧ (c.n = 0 ∨ c.n = 1) then (⟨1, c.n, 0, ⟨#[]⟩⟩, 0)
     else if k = 2 ∨ k = 3 then scaled c.n c.sc k sc
     else if k = 4 then (⟨4, 0, 0, ⟨(printM c.n c.sc).toArray⟩⟩, 0) else (nil, 40))
  else if c.k = 4 then
    (if k = 1 then (if c.s = tru then (⟨1, 1, 0, ⟨#[]⟩⟩, 0) else if c.s = fal then (⟨1, 0, 0, ⟨#[]⟩⟩, 0) else (nil, 40))
     else if k = 2 ∨ k = 3 then (if (Pm.parseM c.s.data.toList).2.2 = true then scaled (Pm.parseM c.s.data.toList).1 (Pm.parseM c.s.data.toList).2.1 k sc else (nil, 40))
     else if k = 5 then (⟨5, 0, 0, c.s⟩, 0) else (nil, 40))
  else (if k = 4 ∧ rightB ⟨4, 0, 0, c.s⟩ = true then (⟨4, 0, 0, c.s⟩, 0) else (nil, 40))
/-- the cast of any value to any type -/
def cast (c : Cl) (k sc : Int) : Cl × Int :=
  if typeB k sc then (if (plain c).k = 0 ∨ ((plain c).k = k ∧ (plain c).sc = sc) then (plain c, 0) else castR (plain c) k sc) else (nil, 2)
/-- which casts never fail -/
def safe (k s l t : Int) : Bool :=
  typeB k s && typeB l t && decide ((k = l ∧ s = t) ∨ (k = 1 ∧ (l = 2 ∨ l = 4)) ∨ (k = 2 ∧ (l = 4 ∨ (l = 3 ∧ t = 0))) ∨ (k = 3 ∧ (l = 4 ∨ l = 2 ∨ (l = 3 ∧ t ≤ s))) ∨ (k = 4 ∧ l = 5))
/-- the common type -/
def fits (k s l t : Int) : (Int × Int) × Bool :=
  if typeB k s && typeB l t then (if k = l ∧ s = t then ((k, s), true) else if isNum k && isNum l then ((3, max s t), true) else ((0, 0), false)) else ((0, 0), false)

/-! ### rescaling -/
theorem ansV_err (A : Nat) (s : Bool) : (ansV A s).2 = 0 ∨ (ansV A s).2 = 20 := by
  unfold ansV
  repeat' split
  all_goals simp
theorem resc_err {n f t : Int} (h1 : scB f = true) (h2 : scB t = true) : (rescM n f t).2 = 0 ∨ (rescM n f t).2 = 20 := by
  unfold rescM
  rw [h1, h2, if_pos (by decide)]
  split <;> exact ansV_err _ _
theorem resc_i64 (n f t : Int) : i64 (rescM n f t).1 := by
  rw [← resc_eq]; exact mul_i64 n f 1 0 t
theorem resc_self {n s : Int} (h : scB s = true) (hn : i64 n) : rescM n s s = (n, 0) := by
  unfold rescM
  rw [h, if_pos (by decide), if_pos (Int.le_refl _), show (s - s).toNat = 0 by omega, Nat.pow_zero, Nat.mul_one]
  exact ansV_self n hn
theorem rnd_le (A B : Nat) (hB : 2 ≤ B) : rnd A B ≤ A := by
  unfold rnd
  have h1 := Nat.div_add_mod A B
  have h2 := Nat.mod_lt A (show 0 < B by omega)
  have h3 : 2 * (A / B) ≤ B * (A / B) := Nat.mul_le_mul_right _ hB
  split <;> omega
theorem resc_down {n f t : Int} (h1 : scB f = true) (h2 : scB t = true) (ht : t ≤ f) (hn : i64 n) : (rescM n f t).2 = 0 := by
  by_cases he : f = t
  · subst he; rw [resc_self h1 hn]
  unfold rescM
  rw [h1, h2, if_pos (by decide), if_neg (by omega), Nat.one_mul]
  obtain ⟨k, hk⟩ : ∃ k, (f - t).toNat = k + 1 := ⟨(f - t).toNat - 1, by omega⟩
  rw [hk]
  have hp : 2 ≤ 10 ^ (k + 1) := by
    have := Nat.pow_pos (n := k) (show 0 < 10 by omega)
    rw [Nat.pow_succ]; omega
  have := rnd_le n.natAbs _ hp
  unfold i64 at hn
  unfold ansV
  by_cases h0 : n < 0
  · rw [if_pos (by simpa using h0), if_pos (by omega)]
  · rw [if_neg (by simpa using h0), if_pos (by omega)]

/-! ### texts of numbers -/
theorem valid_ascii : ∀ l : List UInt8, (∀ c ∈ l, c.toNat < 128) → Lib.validD l = true := by
  intro l
  induction l with
  | nil => intro _; rfl
  | cons c r ih => intro h; rw [Lib.validD_cons _ _ (h c (by simp))]; exact ih fun d hd => h d (by simp [hd])
theorem allD_ascii {l : List UInt8} (h : Pm.allD l = true) : ∀ c ∈ l, c.toNat < 128 := by
  intro c hc
  have := (Pm.isD_iff c).1 (List.all_eq_true.1 h c hc)
  omega
theorem dot_ascii (u k : Nat) : ∀ c ∈ dotD u k, c.toNat < 128 := by
  have hp := allD_ascii (pad_all u k).1
  unfold dotD
  split
  · exact hp
  · intro c hc
    simp only [List.mem_append, List.mem_singleton] at hc
    rcases hc with (hc | rfl) | hc
    · exact hp c (List.mem_of_mem_take hc)
    · decide
    · exact hp c (List.mem_of_mem_drop hc)
theorem print_ascii (n s : Int) : ∀ c ∈ printM n s, c.toNat < 128 := by
  unfold printM
  split
  · split
    · intro c hc
      rcases List.mem_cons.1 hc with rfl | hc
      · decide
      · exact dot_ascii _ _ c hc
    · exact dot_ascii _ _
  · intro c hc; cases hc
theorem print_text (n s : Int) (hn : i64 n) : rightB ⟨4, 0, 0, ⟨(printM n s).toArray⟩⟩ = true := by
  have h1 := print_len n s hn
  have h2 := valid_ascii _ (print_ascii n s)
  have h3 : (⟨(printM n s).toArray⟩ : ByteArray).size ≤ 200 := by show (printM n s).toArray.size ≤ 200; rw [List.size_toArray]; omega
  unfold rightB
  simp [h2, h3]
theorem tru_text : rightB ⟨4, 0, 0, tru⟩ = true := by
  have h : Lib.validD tru.data.toList = true := valid_ascii _ (by decide)
  unfold rightB
  simp only [Int.reduceEq, if_false, if_true, decide_true, Bool.true_and]
  rw [h]; rfl
theorem fal_text : rightB ⟨4, 0, 0, fal⟩ = true := by
  have h : Lib.validD fal.data.toList = true := valid_ascii _ (by decide)
  unfold rightB
  simp only [Int.reduceEq, if_false, if_true, decide_true, Bool.true_and]
  rw [h]; rfl

/-! ### what a cast answers is of the type -/
theorem typeB_cases {k s : Int} (h : typeB k s = true) : (k = 1 ∧ s = 0) ∨ (k = 2 ∧ s = 0) ∨ (k = 3 ∧ scB s = true) ∨ (k = 4 ∧ s = 0) ∨ (k = 5 ∧ s = 0) := by
  unfold typeB at h
  split at h
  · rename_i hk; simp at h; omega
  split at h
  · rename_i hk; exact .inr (.inr (.inl ⟨hk, h⟩))
  · cases h
theorem of_mk {c : Cl} {k s : Int} (ht : typeB k s = true) (hr : rightB c = true) (hk : c.k = k) (hs : c.sc = s) : ofB c k s = true := by
  unfold ofB; rw [ht, hr]; simp [hk, hs]
theorem of_parts {c : Cl} {k s : Int} (h : ofB c k s = true) : typeB k s = true ∧ rightB c = true ∧ (c.k = 0 ∨ (c.k = k ∧ c.sc = s)) := by
  unfold ofB at h
  simp only [Bool.and_eq_true, Bool.or_eq_true, decide_eq_true_eq] at h
  exact ⟨h.1.1, h.1.2, h.2⟩
theorem sc0 : scB 0 = true := by decide
theorem right_num {k n s : Int} (hk : k = 2 ∧ s = 0 ∨ k = 3 ∧ scB s = true) : rightB ⟨k, n, s, ⟨#[]⟩⟩ = true := by
  rcases hk with ⟨rfl, rfl⟩ | ⟨rfl, hs⟩
  · rfl
  · unfold rightB; simp [hs]; rfl
theorem scaled_of {n f k t : Int} (ht : typeB k t = true) (hk : k = 2 ∨ k = 3) (h : (scaled n f k t).2 = 0) : ofB (scaled n f k t).1 k t = true := by
  have hc := typeB_cases ht
  unfold scaled at h ⊢
  split at h
  · rename_i he
    rw [if_pos he]
    have hk2 : k = 2 ∧ t = 0 ∨ k = 3 ∧ scB t = true := by
      rcases hc with ⟨h, _⟩ | h | h | ⟨h, _⟩ | ⟨h, _⟩
      · exfalso; omega
      · exact .inl h
      · exact .inr h
      · exfalso; omega
      · exfalso; omega
    exact of_mk ht (right_num hk2) rfl rfl
  · rename_i he; exact absurd h he
theorem right_bool {n : Int} (h : n = 0 ∨ n = 1) : rightB ⟨1, n, 0, ⟨#[]⟩⟩ = true := by rcases h with rfl | rfl <;> rfl
theorem cast_of (c : Cl) (k s : Int) (hn : i64 c.n) (h : (cast c k s).2 = 0) : ofB (cast c k s).1 k s = true := by
  have hpr := plain_right c
  have hpn := plain_i64 hn
  unfold cast at h ⊢
  cases ht : typeB k s
  · rw [ht] at h; simp at h
  rw [ht, if_pos rfl] at h
  rw [if_pos rfl]
  revert hpr hpn h
  generalize plain c = p
  intro h hpr hpn
  by_cases ho : p.k = 0 ∨ (p.k = k ∧ p.sc = s)
  · rw [if_pos ho]
    unfold ofB; rw [ht, hpr]
    simp only [Bool.true_and, Bool.or_eq_true, Bool.and_eq_true, decide_eq_true_eq]
    exact ho
  rw [if_neg ho] at h ⊢
  have hc := typeB_cases ht
  rcases right_cases hpr with rfl | ⟨n, hb, rfl⟩ | ⟨n, rfl⟩ | ⟨n, u, hu, rfl⟩ | ⟨u, hl, hv, rfl⟩ | ⟨u, hl, rfl⟩
  · exact absurd (.inl rfl) ho
  · unfold castR at h ⊢
    rw [if_pos rfl] at h ⊢
    by_cases k2 : k = 2
    · rw [if_pos k2]; exact of_mk ht rfl k2.symm (by show 0 = s; omega)
    rw [if_neg k2] at h ⊢
    by_cases k4 : k = 4
    · rw [if_pos k4]
      refine of_mk ht ?_ k4.symm (by show 0 = s; omega)
      split
      · exact tru_text
      · exact fal_text
    rw [if_neg k4] at h
    simp at h
  · unfold castR at h ⊢
    rw [if_neg (by simp), if_pos (.inl rfl)] at h ⊢
    by_cases q1 : k = 1 ∧ (2 : Int) = 2 ∧ (n = 0 ∨ n = 1)
    · rw [if_pos q1]; exact of_mk ht (right_bool q1.2.2) q1.1.symm (by show 0 = s; omega)
    rw [if_neg q1] at h ⊢
    by_cases q2 : k = 2 ∨ k = 3
    · rw [if_pos q2] at h ⊢; exact scaled_of ht q2 h
    rw [if_neg q2] at h ⊢
    by_cases k4 : k = 4
    · rw [if_pos k4]; exact of_mk ht (print_text _ _ hpn) k4.symm (by show 0 = s; omega)
    rw [if_neg k4] at h
    simp at h
  · unfold castR at h ⊢
    rw [if_neg (by simp), if_pos (.inr rfl)] at h ⊢
    rw [if_neg (by rintro ⟨_, h, _⟩; simp at h)] at h ⊢
    by_cases q2 : k = 2 ∨ k = 3
    · rw [if_pos q2] at h ⊢; exact scaled_of ht q2 h
    rw [if_neg q2] at h ⊢
    by_cases k4 : k = 4
    · rw [if_pos k4]; exact of_mk ht (print_text _ _ hpn) k4.symm (by show 0 = s; omega)
    rw [if_neg k4] at h
    simp at h
  · unfold castR at h ⊢
    rw [if_neg (by simp), if_neg (by simp), if_pos rfl] at h ⊢
    by_cases k1 : k = 1
    · rw [if_pos k1] at h ⊢
      split at h
      · rename_i e; rw [if_pos e]; exact of_mk ht rfl k1.symm (by show 0 = s; omega)
      split at h
      · rename_i e1 e2; rw [if_neg e1, if_pos e2]; exact of_mk ht rfl k1.symm (by show 0 = s; omega)
      · simp at h
    rw [if_neg k1] at h ⊢
    by_cases q2 : k = 2 ∨ k = 3
    · rw [if_pos q2] at h ⊢
      split at h
      · rename_i e; rw [if_pos e]; exact scaled_of ht q2 h
      · simp at h
    rw [if_neg q2] at h ⊢
    by_cases k5 : k = 5
    · rw [if_pos k5]
      refine of_mk ht ?_ k5.symm (by show 0 = s; omega)
      unfold rightB; simp [hl]
    rw [if_neg k5] at h
    simp at h
  · unfold castR at h ⊢
    rw [if_neg (by simp), if_neg (by simp), if_neg (by simp)] at h ⊢
    split at h
    · rename_i e; rw [if_pos e]; exact of_mk ht e.2 e.1.symm (by show 0 = s; omega)
    · simp at h
theorem cast_right (c : Cl) (k s : Int) (hn : i64 c.n) : rightB (cast c k s).1 = true := by
  by_cases h : (cast c k s).2 = 0
  · exact (of_parts (cast_of c k s hn h)).2.1
  · suffices e : (cast c k s).1 = nil by rw [e]; rfl
    revert h
    unfold cast castR scaled
    repeat' split
    all_goals simp
theorem right_size {c : Cl} (h : rightB c = true) : c.s.size ≤ 200 := by
  rcases right_cases h with rfl | ⟨n, hb, rfl⟩ | ⟨n, rfl⟩ | ⟨n, u, hu, rfl⟩ | ⟨u, hl, hv, rfl⟩ | ⟨u, hl, rfl⟩
  · decide
  · show (⟨#[]⟩ : ByteArray).size ≤ 200; decide
  · show (⟨#[]⟩ : ByteArray).size ≤ 200; decide
  · show (⟨#[]⟩ : ByteArray).size ≤ 200; decide
  · exact hl
  · exact hl
theorem i64_0 : i64 0 := ⟨by decide, by decide⟩
theorem i64_1 : i64 1 := ⟨by decide, by decide⟩
theorem scaled_i64 (n s k t : Int) : i64 (scaled n s k t).1.n := by
  unfold scaled
  split
  · exact resc_i64 n s t
  · exact i64_0
theorem cast_i64 (c : Cl) (k s : Int) (hn : i64 c.n) : i64 (cast c k s).1.n := by
  have hpn := plain_i64 hn
  unfold cast
  revert hpn
  generalize plain c = p
  intro hpn
  unfold castR
  repeat' split
  all_goals first | exact hpn | exact i64_0 | exact i64_1 | exact scaled_i64 _ _ _ _
theorem plain_of {c : Cl} (h : rightB c = true) : plain c = c := by unfold plain; rw [h]; rfl

/-! ### casts that never fail -/
theorem cast_safe (v : Cl) (k s l t : Int) (hn : i64 v.n) (hs : safe k s l t = true) (ho : ofB v k s = true) : (cast v l t).2 = 0 ∧ ((cast v l t).1.k = 0 ↔ v.k = 0) := by
  obtain ⟨h1, h2, h3⟩ := of_parts ho
  unfold safe at hs
  simp only [Bool.and_eq_true, decide_eq_true_eq] at hs
  obtain ⟨⟨_, ht⟩, hs⟩ := hs
  have h1' := typeB_cases h1
  have ht' := typeB_cases ht
  unfold cast
  rw [ht, if_pos rfl, plain_of h2]
  by_cases ho : v.k = 0 ∨ (v.k = l ∧ v.sc = t)
  · rw [if_pos ho]; exact ⟨rfl, Iff.rfl⟩
  rw [if_neg ho]
  rcases right_cases h2 with rfl | ⟨n, hb, rfl⟩ | ⟨n, rfl⟩ | ⟨n, u, hu, rfl⟩ | ⟨u, hl, hv, rfl⟩ | ⟨u, hl, rfl⟩
  · exact absurd (.inl rfl) ho
  · dsimp only at h3 ho hn ⊢
    unfold castR
    rw [if_pos rfl]
    by_cases k2 : l = 2
    · rw [if_pos k2]; simp
    · rw [if_neg k2, if_pos (by omega)]; simp
  · dsimp only at h3 ho hn ⊢
    unfold castR
    rw [if_neg (by simp), if_pos (.inl rfl)]
    rw [if_neg (by omega)]
    by_cases k4 : l = 4
    · rw [if_neg (by omega), if_pos k4]; simp
    · rw [if_pos (by omega)]
      have e : t = 0 := by omega
      subst e
      unfold scaled
      rw [if_pos (by rw [resc_self sc0 hn])]
      refine ⟨rfl, ?_⟩
      dsimp only; omega
  · dsimp only at h3 ho hn ⊢
    unfold castR
    rw [if_neg (by simp), if_pos (.inr rfl)]
    rw [if_neg (by omega)]
    by_cases k4 : l = 4
    · rw [if_neg (by omega), if_pos k4]; simp
    · rw [if_pos (by omega)]
      have hst : scB t = true := by
        rcases ht' with ⟨_, rfl⟩ | ⟨_, rfl⟩ | ⟨_, h⟩ | ⟨_, rfl⟩ | ⟨_, rfl⟩
        · exact sc0
        · exact sc0
        · exact h
        · exact sc0
        · exact sc0
      have hu0 := (scB_true hu).1
      have : t ≤ u := by omega
      unfold scaled
      rw [if_pos (resc_down hu hst this hn)]
      refine ⟨rfl, ?_⟩
      dsimp only; omega
  · dsimp only at h3 ho hn ⊢
    unfold castR
    rw [if_neg (by simp), if_neg (by simp), if_pos rfl]
    rw [if_neg (by omega), if_neg (by omega), if_pos (by omega)]
    simp
  · dsimp only at h3 ho hn ⊢
    omega

/-! ### the common type -/
theorem cast_own (v : Cl) (k s : Int) (ho : ofB v k s = true) : cast v k s = (v, 0) := by
  obtain ⟨h1, h2, h3⟩ := of_parts ho
  unfold cast
  rw [h1, if_pos rfl, plain_of h2, if_pos h3]
/-- a number to a decimal type -/
theorem cast_num (v : Cl) (k s t : Int) (hk : isNum k = true) (ht : scB t = true) (ho : ofB v k s = true) (h0 : v.k ≠ 0) (hn : i64 v.n) : cast v 3 t = scaled v.n v.sc 3 t ∧ scB v.sc = true ∧ isNum v.k = true ∧ v.sc = s := by
  obtain ⟨h1, h2, h3⟩ := of_parts ho
  obtain ⟨hvk, hvs⟩ := h3.resolve_left h0
  have h1' := typeB_cases h1
  simp only [isNum, Bool.or_eq_true, decide_eq_true_eq] at hk
  have hsc : scB v.sc = true := by
    rw [hvs]
    rcases h1' with ⟨_, rfl⟩ | ⟨_, rfl⟩ | ⟨_, h⟩ | ⟨_, rfl⟩ | ⟨_, rfl⟩
    · exact sc0
    · exact sc0
    · exact h
    · exact sc0
    · exact sc0
  have hT : typeB 3 t = true := by unfold typeB; simp [ht]
  refine ⟨?_, hsc, by simp [isNum, hvk, hk], hvs⟩
  unfold cast
  rw [hT, if_pos rfl, plain_of h2]
  by_cases hq : v.k = 0 ∨ (v.k = 3 ∧ v.sc = t)
  · rw [if_pos hq]
    obtain ⟨q1, q2⟩ := hq.resolve_left h0
    unfold scaled
    rw [← q2, resc_self hsc hn, if_pos rfl]
    rcases right_cases h2 with rfl | ⟨n, hb, rfl⟩ | ⟨n, rfl⟩ | ⟨n, u, hu, rfl⟩ | ⟨u, hl, hv, rfl⟩ | ⟨u, hl, rfl⟩
    · exact absurd rfl h0
    · simp at q1
    · simp at q1
    · rfl
    · simp at q1
    · simp at q1
  · rw [if_neg hq]
    unfold castR
    rw [if_neg (by omega), if_pos (by omega), if_neg (by omega), if_pos (by omega)]
theorem cast_null (v : Cl) (k s : Int) (ht : typeB k s = true) (hr : rightB v = true) (h0 : v.k = 0) : cast v k s = (v, 0) := by
  unfold cast
  rw [ht, if_pos rfl, plain_of hr, if_pos (.inl h0)]
theorem comp_null (a b : Cl) (h : a.k = 0 ∨ b.k = 0) : comp a b = (0, false) := by
  unfold comp
  have h1 : (isNum a.k && isNum b.k) = false := by
    rcases h with h | h <;> rw [h] <;> simp [isNum]
  rw [h1, if_neg (by simp), if_pos (by omega)]
theorem scB_max {s t : Int} (h1 : scB s = true) (h2 : scB t = true) : scB (max s t) = true := by
  rw [Int.max_def]; split
  · exact h2
  · exact h1
theorem cast_fits (a b : Cl) (k s l t x y : Int) (ha : i64 a.n) (hb : i64 b.n) (hf : fits k s l t = ((x, y), true)) (oa : ofB a k s = true) (ob : ofB b l t = true) :
    ((cast a x y).2 = 0 ∨ (cast a x y).2 = 20) ∧ ((cast b x y).2 = 0 ∨ (cast b x y).2 = 20) ∧
      ((cast a x y).2 = 0 → (cast b x y).2 = 0 → comp (plain a) (plain b) = comp (plain (cast a x y).1) (plain (cast b x y).1)) := by
  obtain ⟨a1, a2, a3⟩ := of_parts oa
  obtain ⟨b1, b2, b3⟩ := of_parts ob
  unfold fits at hf
  rw [a1, b1, if_pos (by decide)] at hf
  by_cases he : k = l ∧ s = t
  · rw [if_pos he] at hf
    obtain ⟨rfl, rfl⟩ := he
    obtain ⟨rfl, rfl⟩ : k = x ∧ s = y := by simpa using hf
    rw [cast_own a k s oa, cast_own b k s ob]
    exact ⟨.inl rfl, .inl rfl, fun _ _ => rfl⟩
  rw [if_neg he] at hf
  cases hk : isNum k
  · rw [hk] at hf; simp at hf
  cases hl : isNum l
  · rw [hk, hl] at hf; simp at hf
  rw [hk, hl, if_pos (by decide)] at hf
  obtain ⟨rfl, rfl⟩ : 3 = x ∧ max s t = y := by simpa using hf
  have ss : scB s = true := by
    rcases typeB_cases a1 with ⟨_, rfl⟩ | ⟨_, rfl⟩ | ⟨_, h⟩ | ⟨_, rfl⟩ | ⟨_, rfl⟩
    · exact sc0
    · exact sc0
    · exact h
    · exact sc0
    · exact sc0
  have st : scB t = true := by
    rcases typeB_cases b1 with ⟨_, rfl⟩ | ⟨_, rfl⟩ | ⟨_, h⟩ | ⟨_, rfl⟩ | ⟨_, rfl⟩
    · exact sc0
    · exact sc0
    · exact h
    · exact sc0
    · exact sc0
  have sm := scB_max ss st
  have hT : typeB 3 (max s t) = true := by unfold typeB; simp [sm]
  have side : ∀ (v : Cl) (k' s' : Int), isNum k' = true → ofB v k' s' = true → i64 v.n → ((cast v 3 (max s t)).2 = 0 ∨ (cast v 3 (max s t)).2 = 20) := by
    intro v k' s' hk' ho hn
    by_cases h0 : v.k = 0
    · rw [cast_null v _ _ hT (of_parts ho).2.1 h0]; exact .inl rfl
    · obtain ⟨e, hs, _, _⟩ := cast_num v k' s' _ hk' sm ho h0 hn
      rw [e]; unfold scaled
      split
      · exact .inl rfl
      · exact resc_err hs sm
  refine ⟨side a k s hk oa ha, side b l t hl ob hb, fun ea eb => ?_⟩
  rw [plain_of a2, plain_of b2, plain_of (cast_right a _ _ ha), plain_of (cast_right b _ _ hb)]
  by_cases ka : a.k = 0
  · rw [cast_null a _ _ hT a2 ka, comp_null _ _ (.inl ka), comp_null _ _ (.inl ka)]
  by_cases kb : b.k = 0
  · rw [cast_null b _ _ hT b2 kb, comp_null _ _ (.inr kb), comp_null _ _ (.inr kb)]
  obtain ⟨ca, sa, na, va⟩ := cast_num a k s _ hk sm oa ka ha
  obtain ⟨cb, sb, nb, vb⟩ := cast_num b l t _ hl sm ob kb hb
  rw [ca] at ea ⊢
  rw [cb] at eb ⊢
  have ra : (rescM a.n a.sc (max s t)).2 = 0 := by
    unfold scaled at ea; split at ea
    · assumption
    · exact ea
  have rb : (rescM b.n b.sc (max s t)).2 = 0 := by
    unfold scaled at eb; split at eb
    · assumption
    · exact eb
  unfold scaled
  rw [if_pos ra, if_pos rb]
  unfold comp
  rw [na, nb, if_pos (by decide)]
  show _ = if (isNum 3 && isNum 3) = true then _ else _
  rw [if_pos (by decide)]
  have hm1 : a.sc ≤ max s t := by rw [va]; exact Int.le_max_left _ _
  have hm2 : b.sc ≤ max s t := by rw [vb]; exact Int.le_max_right _ _
  rw [comp_bring (e := 0) (f := 0) ha hb (Prod.ext rfl ra) (Prod.ext rfl rb) rfl rfl hm1 hm2]

/-! ### back from a text -/
theorem scaled_self (n s k : Int) (hs : scB s = true) (hn : i64 n) : scaled n s k s = (⟨k, n, s, ⟨#[]⟩⟩, 0) := by
  unfold scaled; rw [resc_self hs hn, if_pos rfl]
theorem tru_ne_fal : tru ≠ fal := by decide
theorem type4 : typeB 4 0 = true := by decide
theorem cast_text {s : ByteArray} (k t : Int) (hr : rightB ⟨4, 0, 0, s⟩ = true) (ht : typeB k t = true) (h4 : k ≠ 4) : cast ⟨4, 0, 0, s⟩ k t = castR ⟨4, 0, 0, s⟩ k t := by
  unfold cast
  rw [ht, if_pos rfl, plain_of hr, if_neg (by dsimp only; omega)]
theorem castR_text (s : ByteArray) (k t : Int) : castR ⟨4, 0, 0, s⟩ k t =
    (if k = 1 then (if s = tru then (⟨1, 1, 0, ⟨#[]⟩⟩, 0) else if s = fal then (⟨1, 0, 0, ⟨#[]⟩⟩, 0) else (nil, 40))
     else if k = 2 ∨ k = 3 then (if (Pm.parseM s.data.toList).2.2 = true then scaled (Pm.parseM s.data.toList).1 (Pm.parseM s.data.toList).2.1 k t else (nil, 40))
     else if k = 5 then (⟨5, 0, 0, s⟩, 0) else (nil, 40)) := by
  unfold castR
  rw [if_neg (by simp), if_neg (by simp), if_pos rfl]
theorem cast_back (v : Cl) (k s : Int) (hn : i64 v.n) (ho : ofB v k s = true) :
    ((cast v 4 0).2 ≠ 0 → k = 5) ∧ ((cast v 4 0).2 = 0 → cast (cast v 4 0).1 k s = (v, 0)) := by
  obtain ⟨h1, h2, h3⟩ := of_parts ho
  by_cases h0 : v.k = 0
  · rw [cast_null v 4 0 type4 h2 h0]
    exact ⟨fun h => absurd rfl h, fun _ => cast_null v k s h1 h2 h0⟩
  obtain ⟨hk, hs⟩ := h3.resolve_left h0
  by_cases h4 : v.k = 4
  · have e : cast v 4 0 = (v, 0) := by
      apply cast_own
      refine of_mk type4 h2 h4 ?_
      rw [hs]
      have := typeB_cases h1
      omega
    rw [e]
    exact ⟨fun h => absurd rfl h, fun _ => cast_own v k s ho⟩
  have e : cast v 4 0 = castR v 4 0 := by
    unfold cast
    rw [type4, if_pos rfl, plain_of h2, if_neg (by omega)]
  rw [e]
  rcases right_cases h2 with rfl | ⟨n, hb, rfl⟩ | ⟨n, rfl⟩ | ⟨n, u, hu, rfl⟩ | ⟨u, hl, hv, rfl⟩ | ⟨u, hl, rfl⟩
  · exact absurd rfl h0
  · subst hk hs
    have e2 : castR ⟨1, n, 0, ⟨#[]⟩⟩ 4 0 = (⟨4, 0, 0, if n = 1 then tru else fal⟩, 0) := by unfold castR; rw [if_pos rfl, if_neg (by simp), if_pos rfl]
    rw [e2]
    refine ⟨fun h => absurd rfl h, fun _ => ?_⟩
    rcases hb with rfl | rfl
    · show cast ⟨4, 0, 0, fal⟩ 1 0 = _
      rw [cast_text 1 0 fal_text h1 (by decide), castR_text, if_pos rfl, if_neg (fun h => tru_ne_fal h.symm), if_pos rfl]
    · show cast ⟨4, 0, 0, tru⟩ 1 0 = _
      rw [cast_text 1 0 tru_text h1 (by decide), castR_text, if_pos rfl, if_pos rfl]
  · subst hk hs
    have e2 : castR ⟨2, n, 0, ⟨#[]⟩⟩ 4 0 = (⟨4, 0, 0, ⟨(printM n 0).toArray⟩⟩, 0) := by
      unfold castR; rw [if_neg (by simp), if_pos (.inl rfl), if_neg (by dsimp only; omega), if_neg (by simp), if_pos rfl]
    rw [e2]
    refine ⟨fun h => absurd rfl h, fun _ => ?_⟩
    show cast ⟨4, 0, 0, ⟨(printM n 0).toArray⟩⟩ 2 0 = _
    have hp : Pm.parseM (⟨(printM n 0).toArray⟩ : ByteArray).data.toList = (n, 0, true) := by
      show Pm.parseM (printM n 0) = _
      rw [print_back n 0 hn, sc0]; rfl
    rw [cast_text 2 0 (print_text n 0 hn) h1 (by decide), castR_text, if_neg (by simp), if_pos (.inl rfl), hp, if_pos rfl]
    exact scaled_self n 0 2 sc0 hn
  · subst hk hs
    have e2 : castR ⟨3, n, u, ⟨#[]⟩⟩ 4 0 = (⟨4, 0, 0, ⟨(printM n u).toArray⟩⟩, 0) := by
      unfold castR; rw [if_neg (by simp), if_pos (.inr rfl), if_neg (by dsimp only; omega), if_neg (by simp), if_pos rfl]
    rw [e2]
    refine ⟨fun h => absurd rfl h, fun _ => ?_⟩
    show cast ⟨4, 0, 0, ⟨(printM n u).toArray⟩⟩ 3 u = _
    have hp : Pm.parseM (⟨(printM n u).toArray⟩ : ByteArray).data.toList = (n, u, true) := by
      show Pm.parseM (printM n u) = _
      rw [print_back n u hn, hu]; rfl
    rw [cast_text 3 u (print_text n u hn) h1 (by decide), castR_text, if_neg (by simp), if_pos (.inr rfl), hp, if_pos rfl]
    exact scaled_self n u 3 hu hn
  · exact absurd rfl h4
  · subst hk hs
    refine ⟨fun _ => rfl, fun h => ?_⟩
    have e2 : castR ⟨5, 0, 0, u⟩ 4 0 = if (4 : Int) = 4 ∧ rightB ⟨4, 0, 0, u⟩ = true then (⟨4, 0, 0, u⟩, 0) else (nil, 40) := by
      unfold castR; rw [if_neg (by simp), if_neg (by simp), if_neg (by simp)]
    rw [e2] at h ⊢
    split at h
    · rename_i q
      rw [if_pos q]
      show cast ⟨4, 0, 0, u⟩ 5 0 = _
      rw [cast_text 5 0 q.2 h1 (by decide), castR_text, if_neg (by simp), if_neg (by simp), if_pos rfl]
    · simp at h
end Go.Proofs.YtfnnhhhkdfgefaaGreatDoor.Vm
