/- Plain facts about the encoding of numbers as bytes: reading reverses writing, no encoding is the beginning of another. No program is named here. -/
import Derived.Lib.BitFns
namespace Go.Proofs.YtmipomglbccjbaaDoor.Wm

/-- the k lowest bytes of m, most significant first -/
def be : Nat → Nat → List UInt8
  | 0, _ => []
  | k + 1, m => UInt8.ofNat (m / 256 ^ k) :: be k m
def val (l : List UInt8) : Nat := l.foldl (fun a b => a * 256 + b.toNat) 0
def nb (m : Nat) : Nat := (Lib.bitLen m + 7) / 8
def mag (n : Int) : Nat := if n < 0 then (-1 - n).toNat else n.toNat
def hdr (n : Int) : UInt8 := UInt8.ofNat ((if n < 0 then 128 else 0) + nb (mag n))
def enc (n : Int) : List UInt8 := hdr n :: be (nb (mag n)) (mag n)
def decT (h : UInt8) (t : List UInt8) : Option (Int × Nat) :=
  if 8 < h.toNat % 128 ∨ t.length < h.toNat % 128 then none
  else if (0 < h.toNat % 128 ∧ t.head? = some 0) ∨ 9223372036854775807 < val (t.take (h.toNat % 128)) then none
  else some (if 128 ≤ h.toNat then -1 - (val (t.take (h.toNat % 128)) : Int) else (val (t.take (h.toNat % 128)) : Int), 1 + h.toNat % 128)
def dec : List UInt8 → Option (Int × Nat)
  | [] => none
  | h :: t => decT h t
theorem be_length (k m : Nat) : (be k m).length = k := by
  induction k with
  | zero => rfl
  | succ k ih => simp [be, ih]
theorem val_foldl (l : List UInt8) (a : Nat) : l.foldl (fun a b => a * 256 + b.toNat) a = a * 256 ^ l.length + val l := by
  induction l generalizing a with
  | nil => simp [val]
  | cons x t ih =>
    simp only [List.foldl_cons, List.length_cons, val]
    rw [ih, ih (0 * 256 + x.toNat)]
    rw [Nat.pow_succ]
    grind
theorem val_cons (x : UInt8) (t : List UInt8) : val (x :: t) = x.toNat * 256 ^ t.length + val t := by
  simp only [val, List.foldl_cons]
  rw [val_foldl]; simp [val]
theorem val_snoc (l : List UInt8) (x : UInt8) : val (l ++ [x]) = val l * 256 + x.toNat := by
  simp [val, List.foldl_append]
theorem val_lt (l : List UInt8) : val l < 256 ^ l.length := by
  induction l with
  | nil => simp [val]
  | cons x t ih =>
    rw [val_cons, List.length_cons, Nat.pow_succ]
    have := x.toNat_lt
    have hp : 0 < 256 ^ t.length := Nat.pow_pos (by omega)
    have h2 : x.toNat * 256 ^ t.length ≤ 255 * 256 ^ t.length := Nat.mul_le_mul_right _ (by omega)
    omega
theorem val_be (k m : Nat) : val (be k m) = m % 256 ^ k := by
  induction k with
  | zero => simp [be, val, Nat.mod_one]
  | succ k ih =>
    rw [be, val_cons, be_length, ih, UInt8.toNat_ofNat']
    have e : m % 256 ^ (k + 1) = m % 256 ^ k + 256 ^ k * (m / 256 ^ k % 256) := by rw [Nat.pow_succ, Nat.mod_mul]
    rw [e, Nat.mul_comm (256 ^ k), Nat.add_comm]
theorem val_be_lt (k m : Nat) (h : m < 256 ^ k) : val (be k m) = m := by rw [val_be, Nat.mod_eq_of_lt h]
theorem bitLen_lt (m : Nat) (h : m < 2 ^ 64) : m < 2 ^ Lib.bitLen m := by
  have key : ∀ f x : Nat, x < 2 ^ f → x < 2 ^ Lib.bitLenAux f x := by
    intro f
    induction f with
    | zero => intro x hx; simpa [Lib.bitLenAux] using hx
    | succ f ih =>
      intro x hx
      simp only [Lib.bitLenAux]
      split
      · subst_vars; simp
      · have := ih (x / 2) (by rw [Nat.pow_succ] at hx; omega)
        rw [Nat.add_comm, Nat.pow_succ]; omega
  exact key 64 m h
theorem bitLen_ge (m : Nat) (h : m < 2 ^ 64) (h0 : m ≠ 0) : 2 ^ (Lib.bitLen m - 1) ≤ m := by
  have key : ∀ f x : Nat, x < 2 ^ f → x ≠ 0 → 1 ≤ Lib.bitLenAux f x ∧ 2 ^ (Lib.bitLenAux f x - 1) ≤ x := by
    intro f
    induction f with
    | zero => intro x hx h0; simp at hx; omega
    | succ f ih =>
      intro x hx h0
      simp only [Lib.bitLenAux, if_neg h0]
      refine ⟨by omega, ?_⟩
      by_cases h1 : x / 2 = 0
      · rw [h1]
        have : Lib.bitLenAux f 0 = 0 := by cases f <;> simp [Lib.bitLenAux]
        rw [this]; simp; omega
      · obtain ⟨ha, hb⟩ := ih (x / 2) (by rw [Nat.pow_succ] at hx; omega) h1
        have e : 1 + Lib.bitLenAux f (x / 2) - 1 = (Lib.bitLenAux f (x / 2) - 1) + 1 := by omega
        rw [e, Nat.pow_succ]; omega
  exact (key 64 m h h0).2
theorem nb_le (m : Nat) (h : m < 2 ^ 64) : nb m ≤ 8 := by
  have := Lib.bitLen_le m 64 (by omega) h
  unfold nb; omega
theorem nb_zero : nb 0 = 0 := by decide +kernel
theorem nb_lt (m : Nat) (h : m < 2 ^ 64) : m < 256 ^ nb m := by
  have h1 := bitLen_lt m h
  have h2 : (256 : Nat) ^ nb m = 2 ^ (8 * nb m) := by rw [Nat.pow_mul]
  rw [h2]
  exact Nat.lt_of_lt_of_le h1 (Nat.pow_le_pow_right (by omega) (by unfold nb; omega))
theorem nb_ge (m : Nat) (h : m < 2 ^ 64) (h0 : m ≠ 0) : 0 < nb m ∧ 256 ^ (nb m - 1) ≤ m := by
  have h1 := bitLen_ge m h h0
  have hb : 0 < Lib.bitLen m := by
    rcases Nat.eq_zero_or_pos (Lib.bitLen m) with e | e
    · have := bitLen_lt m h; rw [e] at this; simp at this; omega
    · exact e
  refine ⟨by unfold nb; omega, ?_⟩
  have h2 : (256 : Nat) ^ (nb m - 1) = 2 ^ (8 * (nb m - 1)) := by rw [Nat.pow_mul]
  rw [h2]
  exact Nat.le_trans (Nat.pow_le_pow_right (by omega) (by unfold nb; omega)) h1
theorem be_head (k m : Nat) (h : m < 256 ^ (k + 1)) (h1 : 256 ^ k ≤ m) : (be (k + 1) m).head? ≠ some 0 := by
  simp only [be, List.head?_cons, ne_eq, Option.some.injEq]
  intro e
  have hp : 0 < 256 ^ k := Nat.pow_pos (by omega)
  have h3 : m / 256 ^ k < 256 := by rw [Nat.div_lt_iff_lt_mul hp]; rw [Nat.pow_succ] at h; omega
  have h4 : 0 < m / 256 ^ k := Nat.div_pos h1 hp
  have := congrArg UInt8.toNat e
  simp [UInt8.toNat_ofNat'] at this
  omega
/-- the numbers that are written -/
def inR (n : Int) : Prop := -9223372036854775808 ≤ n ∧ n ≤ 9223372036854775807
theorem mag_lt (n : Int) (h : inR n) : mag n ≤ 9223372036854775807 := by
  unfold inR at h; unfold mag; split <;> omega
theorem mag_back (n : Int) : (if n < 0 then -1 - (mag n : Int) else (mag n : Int)) = n := by
  unfold mag; split <;> omega
theorem hdr_toNat (n : Int) (h : inR n) : (hdr n).toNat = (if n < 0 then 128 else 0) + nb (mag n) := by
  have := nb_le (mag n) (by have := mag_lt n h; omega)
  unfold hdr
  rw [UInt8.toNat_ofNat']
  split <;> omega
theorem enc_length (n : Int) : (enc n).length = 1 + nb (mag n) := by simp [enc, be_length]; omega
theorem enc_length_le (n : Int) (h : inR n) : (enc n).length ≤ 9 := by
  have := nb_le (mag n) (by have := mag_lt n h; omega)
  rw [enc_length]; omega
theorem enc_length_pos (n : Int) : 0 < (enc n).length := by rw [enc_length]; omega
/-- reading reverses writing -/
theorem dec_enc (n : Int) (h : inR n) (r : List UInt8) : dec (enc n ++ r) = some (n, (enc n).length) := by
  have hm := mag_lt n h
  have hk := nb_le (mag n) (by omega)
  have hh := hdr_toNat n h
  have hlt := nb_lt (mag n) (by omega)
  have h128 : (hdr n).toNat % 128 = nb (mag n) := by rw [hh]; split <;> omega
  have htk : (be (nb (mag n)) (mag n) ++ r).take (nb (mag n)) = be (nb (mag n)) (mag n) := by
    conv => lhs; arg 1; rw [← be_length (nb (mag n)) (mag n)]
    simp
  show decT (hdr n) (be (nb (mag n)) (mag n) ++ r) = _
  unfold decT
  rw [h128, htk, val_be_lt _ _ hlt]
  rw [if_neg (by simp [be_length]; omega), if_neg, enc_length]
  · have e : (128 ≤ (hdr n).toNat) = (n < 0) := by rw [hh]; split <;> simp <;> omega
    have e2 := mag_back n
    congr 2
    simp only [e]
    exact e2
  · rintro (⟨h0, h1⟩ | h1)
    · have hz : mag n ≠ 0 := by intro e; rw [e, nb_zero] at h0; omega
      obtain ⟨k, hk'⟩ : ∃ k, nb (mag n) = k + 1 := ⟨nb (mag n) - 1, by omega⟩
      have hg := (nb_ge (mag n) (by omega) hz).2
      rw [hk'] at h1 hg hlt
      have hn := be_head k (mag n) hlt hg
      apply hn
      simp only [be, List.cons_append, List.head?_cons] at h1 ⊢
      exact h1
    · omega
/-- what decoding answers is in range, and takes from 1 to 9 bytes -/
theorem dec_some {l : List UInt8} {n : Int} {k : Nat} (h : dec l = some (n, k)) : inR n ∧ 1 ≤ k ∧ k ≤ 9 ∧ k ≤ l.length := by
  cases l with
  | nil => cases h
  | cons x t =>
    simp only [dec, decT] at h
    split at h
    · cases h
    · split at h
      · cases h
      · rename_i h1 h2
        simp only [Option.some.injEq, Prod.mk.injEq] at h
        obtain ⟨rfl, rfl⟩ := h
        refine ⟨?_, by omega, by omega, by simp; omega⟩
        unfold inR
        split <;> omega
theorem nb_unique (m k : Nat) (h64 : m < 2 ^ 64) (h : m < 256 ^ k) (h1 : k = 0 ∨ 256 ^ (k - 1) ≤ m) : nb m = k := by
  have ha := nb_lt m h64
  rcases Nat.lt_trichotomy (nb m) k with hlt | heq | hgt
  · rcases h1 with e | e
    · omega
    · have : 256 ^ nb m ≤ 256 ^ (k - 1) := Nat.pow_le_pow_right (by omega) (by omega)
      omega
  · exact heq
  · have h0 : m ≠ 0 := by intro e; subst e; rw [nb_zero] at hgt; omega
    have hb := (nb_ge m h64 h0).2
    have : 256 ^ k ≤ 256 ^ (nb m - 1) := Nat.pow_le_pow_right (by omega) (by omega)
    omega
theorem be_take_succ (k m j : Nat) (h : j < k) : (be k m).take (k - j) = (be k m).take (k - (j + 1)) ++ [UInt8.ofNat (m / 256 ^ j)] := by
  induction k with
  | zero => omega
  | succ k ih =>
    by_cases hj : j = k
    · subst hj
      simp [be]
    · have e1 : k + 1 - j = (k - j) + 1 := by omega
      have e2 : k + 1 - (j + 1) = (k - (j + 1)) + 1 := by omega
      rw [e1, e2, be, List.take_succ_cons, List.take_succ_cons, ih (by omega)]
      rfl
theorem byte_shift (m j : Nat) (h : j ≤ 7) : ((m : Int) / 2 ^ min (8 * j) 64 % 256) = ((UInt8.ofNat (m / 256 ^ j)).toNat : Int) := by
  have e : min (8 * j) 64 = 8 * j := by omega
  have e2 : (256 : Nat) ^ j = 2 ^ (8 * j) := by rw [Nat.pow_mul]
  have e3 : ((2 : Int) ^ (8 * j)) = ((2 ^ (8 * j) : Nat) : Int) := by simp
  rw [e, UInt8.toNat_ofNat', e2, e3, ← Int.natCast_ediv]
  generalize m / 2 ^ (8 * j) = q
  omega
end Go.Proofs.YtmipomglbccjbaaDoor.Wm
