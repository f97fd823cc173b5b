/- Layer 5 in plain words: the key of values, reading it again, its order, the least bytes above. No function of the program is named here. -/
import Derived.Test.YtamclbagafcmgaaDoorValMm
import Derived.Test.YtamclbagafcmgaaDoorWireMath
namespace Go.Proofs.YtamclbagafcmgaaDoor.Vm
open Go.RowKit

/-- eight bytes of a number, its highest bit inverted -/
def num8 (n : Int) : List UInt8 := Wm.be 8 (n + 9223372036854775808).toNat
/-- each 00 becomes 00 FF -/
def esc0 : List UInt8 → List UInt8
  | [] => []
  | c :: r => if c = 0 then 0 :: 255 :: esc0 r else c :: esc0 r
/-- the key of one right value -/
def one (c : Cl) : List UInt8 :=
  UInt8.ofNat c.k.toNat ::
    (if c.k = 1 then [UInt8.ofNat c.n.toNat]
     else if c.k = 2 then num8 c.n
     else if c.k = 3 then UInt8.ofNat c.sc.toNat :: num8 c.n
     else if c.k = 4 ∨ c.k = 5 then esc0 c.s.data.toList ++ [0, 1]
     else [])
/-- the key of values -/
def put : List Cl → List UInt8
  | [] => []
  | c :: r => one (plain c) ++ put r
/-- up to the end 00 01: the bytes, and how many places they take with it -/
def unesc0 : List UInt8 → Option (List UInt8 × Nat)
  | [] => none
  | [_] => none
  | c :: d :: r =>
    if c = 0 then (if d = 1 then some ([], 2) else if d = 255 then (unesc0 r).map (fun p => (0 :: p.1, p.2 + 2)) else none)
    else (unesc0 (d :: r)).map (fun p => (c :: p.1, p.2 + 1))
def text0 (k : Int) (r : List UInt8) : Option (Cl × Nat) :=
  match unesc0 r with
  | none => none
  | some (t, n) => if rightB ⟨k, 0, 0, ⟨t.toArray⟩⟩ then some (⟨k, 0, 0, ⟨t.toArray⟩⟩, n + 1) else none
/-- the right value whose key stands at the beginning, and how long that is -/
def nextC (k : UInt8) (r : List UInt8) : Option (Cl × Nat) :=
    if k = 0 then some (nil, 1)
    else if k = 1 then (match r with | [] => none | b :: _ => if b.toNat < 2 then some (⟨1, (b.toNat : Int), 0, ⟨#[]⟩⟩, 2) else none)
    else if k = 2 then (if r.length < 8 then none else some (⟨2, (Wm.val (r.take 8) : Int) - 9223372036854775808, 0, ⟨#[]⟩⟩, 9))
    else if k = 3 then (match r with | [] => none | b :: t => if t.length < 8 ∨ 6 < b.toNat then none else some (⟨3, (Wm.val (t.take 8) : Int) - 9223372036854775808, (b.toNat : Int), ⟨#[]⟩⟩, 10))
    else if k = 4 then text0 4 r
    else if k = 5 then text0 5 r
    else none
def next : List UInt8 → Option (Cl × Nat)
  | [] => none
  | k :: r => nextC k r
def getF : Nat → List UInt8 → Option (List Cl)
  | _, [] => some []
  | 0, _ :: _ => none
  | f + 1, c :: r => match next (c :: r) with
    | none => none
    | some (v, n) => (getF f ((c :: r).drop n)).map (v :: ·)
/-- the values whose key it is -/
def get (l : List UInt8) : Option (List Cl) := getF l.length l
/-- the least bytes behind all that begin so -/
def above : List UInt8 → List UInt8
  | [] => []
  | c :: r => match above r with
    | [] => if c = 255 then [] else [c + 1]
    | x :: t => c :: x :: t

/-! ### numbers -/
theorem num8_length (n : Int) : (num8 n).length = 8 := Wm.be_length _ _
theorem val_num8 (n : Int) (h : i64 n) : (Wm.val (num8 n) : Int) - 9223372036854775808 = n := by
  unfold num8
  rw [Wm.val_be]
  unfold i64 at h
  rw [Nat.mod_eq_of_lt (by omega)]
  omega
theorem be_val : ∀ (l : List UInt8), Wm.be l.length (Wm.val l) = l
  | [] => rfl
  | x :: t => by
    have hl := Wm.val_lt t
    have ih := be_val t
    rw [List.length_cons, Wm.be, Wm.val_cons]
    have hp : 0 < 256 ^ t.length := Nat.pow_pos (by omega)
    have e1 : (x.toNat * 256 ^ t.length + Wm.val t) / 256 ^ t.length = x.toNat := by
      rw [Nat.mul_comm, Nat.mul_add_div hp, Nat.div_eq_of_lt hl]; rfl
    rw [e1, UInt8.ofNat_toNat]
    have e2 : ∀ (k a m : Nat), k ≤ t.length → Wm.be k (a * 256 ^ t.length + m) = Wm.be k m := by
      intro k
      induction k with
      | zero => intros; rfl
      | succ k ih2 =>
        intro a m hk
        rw [Wm.be, Wm.be, ih2 a m (by omega)]
        congr 1
        obtain ⟨j, hj⟩ : ∃ j, t.length = k + 1 + j := ⟨t.length - (k + 1), by omega⟩
        have e3 : a * 256 ^ t.length + m = 256 ^ k * (a * 256 ^ j * 256) + m := by
          rw [hj, Nat.pow_add, Nat.pow_succ]
          congr 1
          simp only [Nat.mul_comm, Nat.mul_left_comm, Nat.mul_assoc]
        rw [e3, Nat.mul_add_div (Nat.pow_pos (by omega))]
        apply UInt8.toNat_inj.1
        rw [UInt8.toNat_ofNat', UInt8.toNat_ofNat']
        omega
    rw [e2 t.length x.toNat (Wm.val t) (Nat.le_refl _), ih]
theorem num8_val (t : List UInt8) (h : t.length = 8) : num8 ((Wm.val t : Int) - 9223372036854775808) = t ∧ i64 ((Wm.val t : Int) - 9223372036854775808) := by
  have hl := Wm.val_lt t
  rw [h] at hl
  constructor
  · unfold num8
    rw [show ((Wm.val t : Int) - 9223372036854775808 + 9223372036854775808).toNat = Wm.val t by omega]
    have := be_val t
    rw [h] at this
    exact this
  · unfold i64; omega

/-! ### texts -/
theorem unesc0_esc0 : ∀ (l r : List UInt8), unesc0 (esc0 l ++ 0 :: 1 :: r) = some (l, (esc0 l).length + 2)
  | [], r => rfl
  | c :: l, r => by
    have ih := unesc0_esc0 l r
    by_cases hc : c = 0
    · subst hc
      rw [esc0, if_pos rfl]
      show unesc0 (0 :: 255 :: (esc0 l ++ 0 :: 1 :: r)) = _
      rw [unesc0, if_pos rfl, if_neg (by decide), if_pos rfl, ih]
      rfl
    · rw [esc0, if_neg hc]
      show unesc0 (c :: (esc0 l ++ 0 :: 1 :: r)) = _
      obtain ⟨d, t, e⟩ : ∃ d t, esc0 l ++ 0 :: 1 :: r = d :: t := by
        cases h : esc0 l ++ 0 :: 1 :: r with
        | nil => simp at h
        | cons d t => exact ⟨d, t, rfl⟩
      rw [e, unesc0, if_neg hc, ← e, ih]
      simp
theorem esc0_unesc0 : ∀ (r t : List UInt8) (n : Nat), unesc0 r = some (t, n) → r.take n = esc0 t ++ [0, 1] ∧ n = (esc0 t).length + 2 ∧ n ≤ r.length
  | [], t, n, h => by simp [unesc0] at h
  | [_], t, n, h => by simp [unesc0] at h
  | c :: d :: r, t, n, h => by
    rw [unesc0] at h
    split at h
    · rename_i hc
      subst hc
      split at h
      · rename_i hd
        subst hd
        simp only [Option.some.injEq, Prod.mk.injEq] at h
        obtain ⟨rfl, rfl⟩ := h
        exact ⟨rfl, rfl, by simp⟩
      split at h
      · rename_i hd
        subst hd
        obtain ⟨⟨t', n'⟩, he, hp⟩ := Option.map_eq_some_iff.1 h
        simp only [Prod.mk.injEq] at hp
        obtain ⟨rfl, rfl⟩ := hp
        obtain ⟨h1, h2, h3⟩ := esc0_unesc0 r t' n' he
        refine ⟨?_, ?_, by simp; omega⟩
        · rw [List.take_succ_cons, List.take_succ_cons, h1, esc0, if_pos rfl]; rfl
        · rw [esc0, if_pos rfl]; simp; omega
      · cases h
    · rename_i hc
      obtain ⟨⟨t', n'⟩, he, hp⟩ := Option.map_eq_some_iff.1 h
      simp only [Prod.mk.injEq] at hp
      obtain ⟨rfl, rfl⟩ := hp
      obtain ⟨h1, h2, h3⟩ := esc0_unesc0 (d :: r) t' n' he
      refine ⟨?_, ?_, by simp at h3 ⊢; omega⟩
      · rw [List.take_succ_cons, h1, esc0, if_neg hc]; rfl
      · rw [esc0, if_neg hc]; simp; omega

/-! ### a value -/
theorem one_pos (c : Cl) : 0 < (one c).length := by unfold one; simp
theorem small_u8 {n : Int} (h0 : 0 ≤ n) (h1 : n < 256) : ((UInt8.ofNat n.toNat).toNat : Int) = n := by
  rw [UInt8.toNat_ofNat']; omega
theorem text0_one (k : Int) (s : ByteArray) (r : List UInt8) (h : rightB ⟨k, 0, 0, s⟩ = true) : text0 k (esc0 s.data.toList ++ 0 :: 1 :: r) = some (⟨k, 0, 0, s⟩, (esc0 s.data.toList).length + 3) := by
  unfold text0
  rw [unesc0_esc0]
  show (if rightB ⟨k, 0, 0, s⟩ = true then some ((⟨k, 0, 0, s⟩ : Cl), _) else none) = _
  rw [if_pos h]
theorem next_one (c : Cl) (r : List UInt8) (hr : rightB c = true) (hn : i64 c.n) : next (one c ++ r) = some (c, (one c).length) := by
  rcases right_cases hr with rfl | ⟨n, hb, rfl⟩ | ⟨n, rfl⟩ | ⟨n, u, hu, rfl⟩ | ⟨u, hl, hv, rfl⟩ | ⟨u, hl, rfl⟩
  · rfl
  · rcases hb with rfl | rfl <;> rfl
  · show nextC 2 (num8 n ++ r) = some (⟨2, n, 0, ⟨#[]⟩⟩, (2 :: num8 n).length)
    have h8 : (num8 n ++ r).take 8 = num8 n := List.take_left' (num8_length n)
    unfold nextC
    rw [if_neg (by decide), if_neg (by decide), if_pos rfl, if_neg (by simp [num8_length]), h8, val_num8 n hn, List.length_cons, num8_length]
  · obtain ⟨u0, u1⟩ := scB_true hu
    show nextC 3 (UInt8.ofNat u.toNat :: (num8 n ++ r)) = some (⟨3, n, u, ⟨#[]⟩⟩, (3 :: UInt8.ofNat u.toNat :: num8 n).length)
    have h8 : (num8 n ++ r).take 8 = num8 n := List.take_left' (num8_length n)
    have hu8 := small_u8 u0 (show u < 256 by omega)
    unfold nextC
    rw [if_neg (by decide), if_neg (by decide), if_neg (by decide), if_pos rfl]
    show (if (num8 n ++ r).length < 8 ∨ 6 < (UInt8.ofNat u.toNat).toNat then none else _) = _
    rw [if_neg (by simp [num8_length]; omega), h8, val_num8 n hn, hu8, List.length_cons, List.length_cons, num8_length]
  · show nextC 4 ((esc0 u.data.toList ++ [0, 1]) ++ r) = some (⟨4, 0, 0, u⟩, (4 :: (esc0 u.data.toList ++ [0, 1])).length)
    unfold nextC
    rw [if_neg (by decide), if_neg (by decide), if_neg (by decide), if_neg (by decide), if_pos rfl, List.append_assoc]
    show text0 4 (esc0 u.data.toList ++ 0 :: 1 :: r) = _
    rw [text0_one 4 u r hr]; simp
  · show nextC 5 ((esc0 u.data.toList ++ [0, 1]) ++ r) = some (⟨5, 0, 0, u⟩, (5 :: (esc0 u.data.toList ++ [0, 1])).length)
    unfold nextC
    rw [if_neg (by decide), if_neg (by decide), if_neg (by decide), if_neg (by decide), if_neg (by decide), if_pos rfl, List.append_assoc]
    show text0 5 (esc0 u.data.toList ++ 0 :: 1 :: r) = _
    rw [text0_one 5 u r hr]; simp
theorem text0_some (k : Int) (hk : k = 4 ∨ k = 5) (r : List UInt8) (c : Cl) (n : Nat) (h : text0 k r = some (c, n)) :
    rightB c = true ∧ c.n = 0 ∧ (UInt8.ofNat k.toNat :: r).take n = one c ∧ n = (one c).length ∧ n ≤ r.length + 1 := by
  unfold text0 at h
  split at h
  · cases h
  · rename_i t m he
    split at h
    · rename_i hr
      simp only [Option.some.injEq, Prod.mk.injEq] at h
      obtain ⟨rfl, rfl⟩ := h
      obtain ⟨h1, h2, h3⟩ := esc0_unesc0 r t m he
      have ho : one ⟨k, 0, 0, ⟨t.toArray⟩⟩ = UInt8.ofNat k.toNat :: (esc0 t ++ [0, 1]) := by
        rcases hk with rfl | rfl <;> rfl
      refine ⟨hr, rfl, ?_, ?_, by omega⟩
      · rw [List.take_succ_cons, h1, ho]
      · rw [ho]; simp; omega
    · cases h
theorem next_some (l : List UInt8) (c : Cl) (n : Nat) (h : next l = some (c, n)) : rightB c = true ∧ i64 c.n ∧ l.take n = one c ∧ n = (one c).length ∧ n ≤ l.length := by
  cases l with
  | nil => cases h
  | cons k r =>
    change nextC k r = some (c, n) at h
    unfold nextC at h
    split at h
    · rename_i hk
      subst hk
      simp only [Option.some.injEq, Prod.mk.injEq] at h
      obtain ⟨rfl, rfl⟩ := h
      exact ⟨rfl, ⟨by decide, by decide⟩, rfl, rfl, by simp⟩
    split at h
    · rename_i hk
      subst hk
      cases r with
      | nil => cases h
      | cons b t =>
        dsimp only at h
        split at h
        · rename_i hb
          simp only [Option.some.injEq, Prod.mk.injEq] at h
          obtain ⟨rfl, rfl⟩ := h
          refine ⟨?_, by unfold i64; dsimp only; omega, ?_, rfl, by simp⟩
          · rcases (show b.toNat = 0 ∨ b.toNat = 1 by omega) with e | e <;> rw [e] <;> rfl
          · show [1, b] = [1, UInt8.ofNat ((b.toNat : Int)).toNat]
            rw [Int.toNat_natCast, UInt8.ofNat_toNat]
        · cases h
    split at h
    · rename_i hk
      subst hk
      split at h
      · cases h
      · rename_i hlen
        simp only [Option.some.injEq, Prod.mk.injEq] at h
        obtain ⟨rfl, rfl⟩ := h
        obtain ⟨h1, h2⟩ := num8_val (r.take 8) (by simp; omega)
        refine ⟨rfl, h2, ?_, ?_, by simp; omega⟩
        · show 2 :: r.take 8 = 2 :: num8 _
          rw [h1]
        · show 9 = (2 :: num8 _).length
          rw [List.length_cons, num8_length]
    split at h
    · rename_i hk
      subst hk
      cases r with
      | nil => cases h
      | cons b t =>
        dsimp only at h
        split at h
        · cases h
        · rename_i hlen
          simp only [not_or, Nat.not_lt] at hlen
          simp only [Option.some.injEq, Prod.mk.injEq] at h
          obtain ⟨rfl, rfl⟩ := h
          obtain ⟨h1, h2⟩ := num8_val (t.take 8) (by simp; omega)
          refine ⟨?_, h2, ?_, ?_, by simp; omega⟩
          · have hs : scB (b.toNat : Int) = true := by unfold scB; simp; omega
            unfold rightB; simp [hs]; rfl
          · show 3 :: b :: t.take 8 = 3 :: UInt8.ofNat ((b.toNat : Int)).toNat :: num8 _
            rw [h1, Int.toNat_natCast, UInt8.ofNat_toNat]
          · show 10 = (3 :: _ :: num8 _).length
            rw [List.length_cons, List.length_cons, num8_length]
    split at h
    · rename_i hk
      subst hk
      obtain ⟨h1, h2, h3, h4, h5⟩ := text0_some 4 (.inl rfl) r c n h
      exact ⟨h1, by rw [h2]; exact ⟨by decide, by decide⟩, h3, h4, by simpa using h5⟩
    split at h
    · rename_i hk
      subst hk
      obtain ⟨h1, h2, h3, h4, h5⟩ := text0_some 5 (.inr rfl) r c n h
      exact ⟨h1, by rw [h2]; exact ⟨by decide, by decide⟩, h3, h4, by simpa using h5⟩
    · cases h
theorem next_pos (l : List UInt8) (c : Cl) (n : Nat) (h : next l = some (c, n)) : 0 < n := by
  obtain ⟨_, _, _, h4, _⟩ := next_some l c n h
  rw [h4]; exact one_pos c

/-! ### all values -/
theorem getF_put : ∀ (cs : List Cl) (f : Nat), (∀ c ∈ cs, rightB c = true ∧ i64 c.n) → (put cs).length ≤ f → getF f (put cs) = some cs
  | [], f, _, _ => by cases f <;> rfl
  | c :: r, f, h, hf => by
    obtain ⟨hr, hn⟩ := h c (by simp)
    have hp : plain c = c := by unfold plain; rw [hr]; rfl
    have h1 := one_pos c
    have e : put (c :: r) = one c ++ put r := by rw [put, hp]
    rw [e] at hf ⊢
    rw [List.length_append] at hf
    obtain ⟨x, t, hx⟩ : ∃ x t, one c ++ put r = x :: t := by
      cases hh : one c ++ put r with
      | nil => exact absurd (List.append_eq_nil_iff.1 hh).1 (fun e => by rw [e] at h1; simp at h1)
      | cons x t => exact ⟨x, t, rfl⟩
    cases f with
    | zero => omega
    | succ f =>
      have hN := next_one c (put r) hr hn
      rw [hx] at hN ⊢
      rw [getF, hN]
      dsimp only
      rw [← hx, List.drop_left, getF_put r f (fun d hd => h d (by simp [hd])) (by omega)]
      rfl
theorem get_put (cs : List Cl) (h : ∀ c ∈ cs, rightB c = true ∧ i64 c.n) : get (put cs) = some cs := getF_put cs _ h (Nat.le_refl _)
theorem put_plain : ∀ cs : List Cl, put (cs.map plain) = put cs
  | [] => rfl
  | c :: r => by rw [List.map_cons, put, put, plain_plain, put_plain r]
theorem put_append : ∀ a b : List Cl, put (a ++ b) = put a ++ put b
  | [], b => rfl
  | c :: r, b => by rw [List.cons_append, put, put, put_append r b, List.append_assoc]

/-! ### the order -/
/-- how bytes part; 0 where one is the beginning of the other -/
def part : List UInt8 → List UInt8 → Int
  | a :: la, b :: lb => if a.toNat < b.toNat then -1 else if b.toNat < a.toNat then 1 else part la lb
  | _, _ => 0
theorem part_same : ∀ (x r s : List UInt8), part (x ++ r) (x ++ s) = part r s
  | [], r, s => rfl
  | a :: x, r, s => by
    show part (a :: (x ++ r)) (a :: (x ++ s)) = _
    rw [part, if_neg (by omega), if_neg (by omega), part_same x r s]
theorem part_app : ∀ (x y r s : List UInt8), part x y ≠ 0 → part (x ++ r) (y ++ s) = part x y
  | [], y, r, s, h => by exact absurd (by cases y <;> rfl) h
  | _ :: _, [], r, s, h => absurd rfl h
  | a :: x, b :: y, r, s, h => by
    show part (a :: (x ++ r)) (b :: (y ++ s)) = _
    rw [part] at h
    rw [part, part]
    split
    · rfl
    split
    · rfl
    · rw [if_neg (by assumption), if_neg (by assumption)] at h
      exact part_app x y r s h
theorem part_cmp : ∀ (x y : List UInt8), part x y ≠ 0 → Lib.compareBytes x y = part x y
  | [], y, h => by exact absurd (by cases y <;> rfl) h
  | _ :: _, [], h => absurd rfl h
  | a :: x, b :: y, h => by
    rw [part] at h ⊢
    unfold Lib.compareBytes
    simp only [UInt8.lt_iff_toNat_lt]
    split
    · rfl
    split
    · rfl
    · rw [if_neg (by assumption), if_neg (by assumption)] at h
      exact part_cmp x y h
theorem part_take : ∀ (x y : List UInt8) (k : Nat), part x y ≠ 0 → k = min x.length y.length → x.take k ≠ y.take k
  | [], y, k, h, _ => by exact absurd (by cases y <;> rfl) h
  | _ :: _, [], k, h, _ => absurd rfl h
  | a :: x, b :: y, k, h, hk => by
    obtain ⟨j, hj⟩ : ∃ j, k = j + 1 := ⟨k - 1, by simp at hk; omega⟩
    subst hj
    rw [List.take_succ_cons, List.take_succ_cons]
    intro e
    obtain ⟨e1, e2⟩ := List.cons.inj e
    subst e1
    rw [part, if_neg (by omega), if_neg (by omega)] at h
    exact part_take x y j h (by simp at hk; omega) e2
theorem part_be : ∀ (k x y : Nat), x < 256 ^ k → y < 256 ^ k → part (Wm.be k x) (Wm.be k y) = Lib.compareInt x y
  | 0, x, y, hx, hy => by
    have e1 : x = 0 := by simpa using hx
    have e2 : y = 0 := by simpa using hy
    subst e1; subst e2; rfl
  | k + 1, x, y, hx, hy => by
    have hp : 0 < 256 ^ k := Nat.pow_pos (by omega)
    rw [Nat.pow_succ] at hx hy
    have dx : x / 256 ^ k < 256 := Nat.div_lt_of_lt_mul hx
    have dy : y / 256 ^ k < 256 := Nat.div_lt_of_lt_mul hy
    have mx := Nat.mod_lt x hp
    have my := Nat.mod_lt y hp
    have ex := Nat.div_add_mod x (256 ^ k)
    have ey := Nat.div_add_mod y (256 ^ k)
    have be_mod : ∀ (j m : Nat), j ≤ k → Wm.be j m = Wm.be j (m % 256 ^ k) := by
      intro j
      induction j with
      | zero => intros; rfl
      | succ j ih =>
        intro m hj
        rw [Wm.be, Wm.be, ← ih m (by omega)]
        congr 1
        apply UInt8.toNat_inj.1
        rw [UInt8.toNat_ofNat', UInt8.toNat_ofNat']
        obtain ⟨i, hi⟩ : ∃ i, k = j + 1 + i := ⟨k - (j + 1), by omega⟩
        have := Nat.mod_mul_right_div_self m (256 ^ j) (256 ^ (i + 1))
        rw [← Nat.pow_add, show j + (i + 1) = k by omega] at this
        rw [this]
        exact (Nat.mod_mod_of_dvd _ ⟨256 ^ i, by show 256 ^ (i + 1) = 256 * 256 ^ i; rw [Nat.pow_succ, Nat.mul_comm]⟩).symm
    rw [Wm.be, Wm.be, part, UInt8.toNat_ofNat', UInt8.toNat_ofNat', Nat.mod_eq_of_lt dx, Nat.mod_eq_of_lt dy]
    generalize hqx : x / 256 ^ k = qx at *
    generalize hqy : y / 256 ^ k = qy at *
    by_cases h1 : qx < qy
    · rw [if_pos h1]
      have : 256 ^ k * qx + 256 ^ k ≤ 256 ^ k * qy := by rw [← Nat.mul_succ]; exact Nat.mul_le_mul_left _ h1
      unfold Lib.compareInt
      rw [if_pos (by omega)]
    by_cases h2 : qy < qx
    · rw [if_neg h1, if_pos h2]
      have : 256 ^ k * qy + 256 ^ k ≤ 256 ^ k * qx := by rw [← Nat.mul_succ]; exact Nat.mul_le_mul_left _ h2
      unfold Lib.compareInt
      rw [if_neg (by omega), if_pos (by omega)]
    · rw [if_neg h1, if_neg h2, be_mod k x (Nat.le_refl _), be_mod k y (Nat.le_refl _), part_be k _ _ mx my]
      have : qx = qy := by omega
      subst this
      unfold Lib.compareInt
      repeat' split
      all_goals omega
theorem part_num8 (n m : Int) (hn : i64 n) (hm : i64 m) : part (num8 n) (num8 m) = Lib.compareInt n m := by
  unfold i64 at hn hm
  unfold num8
  rw [part_be 8 _ _ (by omega) (by omega)]
  unfold Lib.compareInt
  repeat' split
  all_goals omega
theorem part_esc0 : ∀ (a b : List UInt8), part (esc0 a ++ [0, 1]) (esc0 b ++ [0, 1]) = Lib.compareBytes a b
  | [], [] => by decide
  | [], c :: r => by
    by_cases hc : c = 0
    · subst hc; rw [esc0, esc0, if_pos rfl]; rfl
    · have : 0 < c.toNat := by
        rcases Nat.eq_zero_or_pos c.toNat with h | h
        · exact absurd (UInt8.toNat_inj.1 h) hc
        · exact h
      rw [esc0, esc0, if_neg hc]
      show part (0 :: [1]) (c :: (esc0 r ++ [0, 1])) = _
      rw [part, if_pos (by simpa using this)]; rfl
  | c :: r, [] => by
    by_cases hc : c = 0
    · subst hc; rw [esc0, esc0, if_pos rfl]; rfl
    · have : 0 < c.toNat := by
        rcases Nat.eq_zero_or_pos c.toNat with h | h
        · exact absurd (UInt8.toNat_inj.1 h) hc
        · exact h
      rw [esc0, esc0, if_neg hc]
      show part (c :: (esc0 r ++ [0, 1])) (0 :: [1]) = _
      rw [part, if_neg (by simp), if_pos (by simpa using this)]; rfl
  | c :: r, d :: t => by
    have ih := part_esc0 r t
    have step : ∀ x : List UInt8, ∃ u, esc0 (x.headD 0 :: x.tail) = x.headD 0 :: u := by
      intro x; rw [esc0]; split
      · rename_i h; rw [h]; exact ⟨_, rfl⟩
      · exact ⟨_, rfl⟩
    unfold Lib.compareBytes
    simp only [UInt8.lt_iff_toNat_lt]
    by_cases he : c = d
    · subst he
      rw [if_neg (by omega), if_neg (by omega), ← ih, esc0, esc0]
      split
      · show part (0 :: 255 :: (esc0 r ++ [0, 1])) (0 :: 255 :: (esc0 t ++ [0, 1])) = _
        rw [part, if_neg (by omega), if_neg (by omega), part, if_neg (by omega), if_neg (by omega)]
      · show part (c :: (esc0 r ++ [0, 1])) (c :: (esc0 t ++ [0, 1])) = _
        rw [part, if_neg (by omega), if_neg (by omega)]
    · obtain ⟨u, hu⟩ := step (c :: r)
      obtain ⟨v, hv⟩ := step (d :: t)
      simp only [List.headD_cons, List.tail_cons] at hu hv
      rw [hu, hv]
      show part (c :: (u ++ [0, 1])) (d :: (v ++ [0, 1])) = _
      have hne : c.toNat ≠ d.toNat := fun h => he (UInt8.toNat_inj.1 h)
      rw [part]
      split
      · rfl
      · rw [if_pos (by omega), if_pos (by omega)]
/-- may the two stand at one place of two keys that are compared? -/
def kin (a b : Cl) : Prop := a.k = 0 ∨ b.k = 0 ∨ (a.k = b.k ∧ a.sc = b.sc)
theorem six_cmp (n m s : Int) : Lib.compareInt (six n s) (six m s) = Lib.compareInt n m := by
  unfold six
  rw [← ci_icmp, ← ci_icmp]
  exact icmp_scale n m _ (Int.pow_pos (by omega))
theorem part_one (a b : Cl) (h1 : rightB a = true) (h2 : rightB b = true) (i1 : i64 a.n) (i2 : i64 b.n) (hk : kin a b) : part (one a) (one b) = order a b := by
  rw [order_eq a b h1 h2]
  rcases right_cases h1 with rfl | ⟨n, hb, rfl⟩ | ⟨n, rfl⟩ | ⟨n, u, hu, rfl⟩ | ⟨u, hl, hv, rfl⟩ | ⟨u, hl, rfl⟩ <;>
  rcases right_cases h2 with rfl | ⟨m, hc, rfl⟩ | ⟨m, rfl⟩ | ⟨m, t, ht, rfl⟩ | ⟨t, ht, hw, rfl⟩ | ⟨t, ht, rfl⟩ <;>
  first
  | (exfalso; revert hk; simp [kin]; done)
  | rfl
  | (rcases hb with rfl | rfl <;> rcases hc with rfl | rfl <;> rfl)
  | (show part (2 :: num8 n) (2 :: num8 m) = lex3 (six n 0) (six m 0) 2 2 0 0
     rw [part, if_neg (by omega), if_neg (by omega), part_num8 n m i1 i2]
     unfold lex3
     rw [six_cmp]
     split
     · rfl
     · rename_i h; rw [if_neg (by simp), ci_self]; simpa using h)
  | (have e : u = t := by simpa [kin] using hk
     subst e
     show part (3 :: UInt8.ofNat u.toNat :: num8 n) (3 :: UInt8.ofNat u.toNat :: num8 m) = lex3 (six n u) (six m u) 3 3 u u
     rw [part, if_neg (by omega), if_neg (by omega), part, if_neg (by omega), if_neg (by omega), part_num8 n m i1 i2]
     unfold lex3
     rw [six_cmp]
     split
     · rfl
     · rename_i h; rw [if_neg (by simp), ci_self]; simpa using h)
  | (show part (4 :: (esc0 u.data.toList ++ [0, 1])) (4 :: (esc0 t.data.toList ++ [0, 1])) = _
     rw [part, if_neg (by omega), if_neg (by omega), part_esc0]; rfl)
  | (show part (5 :: (esc0 u.data.toList ++ [0, 1])) (5 :: (esc0 t.data.toList ++ [0, 1])) = _
     rw [part, if_neg (by omega), if_neg (by omega), part_esc0]; rfl)
/-- the order of the first two that differ -/
def firstO : List Cl → List Cl → Int
  | a :: la, b :: lb => if order a b = 0 then firstO la lb else order a b
  | _, _ => 0
theorem part_put : ∀ (a b : List Cl), a.length = b.length → (∀ c ∈ a, rightB c = true ∧ i64 c.n) → (∀ c ∈ b, rightB c = true ∧ i64 c.n) → (∀ p ∈ a.zip b, kin p.1 p.2) →
    part (put a) (put b) = firstO a b ∧ (firstO a b = 0 → put a = put b)
  | [], [], _, _, _, _ => ⟨rfl, fun _ => rfl⟩
  | [], _ :: _, h, _, _, _ => by simp at h
  | _ :: _, [], h, _, _, _ => by simp at h
  | x :: a, y :: b, h, ha, hb, hz => by
    obtain ⟨hx, ix⟩ := ha x (by simp)
    obtain ⟨hy, iy⟩ := hb y (by simp)
    have px : plain x = x := by unfold plain; rw [hx]; rfl
    have py : plain y = y := by unfold plain; rw [hy]; rfl
    obtain ⟨h1, h2⟩ := part_put a b (by simpa using h) (fun c hc => ha c (by simp [hc])) (fun c hc => hb c (by simp [hc])) (fun p hp => hz p (by simp [hp]))
    have hp := part_one x y hx hy ix iy (hz (x, y) (by simp))
    rw [put, put, px, py, firstO]
    by_cases ho : order x y = 0
    · have e := (order_zero x y hx hy).1 ho
      subst e
      rw [if_pos ho, part_same]
      exact ⟨h1, fun h => by rw [h2 h]⟩
    · rw [if_neg ho, part_app _ _ _ _ (by rw [hp]; exact ho), hp]
      exact ⟨rfl, fun h => absurd h ho⟩

/-! ### the least bytes above -/
theorem above_nil : ∀ (r x : List UInt8), above r = [] → 0 ≤ Lib.compareBytes x r → r <+: x
  | [], x, _, _ => List.nil_prefix
  | c :: r, x, h, hc => by
    rw [above] at h
    split at h
    · rename_i hr
      split at h
      · rename_i h255
        subst h255
        cases x with
        | nil => simp [Lib.compareBytes] at hc
        | cons d x =>
          unfold Lib.compareBytes at hc
          simp only [UInt8.lt_iff_toNat_lt] at hc
          have hd := d.toNat_lt
          have e255 : (255 : UInt8).toNat = 255 := rfl
          split at hc
          · omega
          split at hc
          · omega
          · have e : d = 255 := UInt8.toNat_inj.1 (by omega)
            subst e
            exact (List.prefix_cons_inj _).2 (above_nil r x hr hc)
      · cases h
    · cases h
theorem above_lt : ∀ (b rest : List UInt8), above b ≠ [] → Lib.compareBytes (b ++ rest) (above b) < 0
  | [], rest, h => absurd rfl h
  | c :: r, rest, h => by
    rw [above] at h ⊢
    split at h
    · rename_i hr
      split at h
      · exact absurd rfl h
      · rename_i h255
        have hc : (c + 1).toNat = c.toNat + 1 := by
          have := c.toNat_lt
          have hne : c.toNat ≠ 255 := fun e => h255 (UInt8.toNat_inj.1 e)
          rw [UInt8.toNat_add]; show (c.toNat + 1) % 256 = _; omega
        rw [if_neg h255]
        show Lib.compareBytes (c :: (r ++ rest)) [c + 1] < 0
        unfold Lib.compareBytes
        simp only [UInt8.lt_iff_toNat_lt]
        rw [if_pos (by omega)]; decide
    · rename_i x t hr
      show Lib.compareBytes (c :: (r ++ rest)) (c :: x :: t) < 0
      unfold Lib.compareBytes
      simp only [UInt8.lt_iff_toNat_lt]
      rw [if_neg (by omega), if_neg (by omega), ← hr]
      exact above_lt r rest (by rw [hr]; simp)
theorem above_least : ∀ (b x : List UInt8), above b ≠ [] → 0 ≤ Lib.compareBytes x b → Lib.compareBytes x (above b) < 0 → b <+: x
  | [], x, h, _, _ => absurd rfl h
  | c :: r, [], _, h1, _ => by simp [Lib.compareBytes] at h1
  | c :: r, d :: x, h, h1, h2 => by
    unfold Lib.compareBytes at h1
    simp only [UInt8.lt_iff_toNat_lt] at h1
    rw [above] at h h2
    split at h
    · rename_i hr
      rw [hr] at h2
      dsimp only at h2
      split at h
      · exact absurd rfl h
      · rename_i h255
        have hc : (c + 1).toNat = c.toNat + 1 := by
          have := c.toNat_lt
          have hne : c.toNat ≠ 255 := fun e => h255 (UInt8.toNat_inj.1 e)
          rw [UInt8.toNat_add]; show (c.toNat + 1) % 256 = _; omega
        rw [if_neg h255] at h2
        unfold Lib.compareBytes at h2
        simp only [UInt8.lt_iff_toNat_lt] at h2
        split at h1
        · omega
        split at h1
        · rename_i p q
          rw [if_neg (by omega)] at h2
          split at h2
          · omega
          · cases x <;> simp [Lib.compareBytes] at h2
        · have e : d = c := UInt8.toNat_inj.1 (by omega)
          subst e
          exact (List.prefix_cons_inj _).2 (above_nil r x hr h1)
    · rename_i y t hr
      rw [hr] at h2
      dsimp only at h2
      unfold Lib.compareBytes at h2
      simp only [UInt8.lt_iff_toNat_lt] at h2
      split at h1
      · omega
      split at h1
      · rw [if_neg (by omega), if_pos (by omega)] at h2; omega
      · rw [if_neg (by omega), if_neg (by omega), ← hr] at h2
        have e : d = c := UInt8.toNat_inj.1 (by omega)
        subst e
        exact (List.prefix_cons_inj _).2 (above_least r x (by rw [hr]; simp) h1 h2)

/-! ### for the walks -/
theorem above_255 : ∀ x : List UInt8, above (x ++ [255]) = above x
  | [] => rfl
  | d :: x => by
    show above (d :: (x ++ [255])) = _
    rw [above, above, above_255 x]
theorem above_inc (c : UInt8) (hc : c ≠ 255) : ∀ x : List UInt8, above (x ++ [c]) = x ++ [c + 1]
  | [] => by show above [c] = [c + 1]; rw [above, above]; dsimp only; rw [if_neg hc]
  | d :: x => by
    show above (d :: (x ++ [c])) = d :: (x ++ [c + 1])
    rw [above, above_inc c hc x]
    cases x <;> rfl
theorem be_low (k : Nat) : ∀ (j m : Nat), j ≤ k → Wm.be j m = Wm.be j (m % 256 ^ k) := by
  intro j
  induction j with
  | zero => intros; rfl
  | succ j ih =>
    intro m hj
    rw [Wm.be, Wm.be, ← ih m (by omega)]
    congr 1
    apply UInt8.toNat_inj.1
    rw [UInt8.toNat_ofNat', UInt8.toNat_ofNat']
    obtain ⟨i, hi⟩ : ∃ i, k = j + 1 + i := ⟨k - (j + 1), by omega⟩
    have := Nat.mod_mul_right_div_self m (256 ^ j) (256 ^ (i + 1))
    rw [← Nat.pow_add, show j + (i + 1) = k by omega] at this
    rw [this]
    exact (Nat.mod_mod_of_dvd _ ⟨256 ^ i, by show 256 ^ (i + 1) = 256 * 256 ^ i; rw [Nat.pow_succ, Nat.mul_comm]⟩).symm
theorem flip_lo : ∀ q : Fin 128, UInt8.ofNat (q.val + 128) = UInt8.ofNat q.val ^^^ 128 := by decide +kernel
theorem flip_hi : ∀ q : Fin 128, UInt8.ofNat q.val = UInt8.ofNat (q.val + 128) ^^^ 128 := by decide +kernel
/-- the eight bytes of a word, the highest bit inverted in the first -/
theorem num8_flip (n : Int) (hn : i64 n) (u : Nat) (hu : (u : Int) = n % 18446744073709551616) : num8 n = (UInt8.ofNat (u / 72057594037927936) ^^^ 128) :: Wm.be 7 u := by
  unfold i64 at hn
  have h7 : (256 : Nat) ^ 7 = 72057594037927936 := by decide
  show UInt8.ofNat ((n + 9223372036854775808).toNat / 256 ^ 7) :: Wm.be 7 (n + 9223372036854775808).toNat = _
  rw [be_low 7 7 (n + 9223372036854775808).toNat (Nat.le_refl _), be_low 7 7 u (Nat.le_refl _), h7]
  have hm : (n + 9223372036854775808).toNat % 72057594037927936 = u % 72057594037927936 := by omega
  rw [hm]
  congr 1
  by_cases h0 : n < 0
  · obtain ⟨q, hq⟩ : ∃ q, (n + 9223372036854775808).toNat / 72057594037927936 = q := ⟨_, rfl⟩
    have hq2 : u / 72057594037927936 = q + 128 := by omega
    rw [hq, hq2]
    exact flip_hi ⟨q, by omega⟩
  · obtain ⟨q, hq⟩ : ∃ q, u / 72057594037927936 = q := ⟨_, rfl⟩
    have hq2 : (n + 9223372036854775808).toNat / 72057594037927936 = q + 128 := by omega
    rw [hq, hq2]
    exact flip_lo ⟨q, by omega⟩
theorem esc0_snoc : ∀ (x : List UInt8) (c : UInt8), esc0 (x ++ [c]) = esc0 x ++ (if c = 0 then [0, 255] else [c])
  | [], c => by
    by_cases h : c = 0
    · subst h; rfl
    · show (if c = 0 then 0 :: 255 :: esc0 [] else c :: esc0 []) = [] ++ (if c = 0 then [0, 255] else [c])
      rw [if_neg h, if_neg h]; rfl
  | d :: x, c => by
    show esc0 (d :: (x ++ [c])) = _
    rw [esc0, esc0, esc0_snoc x c]
    split <;> simp
theorem esc0_len : ∀ x : List UInt8, (esc0 x).length ≤ 2 * x.length
  | [] => by simp [esc0]
  | d :: x => by
    have := esc0_len x
    rw [esc0]
    split <;> simp <;> omega
theorem one_len {c : Cl} (h : rightB c = true) : (one c).length ≤ 403 := by
  rcases right_cases h with rfl | ⟨n, hb, rfl⟩ | ⟨n, rfl⟩ | ⟨n, u, hu, rfl⟩ | ⟨u, hl, hv, rfl⟩ | ⟨u, hl, rfl⟩
  · decide
  · rcases hb with rfl | rfl <;> decide
  · show (2 :: num8 n).length ≤ 403; rw [List.length_cons, num8_length]; omega
  · show (3 :: _ :: num8 n).length ≤ 403; rw [List.length_cons, List.length_cons, num8_length]; omega
  · show (4 :: (esc0 u.data.toList ++ [0, 1])).length ≤ 403
    have := esc0_len u.data.toList
    have e : u.data.toList.length = u.size := by simp
    simp; omega
  · show (5 :: (esc0 u.data.toList ++ [0, 1])).length ≤ 403
    have := esc0_len u.data.toList
    have e : u.data.toList.length = u.size := by simp
    simp; omega
end Go.Proofs.YtamclbagafcmgaaDoor.Vm
