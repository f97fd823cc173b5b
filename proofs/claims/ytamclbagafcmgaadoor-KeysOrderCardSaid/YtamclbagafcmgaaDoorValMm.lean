/- Layer 3 in plain words: right types and values, comparing, order, texts. No function of the program is named here. -/
import Derived.Test.YtamclbagafcmgaaDoorDecP2
import Derived.Test.YtamclbagafcmgaaDoorDecLawMath
import Derived.Lib.ValidLaws
import Derived.Lib.Bytealg
import Derived.Lib.Small
namespace Go.Proofs.YtamclbagafcmgaaDoor.Vm

/-- a value of a cell -/
structure Cl where
  k : Int
  n : Int
  sc : Int
  s : ByteArray
  deriving DecidableEq
def Cl.val (c : Cl) : Value := .agg #[.int .i64 c.k, .int .i64 c.n, .int .i64 c.sc, .string c.s]
def nil : Cl := ⟨0, 0, 0, ⟨#[]⟩⟩
def rightB (c : Cl) : Bool :=
  if c.k = 0 then decide (c.n = 0) && decide (c.sc = 0) && decide (c.s.size = 0)
  else if c.k = 1 then (decide (c.n = 0) || decide (c.n = 1)) && decide (c.sc = 0) && decide (c.s.size = 0)
  else if c.k = 2 then decide (c.sc = 0) && decide (c.s.size = 0)
  else if c.k = 3 then scB c.sc && decide (c.s.size = 0)
  else if c.k = 4 then decide (c.n = 0) && decide (c.sc = 0) && decide (c.s.size ≤ 200) && Lib.validD c.s.data.toList
  else if c.k = 5 then decide (c.n = 0) && decide (c.sc = 0) && decide (c.s.size ≤ 200)
  else false
def plain (c : Cl) : Cl := if rightB c then c else nil
def isNum (k : Int) : Bool := decide (k = 2) || decide (k = 3)
/-- how two right values compare -/
def comp (a b : Cl) : Int × Bool :=
  if isNum a.k && isNum b.k then (compM a.n a.sc b.n b.sc, true)
  else if a.k = 0 ∨ a.k ≠ b.k then (0, false)
  else if a.k = 1 then (Lib.compareInt a.n b.n, true)
  else (Lib.compareBytes a.s.data.toList b.s.data.toList, true)
def order (a b : Cl) : Int :=
  if (comp a b).2 = true ∧ (comp a b).1 ≠ 0 then (comp a b).1
  else if (comp a b).2 = false ∨ a.k ≠ b.k then Lib.compareInt a.k b.k
  else Lib.compareInt a.sc b.sc
/-- apostrophes doubled -/
def esc : List UInt8 → List UInt8
  | [] => []
  | c :: r => if c = 39 then 39 :: 39 :: esc r else c :: esc r
def unesc : List UInt8 → Option (List UInt8)
  | [] => some []
  | [c] => if c = 39 then none else some [c]
  | c :: d :: r => if c = 39 then (if d = 39 then (unesc r).map (39 :: ·) else none) else (unesc (d :: r)).map (c :: ·)
def hexd (d : Nat) : UInt8 := if d < 10 then UInt8.ofNat (48 + d) else UInt8.ofNat (55 + d)
def hex : List UInt8 → List UInt8
  | [] => []
  | c :: r => hexd (c.toNat / 16) :: hexd (c.toNat % 16) :: hex r
def unhexd (c : UInt8) : Option Nat := if 48 ≤ c.toNat ∧ c.toNat ≤ 57 then some (c.toNat - 48) else if 65 ≤ c.toNat ∧ c.toNat ≤ 70 then some (c.toNat - 55) else none
def unhex : List UInt8 → Option (List UInt8)
  | [] => some []
  | [_] => none
  | a :: b :: r => match unhexd a, unhexd b, unhex r with
    | some x, some y, some t => some (UInt8.ofNat (16 * x + y) :: t)
    | _, _, _ => none
/-- what stands between apostrophes -/
def inner (l : List UInt8) : Option (List UInt8) :=
  if l.length < 2 ∨ l.head? ≠ some 39 ∨ l.getLast? ≠ some 39 then none else unesc ((l.drop 1).take (l.length - 2))
def ok (c : Cl) : Cl × Bool := if rightB c then (c, true) else (nil, false)
def number (l : List UInt8) : Cl × Bool :=
  if l.getLast? = some 46 then
    (if (Pm.parseM l.dropLast).2.2 = true ∧ ¬ 0 < (Pm.parseM l.dropLast).2.1 then (⟨3, (Pm.parseM l.dropLast).1, 0, ⟨#[]⟩⟩, true) else (nil, false))
  else if (Pm.parseM l).2.2 = true then (if 0 < (Pm.parseM l).2.1 then (⟨3, (Pm.parseM l).1, (Pm.parseM l).2.1, ⟨#[]⟩⟩, true) else (⟨2, (Pm.parseM l).1, 0, ⟨#[]⟩⟩, true))
  else (nil, false)
def truth (c : Cl) : Int := if (plain c).k = 1 then (plain c).n else 2
theorem mk_of (c : Cl) (k n sc : Int) (s : ByteArray) (h1 : c.k = k) (h2 : c.n = n) (h3 : c.sc = sc) (h4 : c.s = s) : c = ⟨k, n, sc, s⟩ := by
  cases c; simp_all
theorem empty_of (s : ByteArray) (h : s.size = 0) : s = ⟨#[]⟩ := by
  apply ByteArray.ext
  exact Array.eq_empty_of_size_eq_zero h
theorem right_cases {c : Cl} (h : rightB c = true) :
    c = nil ∨ (∃ n, (n = 0 ∨ n = 1) ∧ c = ⟨1, n, 0, ⟨#[]⟩⟩) ∨ (∃ n, c = ⟨2, n, 0, ⟨#[]⟩⟩) ∨ (∃ n s, scB s = true ∧ c = ⟨3, n, s, ⟨#[]⟩⟩) ∨
      (∃ s, s.size ≤ 200 ∧ Lib.validD s.data.toList = true ∧ c = ⟨4, 0, 0, s⟩) ∨ (∃ s, s.size ≤ 200 ∧ c = ⟨5, 0, 0, s⟩) := by
  unfold rightB at h
  split at h
  · rename_i hk
    simp only [Bool.and_eq_true, decide_eq_true_eq] at h
    exact .inl (mk_of c _ _ _ _ hk h.1.1 h.1.2 (empty_of _ h.2))
  split at h
  · rename_i hk
    simp only [Bool.and_eq_true, Bool.or_eq_true, decide_eq_true_eq] at h
    exact .inr (.inl ⟨c.n, h.1.1, mk_of c _ _ _ _ hk rfl h.1.2 (empty_of _ h.2)⟩)
  split at h
  · rename_i hk
    simp only [Bool.and_eq_true, decide_eq_true_eq] at h
    exact .inr (.inr (.inl ⟨c.n, mk_of c _ _ _ _ hk rfl h.1 (empty_of _ h.2)⟩))
  split at h
  · rename_i hk
    simp only [Bool.and_eq_true, decide_eq_true_eq] at h
    exact .inr (.inr (.inr (.inl ⟨c.n, c.sc, h.1, mk_of c _ _ _ _ hk rfl rfl (empty_of _ h.2)⟩)))
  split at h
  · rename_i hk
    simp only [Bool.and_eq_true, decide_eq_true_eq] at h
    exact .inr (.inr (.inr (.inr (.inl ⟨c.s, h.1.2, h.2, mk_of c _ _ _ _ hk h.1.1.1 h.1.1.2 rfl⟩))))
  split at h
  · rename_i hk
    simp only [Bool.and_eq_true, decide_eq_true_eq] at h
    exact .inr (.inr (.inr (.inr (.inr ⟨c.s, h.2, mk_of c _ _ _ _ hk h.1.1 h.1.2 rfl⟩))))
  · cases h
theorem plain_right (c : Cl) : rightB (plain c) = true := by
  unfold plain
  cases h : rightB c
  · rfl
  · simpa using h
theorem plain_plain (c : Cl) : plain (plain c) = plain c := by
  unfold plain
  cases h : rightB c
  · rfl
  · simp [h]
theorem plain_i64 {c : Cl} (h : i64 c.n) : i64 (plain c).n := by
  unfold plain
  split
  · exact h
  · exact ⟨by decide, by decide⟩
end Go.Proofs.YtamclbagafcmgaaDoor.Vm
/- Layer 3 in plain words: the order of values is total. -/
namespace Go.Proofs.YtamclbagafcmgaaDoor.Vm

theorem ci_anti (x y : Int) : Lib.compareInt y x = -Lib.compareInt x y := by unfold Lib.compareInt; repeat' split <;> omega
theorem ci_zero (x y : Int) : Lib.compareInt x y = 0 ↔ x = y := by unfold Lib.compareInt; repeat' split <;> omega
theorem ci_icmp (x y : Int) : icmp x y = Lib.compareInt x y := by unfold Lib.compareInt icmp; rfl
theorem ci_self (x : Int) : Lib.compareInt x x = 0 := (ci_zero x x).2 rfl
theorem cb_anti : ∀ a b : List UInt8, Lib.compareBytes b a = -Lib.compareBytes a b
  | [], [] => rfl
  | [], _ :: _ => rfl
  | _ :: _, [] => rfl
  | a :: la, b :: lb => by
    have h := cb_anti la lb
    unfold Lib.compareBytes
    simp only [UInt8.lt_iff_toNat_lt]
    repeat' split
    all_goals omega
theorem cb_zero : ∀ a b : List UInt8, Lib.compareBytes a b = 0 ↔ a = b
  | [], [] => by simp [Lib.compareBytes]
  | [], _ :: _ => by simp [Lib.compareBytes]
  | _ :: _, [] => by simp [Lib.compareBytes]
  | a :: la, b :: lb => by
    have h := cb_zero la lb
    have he : a = b ↔ a.toNat = b.toNat := UInt8.toNat_inj.symm
    unfold Lib.compareBytes
    simp only [UInt8.lt_iff_toNat_lt]
    rw [List.cons.injEq, he]
    split
    · omega
    split
    · omega
    · rw [h]; constructor
      · intro e; exact ⟨by omega, e⟩
      · intro e; exact e.2
/-- a number at six digits behind the point -/
def six (n s : Int) : Int := n * 10 ^ (6 - s.toNat)
theorem comp_six (a fa b fb : Int) (h1 : scB fa = true) (h2 : scB fb = true) : compM a fa b fb = Lib.compareInt (six a fa) (six b fb) := by
  obtain ⟨a1, a2⟩ := scB_true h1
  obtain ⟨b1, b2⟩ := scB_true h2
  rw [comp_int a fa b fb h1 h2, ← ci_icmp]
  have p1 : (0 : Int) < 10 ^ fa.toNat * 10 ^ fb.toNat := Int.mul_pos (Int.pow_pos (by omega)) (Int.pow_pos (by omega))
  have p2 : (0 : Int) < 10 ^ 6 := by decide
  rw [← icmp_scale (six a fa) (six b fb) _ p1, ← icmp_scale (a * 10 ^ fb.toNat) (b * 10 ^ fa.toNat) _ p2]
  have e1 : (10 : Int) ^ (6 - fa.toNat) * 10 ^ fa.toNat = 10 ^ 6 := by rw [← Int.pow_add]; congr 1; omega
  have e2 : (10 : Int) ^ (6 - fb.toNat) * 10 ^ fb.toNat = 10 ^ 6 := by rw [← Int.pow_add]; congr 1; omega
  have q1 : six a fa * (10 ^ fa.toNat * 10 ^ fb.toNat) = a * 10 ^ fb.toNat * 10 ^ 6 := by
    unfold six
    rw [← e1]
    simp only [Int.mul_assoc, Int.mul_comm, Int.mul_left_comm]
  have q2 : six b fb * (10 ^ fa.toNat * 10 ^ fb.toNat) = b * 10 ^ fa.toNat * 10 ^ 6 := by
    unfold six
    rw [← e2]
    simp only [Int.mul_assoc, Int.mul_comm, Int.mul_left_comm]
  rw [q1, q2]
theorem six_inj (a b s : Int) (h : six a s = six b s) : a = b := by
  unfold six at h
  have p : (10 : Int) ^ (6 - s.toNat) ≠ 0 := Int.ne_of_gt (Int.pow_pos (by omega))
  exact Int.eq_of_mul_eq_mul_right p h
/-- the kinds, Int and Dec la one -/
def cls (k : Int) : Int := if k = 3 then 2 else k
def lex3 (x y k j s t : Int) : Int := if Lib.compareInt x y ≠ 0 then Lib.compareInt x y else if k ≠ j then Lib.compareInt k j else Lib.compareInt s t
/-- the order within a kind -/
def same (a b : Cl) : Int :=
  if isNum a.k then lex3 (six a.n a.sc) (six b.n b.sc) a.k b.k a.sc b.sc
  else if a.k = 1 then Lib.compareInt a.n b.n
  else if a.k = 0 then 0
  else Lib.compareBytes a.s.data.toList b.s.data.toList
theorem num3 (k : Int) (h : k = 2 ∨ k = 3) : isNum k = true := by rcases h with rfl | rfl <;> rfl
theorem order_num (k j n s m t : Int) (x y : ByteArray) (hk : k = 2 ∨ k = 3) (hj : j = 2 ∨ j = 3) (h1 : scB s = true) (h2 : scB t = true) :
    order ⟨k, n, s, x⟩ ⟨j, m, t, y⟩ = lex3 (six n s) (six m t) k j s t := by
  have hc : comp ⟨k, n, s, x⟩ ⟨j, m, t, y⟩ = (Lib.compareInt (six n s) (six m t), true) := by
    unfold comp
    simp only [num3 k hk, num3 j hj, Bool.and_self, if_true]
    rw [comp_six n s m t h1 h2]
  unfold order lex3
  rw [hc]
  simp
theorem order_txt (k : Int) (x y : ByteArray) (hk : k = 4 ∨ k = 5) : order ⟨k, 0, 0, x⟩ ⟨k, 0, 0, y⟩ = Lib.compareBytes x.data.toList y.data.toList := by
  have hc : comp ⟨k, 0, 0, x⟩ ⟨k, 0, 0, y⟩ = (Lib.compareBytes x.data.toList y.data.toList, true) := by
    rcases hk with rfl | rfl <;> rfl
  unfold order
  rw [hc]
  simp only [ne_eq, true_and, Bool.true_eq_false, not_true_eq_false, or_self, if_false, ci_self]
  split
  · rfl
  · rename_i h; simpa using (Classical.not_not.1 h).symm
theorem order_far (a b : Cl) (h : cls a.k ≠ cls b.k) (ha : a.k ∈ ([0, 1, 2, 3, 4, 5] : List Int)) (hb : b.k ∈ ([0, 1, 2, 3, 4, 5] : List Int)) : order a b = Lib.compareInt (cls a.k) (cls b.k) := by
  have hc : comp a b = (0, false) := by
    unfold comp
    rw [if_neg, if_pos]
    · right; intro e; exact h (by rw [e])
    · intro e
      simp only [isNum, Bool.and_eq_true, Bool.or_eq_true, decide_eq_true_eq] at e
      apply h
      unfold cls
      rcases e with ⟨e1 | e1, e2 | e2⟩ <;> rw [e1, e2] <;> rfl
  have ho : order a b = Lib.compareInt a.k b.k := by unfold order; rw [hc]; simp
  rw [ho]
  revert h
  simp only [List.mem_cons, List.not_mem_nil, or_false] at ha hb
  rcases ha with e | e | e | e | e | e <;> rcases hb with f | f | f | f | f | f <;> rw [e, f] <;> decide
theorem kinds {c : Cl} (h : rightB c = true) : c.k ∈ ([0, 1, 2, 3, 4, 5] : List Int) := by
  rcases right_cases h with rfl | ⟨n, hn1, rfl⟩ | ⟨n, rfl⟩ | ⟨n, s, hs, rfl⟩ | ⟨s, hs, hv, rfl⟩ | ⟨s, hs, rfl⟩ <;> simp [nil]
theorem order_eq (a b : Cl) (h1 : rightB a = true) (h2 : rightB b = true) : order a b = if cls a.k = cls b.k then same a b else Lib.compareInt (cls a.k) (cls b.k) := by
  by_cases h : cls a.k = cls b.k
  · rw [if_pos h]
    rcases right_cases h1 with rfl | ⟨n, hn1, rfl⟩ | ⟨n, rfl⟩ | ⟨n, s, hs, rfl⟩ | ⟨s, hs, hv, rfl⟩ | ⟨s, hs, rfl⟩ <;>
    rcases right_cases h2 with rfl | ⟨m, hm1, rfl⟩ | ⟨m, rfl⟩ | ⟨m, t, ht, rfl⟩ | ⟨t, ht, hw, rfl⟩ | ⟨t, ht, rfl⟩ <;>
    first
    | (exfalso; revert h; simp [cls, nil]; done)
    | rfl
    | (exact order_num _ _ _ _ _ _ _ _ (by simp) (by simp) (by first | assumption | decide) (by first | assumption | decide))
    | (exact order_txt _ _ _ (by simp))
    | (rcases hn1 with rfl | rfl <;> rcases hm1 with rfl | rfl <;> rfl)
  · rw [if_neg h]; exact order_far a b h (kinds h1) (kinds h2)
theorem lex3_anti (x y k j s t : Int) : lex3 y x j k t s = -lex3 x y k j s t := by
  unfold lex3
  rw [ci_anti x y, ci_anti k j, ci_anti s t]
  have z1 := ci_zero x y; have z2 := ci_zero k j; have z3 := ci_zero s t
  repeat' split
  all_goals omega
theorem lex3_zero (x y k j s t : Int) : lex3 x y k j s t = 0 ↔ x = y ∧ k = j ∧ s = t := by
  unfold lex3
  have h1 := ci_zero x y; have h2 := ci_zero k j; have h3 := ci_zero s t
  repeat' split <;> omega
theorem same_cls (a b : Cl) (h : cls a.k = cls b.k) : isNum a.k = isNum b.k ∧ (isNum a.k = false → a.k = b.k) := by
  unfold cls at h
  unfold isNum
  constructor
  · rw [Bool.eq_iff_iff]
    simp only [Bool.or_eq_true, decide_eq_true_eq]
    repeat' split at h
    all_goals omega
  · intro e
    simp only [Bool.or_eq_false_iff, decide_eq_false_iff_not] at e
    repeat' split at h
    all_goals omega
theorem same_anti (a b : Cl) (h : cls a.k = cls b.k) : same b a = -same a b := by
  obtain ⟨e1, e2⟩ := same_cls a b h
  unfold same
  rw [← e1]
  cases hn : isNum a.k
  · have e := e2 hn
    rw [← e]
    simp only [Bool.false_eq_true, if_false]
    split
    · exact ci_anti _ _
    split
    · rfl
    · exact cb_anti _ _
  · simp only [if_true]; exact lex3_anti _ _ _ _ _ _
theorem order_anti (a b : Cl) (h1 : rightB a = true) (h2 : rightB b = true) : order b a = -order a b := by
  rw [order_eq a b h1 h2, order_eq b a h2 h1]
  by_cases h : cls a.k = cls b.k
  · rw [if_pos h, if_pos h.symm]; exact same_anti a b h
  · rw [if_neg h, if_neg (fun e => h e.symm)]; exact ci_anti _ _
theorem order_zero (a b : Cl) (h1 : rightB a = true) (h2 : rightB b = true) : order a b = 0 ↔ a = b := by
  constructor
  · intro e
    rw [order_eq a b h1 h2] at e
    by_cases h : cls a.k = cls b.k
    · rw [if_pos h] at e
      rcases right_cases h1 with rfl | ⟨n, hn1, rfl⟩ | ⟨n, rfl⟩ | ⟨n, s, hs, rfl⟩ | ⟨s, hs, hv, rfl⟩ | ⟨s, hs, rfl⟩ <;>
      rcases right_cases h2 with rfl | ⟨m, hm1, rfl⟩ | ⟨m, rfl⟩ | ⟨m, t, ht, rfl⟩ | ⟨t, ht, hw, rfl⟩ | ⟨t, ht, rfl⟩ <;>
      first
      | (exfalso; revert h; simp [cls, nil]; done)
      | rfl
      | (exfalso; have := ((lex3_zero _ _ _ _ _ _).1 e).2.1; simp at this; done)
      | (have q := (lex3_zero _ _ _ _ _ _).1 e
         obtain ⟨q1, _, q3⟩ := q
         simp only at q1 q3
         first
         | (subst q3; rw [six_inj _ _ _ q1])
         | rw [six_inj _ _ _ q1])
      | (have q : n = m := (ci_zero _ _).1 e
         rw [q])
      | (have q : s.data.toList = t.data.toList := (cb_zero _ _).1 e
         have q2 : s = t := by apply ByteArray.ext; exact Array.toList_inj.1 q
         rw [q2])
    · rw [if_neg h, ci_zero] at e; exact absurd e h
  · intro e
    subst e
    have := order_anti a a h1 h1
    omega
end Go.Proofs.YtamclbagafcmgaaDoor.Vm
