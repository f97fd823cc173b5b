/- Layer 3 in plain words: right types and values, comparing, order, texts. No function of the program is named here. -/
import Derived.Test.YtfnnhhhkdfgefaaGreatDoorDecPrMath
import Derived.Test.YtfnnhhhkdfgefaaGreatDoorDecAm
import Derived.Lib.ValidLaws
import Derived.Lib.Bytealg
import Derived.Lib.Small
namespace Go.Proofs.YtfnnhhhkdfgefaaGreatDoor.Vm

/-- a value of a cell -/
structure Cl where
  k : Int
  n : Int
  sc : Int
  s : ByteArray
  deriving DecidableEq
def Cl.val (c : Cl) : Value := .agg #[.int .i64 c.k, .int .i64 c.n, .int .i64 c.sc, .string c.s]
def nil : Cl := ⟨0, 0, 0, ⟨#[]⟩⟩
def typeB (k sc : Int) : Bool := if k = 1 ∨ k = 2 ∨ k = 4 ∨ k = 5 then decide (sc = 0) else if k = 3 then scB sc else false
def rightB (c : Cl) : Bool :=
  if c.k = 0 then decide (c.n = 0) && decide (c.sc = 0) && decide (c.s.size = 0)
  else if c.k = 1 then (decide (c.n = 0) || decide (c.n = 1)) && decide (c.sc = 0) && decide (c.s.size = 0)
  else if c.k = 2 then decide (c.sc = 0) && decide (c.s.size = 0)
  else if c.k = 3 then scB c.sc && decide (c.s.size = 0)
  else if c.k = 4 then decide (c.n = 0) && decide (c.sc = 0) && decide (c.s.size ≤ 200) && Lib.validD c.s.data.toList
  else if c.k = 5 then decide (c.n = 0) && decide (c.sc = 0) && decide (c.s.size ≤ 200)
  else false
def plain (c : Cl) : Cl := if rightB c then c else nil
def ofB (c : Cl) (k sc : Int) : Bool := typeB k sc && rightB c && (decide (c.k = 0) || (decide (c.k = k) && decide (c.sc = sc)))
def isNum (k : Int) : Bool := decide (k = 2) || decide (k = 3)
/-- how two right values compare -/
def comp (a b : Cl) : Int × Bool :=
  if isNum a.k && isNum b.k then (compM a.n a.sc b.n b.sc, true)
  else if a.k = 0 ∨ a.k ≠ b.k then (0, false)
  else if a.k = 1 then (Lib.compareInt a.n b.n, true)
  else (Lib.compareBytes a.s.data.toList b.s.data.toList, true)
def ok (c : Cl) : Cl × Bool := if rightB c then (c, true) else (nil, false)
def number (l : List UInt8) : Cl × Bool :=
  if l.getLast? = some 46 then
    (if (Pm.parseM l.dropLast).2.2 = true ∧ ¬ 0 < (Pm.parseM l.dropLast).2.1 then (⟨3, (Pm.parseM l.dropLast).1, 0, ⟨#[]⟩⟩, true) else (nil, false))
  else if (Pm.parseM l).2.2 = true then (if 0 < (Pm.parseM l).2.1 then (⟨3, (Pm.parseM l).1, (Pm.parseM l).2.1, ⟨#[]⟩⟩, true) else (⟨2, (Pm.parseM l).1, 0, ⟨#[]⟩⟩, true))
  else (nil, false)
def truth (c : Cl) : Int := if (plain c).k = 1 then (plain c).n else 2
theorem mk_of (c : Cl) (k n sc : Int) (s : ByteArray) (h1 : c.k = k) (h2 : c.n = n) (h3 : c.sc = sc) (h4 : c.s = s) : c = ⟨k, n, sc, s⟩ := by
  cases c; simp_all
theorem empty_of (s : ByteArray) (h : s.size = 0) : s = ⟨#[]⟩ := by
  apply ByteArray.ext
  exact Array.eq_empty_of_size_eq_zero h
theorem right_cases {c : Cl} (h : rightB c = true) :
    c = nil ∨ (∃ n, (n = 0 ∨ n = 1) ∧ c = ⟨1, n, 0, ⟨#[]⟩⟩) ∨ (∃ n, c = ⟨2, n, 0, ⟨#[]⟩⟩) ∨ (∃ n s, scB s = true ∧ c = ⟨3, n, s, ⟨#[]⟩⟩) ∨
      (∃ s, s.size ≤ 200 ∧ Lib.validD s.data.toList = true ∧ c = ⟨4, 0, 0, s⟩) ∨ (∃ s, s.size ≤ 200 ∧ c = ⟨5, 0, 0, s⟩) := by
  unfold rightB at h
  split at h
  · rename_i hk
    simp only [Bool.and_eq_true, decide_eq_true_eq] at h
    exact .inl (mk_of c _ _ _ _ hk h.1.1 h.1.2 (empty_of _ h.2))
  split at h
  · rename_i hk
    simp only [Bool.and_eq_true, Bool.or_eq_true, decide_eq_true_eq] at h
    exact .inr (.inl ⟨c.n, h.1.1, mk_of c _ _ _ _ hk rfl h.1.2 (empty_of _ h.2)⟩)
  split at h
  · rename_i hk
    simp only [Bool.and_eq_true, decide_eq_true_eq] at h
    exact .inr (.inr (.inl ⟨c.n, mk_of c _ _ _ _ hk rfl h.1 (empty_of _ h.2)⟩))
  split at h
  · rename_i hk
    simp only [Bool.and_eq_true, decide_eq_true_eq] at h
    exact .inr (.inr (.inr (.inl ⟨c.n, c.sc, h.1, mk_of c _ _ _ _ hk rfl rfl (empty_of _ h.2)⟩)))
  split at h
  · rename_i hk
    simp only [Bool.and_eq_true, decide_eq_true_eq] at h
    exact .inr (.inr (.inr (.inr (.inl ⟨c.s, h.1.2, h.2, mk_of c _ _ _ _ hk h.1.1.1 h.1.1.2 rfl⟩))))
  split at h
  · rename_i hk
    simp only [Bool.and_eq_true, decide_eq_true_eq] at h
    exact .inr (.inr (.inr (.inr (.inr ⟨c.s, h.2, mk_of c _ _ _ _ hk h.1.1 h.1.2 rfl⟩))))
  · cases h
theorem plain_right (c : Cl) : rightB (plain c) = true := by
  unfold plain
  cases h : rightB c
  · rfl
  · simpa using h
theorem plain_i64 {c : Cl} (h : i64 c.n) : i64 (plain c).n := by
  unfold plain
  split
  · exact h
  · exact ⟨by decide, by decide⟩
end Go.Proofs.YtfnnhhhkdfgefaaGreatDoor.Vm
/- Layer 3 in plain words: the order of values is total. -/
namespace Go.Proofs.YtfnnhhhkdfgefaaGreatDoor.Vm
/-- the kinds, Int and Dec la one -/
def cls (k : Int) : Int := if k = 3 then 2 else k
theorem kinds {c : Cl} (h : rightB c = true) : c.k ∈ ([0, 1, 2, 3, 4, 5] : List Int) := by
  rcases right_cases h with rfl | ⟨n, hn1, rfl⟩ | ⟨n, rfl⟩ | ⟨n, s, hs, rfl⟩ | ⟨s, hs, hv, rfl⟩ | ⟨s, hs, rfl⟩ <;> simp [nil]
end Go.Proofs.YtfnnhhhkdfgefaaGreatDoor.Vm
