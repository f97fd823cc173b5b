/- The reference of layer 2: Parse. -/
import Derived.Test.YtfnnhhhkdfgefaaGreatDoorDecPm
import Derived.Test.YtfnnhhhkdfgefaaGreatDoorDecSm
import Derived.Deep.DeepCutAuto
import Derived.Deep.CutBlock
namespace Go.Proofs.YtfnnhhhkdfgefaaGreatDoor
open Go.RowKit

theorem drop_cons (s : ByteArray) (j : Nat) (h : j < s.size) : s.data.toList.drop j = s[j] :: s.data.toList.drop (j + 1) := by
  rw [List.drop_eq_getElem_cons (by simpa using h)]; rfl
/-- how far the text has been gone through -/
structure St (l : List UInt8) (b j : Nat) (D : List UInt8) (o : Option (List UInt8)) : Prop where
  go : Pm.scan [] none (l.drop b) = Pm.scan D o (l.drop j)
  at_ : j = b + D.length + (match o with | none => 0 | some E => 1 + E.length)
  pre : (l.drop b).take D.length = D
  allD : Pm.allD D = true
  allE : Pm.allD (o.getD []) = true
/-- where the point is -/
def pv (b : Nat) (D : List UInt8) : Option (List UInt8) → Int
  | none => -1
  | some _ => ((b + D.length : Nat) : Int)
/-- the digits so far -/
def dgs (D : List UInt8) (o : Option (List UInt8)) : List UInt8 := D ++ o.getD []
theorem St.none_digit {s : ByteArray} {b j : Nat} {D : List UInt8} (h : St s.data.toList b j D none) (hj : j < s.size) (hd : Pm.isD s[j] = true) : St s.data.toList b (j + 1) (D ++ [s[j]]) none := by
  have h1 := h.at_
  simp at h1
  refine ⟨?_, by simp; omega, ?_, by rw [show Pm.allD (D ++ [s[j]]) = (Pm.allD D && Pm.isD s[j]) by simp [Pm.allD], h.allD, hd]; rfl, rfl⟩
  · rw [h.go, drop_cons s j hj, Pm.scan, if_neg (fun e => by rw [e.1, Pm.isD_46] at hd; cases hd), if_pos hd]
  · rw [List.length_append, List.length_singleton, List.take_add_one, h.pre]
    congr 1
    rw [List.getElem?_drop, ← h1]
    have : s.data.toList[j]? = some s[j] := by rw [List.getElem?_eq_getElem (by simpa using hj)]; rfl
    rw [this]; rfl
theorem St.none_point {s : ByteArray} {b j : Nat} {D : List UInt8} (h : St s.data.toList b j D none) (hj : j < s.size) (hd : s[j] = 46) (hD : D ≠ []) : St s.data.toList b (j + 1) D (some []) := by
  have h1 := h.at_
  simp at h1
  refine ⟨?_, by simp; omega, h.pre, h.allD, rfl⟩
  rw [h.go, drop_cons s j hj, Pm.scan, if_pos ⟨hd, hD⟩]
theorem St.none_bad {s : ByteArray} {b j : Nat} {D : List UInt8} (h : St s.data.toList b j D none) (hj : j < s.size) (hd : Pm.isD s[j] = false) (hp : ¬ (s[j] = 46 ∧ D ≠ [])) : Pm.scan [] none (s.data.toList.drop b) = none := by
  rw [h.go, drop_cons s j hj, Pm.scan, if_neg hp, hd]; rfl
theorem St.some_digit {s : ByteArray} {b j : Nat} {D E : List UInt8} (h : St s.data.toList b j D (some E)) (hj : j < s.size) (hd : Pm.isD s[j] = true) : St s.data.toList b (j + 1) D (some (E ++ [s[j]])) := by
  have h1 := h.at_
  simp at h1
  have h2 : Pm.allD E = true := h.allE
  refine ⟨?_, by simp; omega, h.pre, h.allD, ?_⟩
  · rw [h.go, drop_cons s j hj, Pm.scan, if_pos hd]
  · show Pm.allD (E ++ [s[j]]) = true
    rw [show Pm.allD (E ++ [s[j]]) = (Pm.allD E && Pm.isD s[j]) by simp [Pm.allD], h2, hd]; rfl
theorem St.some_bad {s : ByteArray} {b j : Nat} {D E : List UInt8} (h : St s.data.toList b j D (some E)) (hj : j < s.size) (hd : Pm.isD s[j] = false) : Pm.scan [] none (s.data.toList.drop b) = none := by
  rw [h.go, drop_cons s j hj, Pm.scan, hd]; rfl
theorem St.fin {s : ByteArray} {b : Nat} {D : List UInt8} {o : Option (List UInt8)} (h : St s.data.toList b s.size D o) : Pm.scan [] none (s.data.toList.drop b) = some (D, o) := by
  rw [h.go, List.drop_of_length_le (by simp)]
  cases o <;> rfl
theorem dgs_all (D : List UInt8) (o : Option (List UInt8)) (h1 : Pm.allD D = true) (h2 : Pm.allD (o.getD []) = true) : Pm.allD (dgs D o) = true := by
  unfold dgs Pm.allD at *; rw [List.all_append, h1, h2]; rfl
theorem push_digit (L : List UInt8) (c : UInt8) (h : Pm.isD c = true) : Dm.lowd (L ++ [c]).length (Pm.val (L ++ [c])) = ((c.toNat - 48 : Nat) : Int) :: Dm.lowd L.length (Pm.val L) := by
  have hc := (Pm.isD_iff c).1 h
  rw [Pm.val_snoc, List.length_append, List.length_singleton]
  exact lowd_push _ _ _ (by omega)
theorem isD_int (c : UInt8) (h : Pm.isD c = true) : (48 : Int) ≤ (c.toNat : Int) ∧ (c.toNat : Int) ≤ 57 := by
  have := (Pm.isD_iff c).1 h; omega
theorem c46 (c : UInt8) : (((c.toNat : Int) == 46) = true ↔ c = 46) := by
  rw [beq_iff_eq]
  constructor
  · intro h; exact UInt8.toNat_inj.1 (by show c.toNat = 46; omega)
  · intro h; rw [h]; rfl
theorem fin_bad1 (neg : Bool) (D E : List UInt8) (h : E.length = 0 ∨ 6 < E.length) : Pm.fin neg D (some E) = (0, 0, false) := by
  unfold Pm.fin
  rw [if_pos (by simp only [Bool.or_eq_true, decide_eq_true_eq]; exact h)]
theorem fin_bad2 (neg : Bool) (D : List UInt8) (o : Option (List UInt8)) (h : D.length = 0 ∨ 1 < D.length ∧ D.head? = some 48) : Pm.fin neg D o = (0, 0, false) := by
  unfold Pm.fin
  simp only [if_pos h, ite_self]
theorem fin_good (neg : Bool) (D : List UInt8) (o : Option (List UInt8)) (h : ¬ (D.length = 0 ∨ 1 < D.length ∧ D.head? = some 48)) (ho : ∀ E, o = some E → 1 ≤ E.length ∧ E.length ≤ 6) :
    Pm.fin neg D o = if Pm.inR neg (Pm.val (dgs D o)) = true ∧ ¬ (neg = true ∧ Pm.val (dgs D o) = 0) then (Pm.sgn neg (Pm.val (dgs D o)), ((o.getD []).length : Int), true) else (0, 0, false) := by
  unfold Pm.fin dgs
  cases o with
  | none => rw [if_neg (by decide), if_neg h]
  | some E =>
    obtain ⟨h1, h2⟩ := ho E rfl
    rw [if_neg (by simp only [Bool.or_eq_true, decide_eq_true_eq]; omega), if_neg h]
theorem St.head {s : ByteArray} {b j : Nat} {D : List UInt8} {o : Option (List UInt8)} (h : St s.data.toList b j D o) (hb : b < s.size) (hD : 0 < D.length) : D.head? = some s[b] := by
  have e := h.pre
  rw [drop_cons s b hb] at e
  cases D with
  | nil => simp at hD
  | cons c r => simp at e; simp [e.1]
theorem ret3 {a b c d : Int} {k : Bool} (h : a = c) (h2 : b = d) : Ending.returned (.tuple #[.int .i64 a, .int .i64 b, .bool k]) = Ending.returned (.tuple #[.int .i64 c, .int .i64 d, .bool k]) := by rw [h, h2]
theorem c48 (c : UInt8) : (((c.toNat : Int) == 48) = true ↔ c = 48) := by
  rw [beq_iff_eq]
  constructor
  · intro h; exact UInt8.toNat_inj.1 (by show c.toNat = 48; omega)
  · intro h; rw [h]; rfl
theorem head_zero (s : ByteArray) (h : 0 < s.size) : s.data.toList.head? = some s[0] := by
  have e := drop_cons s 0 h
  rw [List.drop_zero] at e
  rw [e]; rfl
theorem full_list (s : ByteArray) (h : 0 < s.size) : s.toList.isEmpty = false := toList_nonempty s (by omega)
end Go.Proofs.YtfnnhhhkdfgefaaGreatDoor
