/- The reference of layer 3: inner. -/
import Derived.Test.YtamclbagafcmgaaDoorValB
import Derived.Test.YtamclbagafcmgaaDoorValR9
import Derived.Test.YtamclbagafcmgaaDoorValR5
namespace Go.Proofs.YtamclbagafcmgaaDoor
open Go.RowKit

/-- what a function that answers a string and a truth leaves -/
def StrB (o : Option (List UInt8)) (w : World) (e : Ending) (w' : World) : Prop := e = .returned (.tuple #[.string (bstr (o.getD [])), .bool o.isSome]) ∧ Below w.heap.size w w'
theorem inner_no (s : ByteArray) (h : s.size < 2 ∨ s.data.toList.head? ≠ some 39 ∨ s.data.toList.getLast? ≠ some 39) : Vm.inner s.data.toList = none := by
  unfold Vm.inner; rw [if_pos]
  rcases h with h | h | h
  · left; simpa using h
  · right; left; exact h
  · right; right; exact h
theorem inner_yes (s : ByteArray) (h1 : 2 ≤ s.size) (h2 : s.data.toList.head? = some 39) (h3 : s.data.toList.getLast? = some 39) : Vm.inner s.data.toList = Vm.unesc (s.extract 1 (s.size - 1)).data.toList := by
  unfold Vm.inner
  have hl : s.data.toList.length = s.size := by simp
  rw [if_neg (by rw [hl]; rintro (h | h | h); omega; exact h h2; exact h h3)]
  have e : (s.extract 1 (s.size - 1)).data.toList = (s.data.toList.drop 1).take (s.size - 1 - 1) := by
    have h := bstr_extract s.data.toList 1 (s.size - 1)
    rw [show bstr s.data.toList = s from rfl] at h
    rw [h, bstr_data]
  rw [e, hl, show s.size - 1 - 1 = s.size - 2 by omega]
theorem last_at (s : ByteArray) (h : 0 < s.size) : s.data.toList.getLast? = some (s[s.size - 1]'(by omega)) := by
  rw [List.getLast?_eq_getElem?, List.getElem?_eq_getElem (by simp; omega)]
  simp; rfl
theorem head_at (s : ByteArray) (h : 0 < s.size) : s.data.toList.head? = some s[0] := by
  rw [List.head?_eq_getElem?, List.getElem?_eq_getElem (by simp; exact h)]; rfl
theorem unesc_ne (c : UInt8) (r : List UInt8) (h : c ≠ 39) : Vm.unesc (c :: r) = (Vm.unesc r).map (c :: ·) := by
  cases r with
  | nil => simp [Vm.unesc, h]
  | cons d r => rw [Vm.unesc, if_neg h]
theorem unesc_two (r : List UInt8) : Vm.unesc (39 :: 39 :: r) = (Vm.unesc r).map (39 :: ·) := by rw [Vm.unesc, if_pos rfl, if_pos rfl]
theorem unesc_bad (r : List UInt8) (h : r.head? ≠ some 39) : Vm.unesc (39 :: r) = none := by
  cases r with
  | nil => simp [Vm.unesc]
  | cons d r => rw [Vm.unesc, if_pos rfl, if_neg (by simpa using h)]
theorem u39 (c : UInt8) : (((c.toNat : Int) == 39) = true ↔ c = 39) := by
  rw [beq_iff_eq]
  constructor
  · intro h; exact UInt8.toNat_inj.1 (by show c.toNat = 39; omega)
  · intro h; rw [h]; rfl
theorem u39n (c : UInt8) (h : c ≠ 39) : ((c.toNat : Int) == 39) = false ∧ ((c.toNat : Int) != 39) = true := by
  have : ((c.toNat : Int) == 39) = false := by cases h' : ((c.toNat : Int) == 39); rfl; exact absurd ((u39 c).1 h') h
  exact ⟨this, by rw [bne, this]; rfl⟩
theorem u39y (c : UInt8) (h : c = 39) : ((c.toNat : Int) == 39) = true ∧ ((c.toNat : Int) != 39) = false := by
  have := (u39 c).2 h
  exact ⟨this, by rw [bne, this]; rfl⟩
end Go.Proofs.YtamclbagafcmgaaDoor
