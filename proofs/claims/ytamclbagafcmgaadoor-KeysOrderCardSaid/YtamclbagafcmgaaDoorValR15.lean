/- The reference of layer 3: Parse whole. -/
import Derived.Test.YtamclbagafcmgaaDoorValR13
namespace Go.Proofs.YtamclbagafcmgaaDoor
open Go.RowKit

theorem unesc_len : ∀ (l t : List UInt8), Vm.unesc l = some t → t.length ≤ l.length
  | [], t, h => by simp [Vm.unesc] at h; rw [← h]; simp
  | [c], t, h => by
    unfold Vm.unesc at h
    split at h
    · cases h
    · simp at h; rw [← h]; simp
  | c :: d :: r, t, h => by
    unfold Vm.unesc at h
    split at h
    · split at h
      · cases hu : Vm.unesc r with
        | none => rw [hu] at h; cases h
        | some u =>
          have := unesc_len r u hu
          rw [hu] at h
          simp at h
          rw [← h]; simp; omega
      · cases h
    · cases hu : Vm.unesc (d :: r) with
      | none => rw [hu] at h; cases h
      | some u =>
        have := unesc_len (d :: r) u hu
        rw [hu] at h
        simp at h
        rw [← h]; simp at this ⊢; omega
theorem inner_len (l t : List UInt8) (h : Vm.inner l = some t) : t.length ≤ l.length := by
  unfold Vm.inner at h
  split at h
  · cases h
  · have := unesc_len _ _ h
    simp at this
    omega
theorem unhex_odd : ∀ (l : List UInt8), l.length % 2 = 1 → Vm.unhex l = none
  | [], h => by simp at h
  | [_], _ => rfl
  | a :: b :: r, h => by
    have h2 : r.length % 2 = 1 := by simp at h; omega
    rw [Vm.unhex, unhex_odd r h2]
    cases Vm.unhexd a <;> cases Vm.unhexd b <;> rfl
theorem ext_tail (s : ByteArray) : (s.extract 1 s.size).data.toList = s.data.toList.drop 1 := by
  have h := bstr_extract s.data.toList 1 s.size
  rw [show bstr s.data.toList = s from rfl] at h
  rw [h, bstr_data]
  exact List.take_of_length_le (by simp)
theorem ext_init (s : ByteArray) : (s.extract 0 (s.size - 1)).data.toList = s.data.toList.dropLast := by
  have h := bstr_extract s.data.toList 0 (s.size - 1)
  rw [show bstr s.data.toList = s from rfl] at h
  rw [h, bstr_data, List.drop_zero, List.dropLast_eq_take]
  simp
theorem of_list (s : ByteArray) (a : Array UInt8) (h : s.data.toList = a.toList) : s = ⟨a⟩ := by
  apply ByteArray.ext; exact Array.toList_inj.1 h
theorem ne_list (s : ByteArray) (l : List UInt8) (h : s.data.toList ≠ l) : (s.toList == l) = false := by
  rw [Lib.toList_data]
  exact beq_eq_false_iff_ne.2 h
theorem byte_q (c d : UInt8) (h : c ≠ d) : ((c.toNat : Int) == (d.toNat : Int)) = false := by
  rw [beq_eq_false_iff_ne]; intro e; exact h (UInt8.toNat_inj.1 (by omega))
end Go.Proofs.YtamclbagafcmgaaDoor
