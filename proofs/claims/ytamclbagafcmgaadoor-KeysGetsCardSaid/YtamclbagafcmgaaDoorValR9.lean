/- The reference of layer 3: Print, but for Bytes. -/
import Derived.Test.YtamclbagafcmgaaDoorValRb
import Derived.Test.YtamclbagafcmgaaDoorDecS2
namespace Go.Proofs.YtamclbagafcmgaaDoor
open Go.RowKit

theorem prt_len (n s : Int) (hn : i64 n) : (printM n s).length ≤ 100 := by
  unfold printM
  cases hs : scB s
  · simp
  · obtain ⟨h1, h2⟩ := scB_true hs
    have hd := nd_len n.natAbs (natAbs_lt n hn)
    have hp : (padD n.natAbs s.toNat).length ≤ 30 := by unfold padD; rw [List.length_append, List.length_replicate]; omega
    have hdot : (dotD n.natAbs s.toNat).length ≤ 80 := by
      unfold dotD; split
      · omega
      · simp; omega
    rw [if_pos rfl]
    split
    · simp; omega
    · omega
theorem esc_snoc (l : List UInt8) (c : UInt8) : Vm.esc (l ++ [c]) = Vm.esc l ++ (if c = 39 then [39, 39] else [c]) := by
  induction l with
  | nil => by_cases h : c = 39 <;> simp [Vm.esc, h]
  | cons d r ih => rw [List.cons_append, Vm.esc, Vm.esc, ih]; by_cases h : d = 39 <;> simp [h]
theorem take_next (s : ByteArray) (j : Nat) (h : j < s.size) : s.data.toList.take (j + 1) = s.data.toList.take j ++ [s[j]] := by
  have h2 : j < s.data.toList.length := by simpa using h
  rw [List.take_succ_eq_append_getElem h2]; rfl
theorem take_all (s : ByteArray) : s.data.toList.take s.size = s.data.toList := List.take_of_length_le (by simp)
theorem cut_one (s : ByteArray) (j : Nat) (h : j < s.size) : s.extract j (j + 1) = bstr [s[j]] := by
  have e : s = bstr s.data.toList := by unfold bstr; rfl
  have h2 : (s.data.toList.drop j).take (j + 1 - j) = [s[j]] := by
    rw [show j + 1 - j = 1 by omega]
    have h3 : j < s.data.toList.length := by simpa using h
    rw [List.drop_eq_getElem_cons h3]; rfl
  conv => lhs; rw [e]
  rw [bstr_extract, h2]
theorem esc_len : ∀ l : List UInt8, (Vm.esc l).length ≤ 2 * l.length := by
  intro l
  induction l with
  | nil => simp [Vm.esc]
  | cons c r ih => rw [Vm.esc]; split <;> simp <;> omega
end Go.Proofs.YtamclbagafcmgaaDoor
