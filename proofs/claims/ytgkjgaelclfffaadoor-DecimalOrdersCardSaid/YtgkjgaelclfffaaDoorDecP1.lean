/- Package decimal: digits. -/
import Derived.Test.YtgkjgaelclfffaaDoorDecS2
import Derived.Test.YtgkjgaelclfffaaDoorParMath
namespace Go.Proofs.YtgkjgaelclfffaaDoor
open Go.RowKit

/-- digits, at least one -/
def digB (l : List UInt8) : Bool := !l.isEmpty && Pm.allD l

theorem take_snoc (s : ByteArray) (k : Nat) (h : k < s.size) : s.data.toList.take (k + 1) = s.data.toList.take k ++ [s[k]] := by
  rw [List.take_succ_eq_append_getElem (by simpa using h)]; rfl
theorem allD_snoc (l : List UInt8) (c : UInt8) : Pm.allD (l ++ [c]) = (Pm.allD l && Pm.isD c) := by simp [Pm.allD]
theorem allD_take (l : List UInt8) (k : Nat) (h : Pm.allD (l.take k) = false) : Pm.allD l = false := by
  cases hh : Pm.allD l with
  | false => rfl
  | true =>
    unfold Pm.allD at *
    rw [List.all_eq_true] at hh
    have : (l.take k).all Pm.isD = true := List.all_eq_true.2 fun x hx => hh x (List.mem_of_mem_take hx)
    rw [this] at h; cases h

set_option maxHeartbeats 400000 in
theorem dec_digits (s : ByteArray) (w : World) (hs : s.size ≤ 1000000) :
    Calls Tryd.prog 34 #[.string s] w fun e w' => e = .returned (.bool (digB s.data.toList)) ∧ w = w' := by
  go_enter Tryd.func34, Tryd.ntmps34
  go_wp2
  go_loop [6] (fun i => ∃ j : Nat, j ≤ s.size ∧ i = .int .i64 (j : Int) ∧ Hid (Pm.allD (s.data.toList.take j) = true)) (fun i => s.size - (Lib.intOf i).toNat)
  case atStart => exact ⟨0, Nat.zero_le _, rfl, rfl⟩
  case round =>
    obtain ⟨j, hj, rfl, HA⟩ := hrel
    by_cases hlt : j < s.size
    · have hsn := allD_snoc (s.data.toList.take j) s[j]
      rw [← take_snoc s j hlt, HA.out, Bool.true_and] at hsn
      have HS := Lib.hid hsn
      clear hsn
      by_cases hD : Pm.isD s[j] = true
      · obtain ⟨c1, c2⟩ := (Pm.isD_iff s[j]).1 hD
        have HD := Lib.hid hD
        have e1 : (48 : Int) ≤ (s[j].toNat : Int) := by omega
        have e2 : (s[j].toNat : Int) ≤ 57 := by omega
        clear hD
        go_wp2
        go_round
        case rel => exact ⟨j + 1, by omega, by go_num, by show _ = _; rw [HS.out, HD.out]⟩
        case measure => simp [Lib.intOf]; omega
      · have hbad : digB s.data.toList = false := by
          unfold digB
          rw [allD_take _ (j + 1) (by rw [HS.out]; simpa using hD), Bool.and_false]
        have HB := Lib.hid hbad
        have hD' : ¬ (48 ≤ s[j].toNat ∧ s[j].toNat ≤ 57) := fun h => hD ((Pm.isD_iff s[j]).2 h)
        clear hbad hD
        by_cases h48 : 48 ≤ s[j].toNat
        · have e1 : (48 : Int) ≤ (s[j].toNat : Int) := by omega
          have e2 : ¬ (s[j].toNat : Int) ≤ 57 := by omega
          clear hD' h48
          go_wp2
          go_ret
          exact ⟨by rw [HB.out]; rfl, rfl⟩
        · have e1 : ¬ (48 : Int) ≤ (s[j].toNat : Int) := by omega
          clear hD' h48
          go_wp2
          go_ret
          exact ⟨by rw [HB.out]; rfl, rfl⟩
    · have hall : Pm.allD s.data.toList = true := by
        have e := HA.out
        rwa [List.take_of_length_le (by simp; omega)] at e
      by_cases h0 : s.size = 0
      · have hf : digB s.data.toList = false := by
          unfold digB
          have : s.data.toList = [] := List.eq_nil_of_length_eq_zero (by simpa using h0)
          rw [this]; rfl
        have hq : s.toList.isEmpty = true := by
          rw [Lib.toList_data, List.isEmpty_iff]; exact List.eq_nil_of_length_eq_zero (by simpa using h0)
        have HF := Lib.hid hf
        clear hall hf
        go_wp2
        go_ret
        exact ⟨by rw [HF.out]; rfl, rfl⟩
      · have hq : s.toList.isEmpty = false := by
          rw [Lib.toList_data]
          cases hl : s.data.toList with
          | nil => exact absurd (by rw [ByteArray.size, ← Array.length_toList, hl]; rfl) h0
          | cons a b => rfl
        have hf : digB s.data.toList = true := by
          unfold digB
          rw [hall, ← Lib.toList_data, hq]; rfl
        have HF := Lib.hid hf
        clear hall hf
        go_wp2
        go_ret
        exact ⟨by rw [HF.out]; rfl, rfl⟩
end Go.Proofs.YtgkjgaelclfffaaDoor
