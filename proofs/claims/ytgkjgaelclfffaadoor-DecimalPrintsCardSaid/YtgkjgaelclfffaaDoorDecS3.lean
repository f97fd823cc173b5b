/- The reference of layer 2: Digits, Print. -/
import Derived.Test.YtgkjgaelclfffaaDoorDecS2
namespace Go.Proofs.YtgkjgaelclfffaaDoor
open Go.RowKit

/-- the digits of a number as text, least digit last -/
def txt (l : List Int) : List UInt8 := (l.map fun d => UInt8.ofNat (48 + d.toNat)).reverse
theorem txt_snoc (l : List Int) (d : Int) : txt (l ++ [d]) = UInt8.ofNat (48 + d.toNat) :: txt l := by simp [txt]
theorem txt_length (l : List Int) : (txt l).length = l.length := by simp [txt]
/-- the numeral of a number that is not 0 is the text of its digits -/
theorem txt_dg : ∀ m : Nat, m ≠ 0 → Lib.decDigits m = txt (Dm.dg m) := by
  intro m
  induction m using Nat.strongRecOn with
  | _ m ih =>
    intro h0
    rw [Lib.decDigits]
    by_cases h : m < 10
    · rw [dif_pos h, Dm.dg_pos m h0, show m / 10 = 0 by omega, Dm.dg_zero, Nat.mod_eq_of_lt h]; simp [txt]
    · rw [dif_neg h, Dm.dg_pos m h0, ih (m / 10) (by omega) (by omega)]; simp [txt]; rw [show ((m : Int) % 10).toNat = m % 10 by omega]

theorem toList_nonempty (S : ByteArray) (h : S.size ≠ 0) : S.toList.isEmpty = false := by
  rw [Lib.toList_data]
  cases hl : S.data.toList with
  | nil => exact absurd (by rw [ByteArray.size, ← Array.length_toList, hl]; rfl) h
  | cons a b => rfl
/-- one digit cut out of the ten -/
theorem ten_cut (d : Nat) (h : d ≤ 9) : (⟨#[48, 49, 50, 51, 52, 53, 54, 55, 56, 57]⟩ : ByteArray).extract d (d + 1) = bstr [UInt8.ofNat (48 + d)] := by
  have : ∀ d : Fin 10, (⟨#[48, 49, 50, 51, 52, 53, 54, 55, 56, 57]⟩ : ByteArray).extract d.val (d.val + 1) = bstr [UInt8.ofNat (48 + d.val)] := by decide +kernel
  exact this ⟨d, by omega⟩

set_option maxHeartbeats 1000000 in
theorem ref_digits (n : Int) (w : World) (hn : i64 n) : Calls Tryd.prog 42 #[.int .i64 n] w (Str (Lib.decDigits n.natAbs) w) := by
  have hnd := nd_i64 n hn
  have HO := Lib.hid (ref_of n · hn)
  have HQ := Lib.hid (txt_dg n.natAbs)
  clear hn
  revert HO HQ hnd
  generalize n.natAbs = m
  intro hnd HO HQ
  go_enter Tryd.func42, Tryd.ntmps42
  go_wp2_with fail
  refine (HO.out _).mono ?_
  rintro e w1 ⟨oa, oc, rfl, hi, hb⟩
  rw [Dm.dg_length] at hi ⊢
  have HI := Lib.hid hi; have HB := Lib.hid hb
  clear hi hb HO
  go_wp2_with fail
  go_loop [3, 9] (fun s i => ∃ j : Nat, ∃ S : ByteArray, j ≤ Dm.nd m ∧ i = .int .i64 (j : Int) ∧ s = .string S ∧ S.size ≤ 20 ∧ Hid (S = bstr (txt ((Dm.dg m).take j)) ∧ S.size = j)) (fun _ i => Dm.nd m - (Lib.intOf i).toNat)
  case atStart => exact ⟨0, _, Nat.zero_le _, rfl, rfl, by decide, rfl, rfl⟩
  case round =>
    obtain ⟨j, S, hj, rfl, rfl, hS20, HS⟩ := hrel
    by_cases hlt : j < Dm.nd m
    · obtain ⟨g, off, rfl, hg, hcell⟩ := HI.out.at j hlt
      rw [Dm.dg_get m j hlt] at hcell
      have hd : m / 10 ^ j % 10 ≤ 9 := by omega
      have ht : (Dm.dg m).take (j + 1) = (Dm.dg m).take j ++ [((m / 10 ^ j % 10 : Nat) : Int)] := by
        rw [Dm.dg_lowd, Dm.lowd_take _ _ _ (by omega), Dm.lowd_take _ _ _ (by omega), Dm.lowd_snoc]
      have HT := Lib.hid ht
      clear ht
      revert hcell hd HT
      generalize m / 10 ^ j % 10 = d
      intro hcell hd HT
      have hcut := ten_cut d hd
      have hone : (bstr [UInt8.ofNat (48 + d)]).size = 1 := bstr_size _
      have HS2 : Hid (bstr [UInt8.ofNat (48 + d)] ++ S = bstr (txt ((Dm.dg m).take (j + 1))) ∧ (bstr [UInt8.ofNat (48 + d)] ++ S).size = j + 1) := by
        refine ⟨?_, ?_⟩
        · rw [HS.out.1, HT.out, txt_snoc, bstr_append, Int.toNat_natCast]; rfl
        · rw [ByteArray.size_append, hone, show S.size = j from HS.out.2]; omega
      have hSj : S.size ≤ 18 := by have e : S.size = j := HS.out.2; omega
      generalize bstr [UInt8.ofNat (48 + d)] = X at *
      go_wp2
      go_round
      case rel => exact ⟨j + 1, X ++ S, by omega, by go_num, rfl, by simp [hone]; omega, HS2⟩
      case measure => simp [Lib.intOf]; omega
    · have hjn : j = Dm.nd m := by omega
      have hSz : S.size = j := HS.out.2
      have hfull : S = bstr (txt (Dm.dg m)) := by rw [HS.out.1, List.take_of_length_le (by rw [Dm.dg_length]; omega)]
      by_cases hm : m = 0
      · have hS0 : S = ⟨#[]⟩ := by rw [hfull, hm, Dm.dg_zero]; rfl
        have hr : Lib.decDigits m = [48] := by rw [hm, Lib.decDigits, dif_pos (by omega)]; rfl
        have HR := Lib.hid hr
        clear hfull hm hSz hr HS hS20
        subst hS0
        go_wp2
        go_ret
        exact ⟨by rw [HR.out]; rfl, HB.out⟩
      · have hr : bstr (Lib.decDigits m) = S := by rw [HQ.out hm, hfull]
        have hne : S.size ≠ 0 := by
          have := (Dm.nd_spec m).2
          rcases this with e | e
          · exact absurd e hm
          · omega
        have q1 : S.toList.isEmpty = false := toList_nonempty S hne
        have HR := Lib.hid hr
        clear hfull hr HS
        go_wp2
        go_ret
        exact ⟨ret_str HR.out.symm, HB.out⟩
end Go.Proofs.YtgkjgaelclfffaaDoor
