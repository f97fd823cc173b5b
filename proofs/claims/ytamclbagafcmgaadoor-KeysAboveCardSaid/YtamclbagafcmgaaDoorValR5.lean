/- The reference of layer 3: Texts. -/
import Derived.Test.YtamclbagafcmgaaDoorValRa
import Derived.Test.YtamclbagafcmgaaDoorDecP5
namespace Go.Proofs.YtamclbagafcmgaaDoor
open Go.RowKit

theorem cb_cons (x y : UInt8) (la lb : List UInt8) : Lib.compareBytes (x :: la) (y :: lb) = if x.toNat < y.toNat then -1 else if y.toNat < x.toNat then 1 else Lib.compareBytes la lb := by
  rw [Lib.compareBytes]
  simp only [UInt8.lt_iff_toNat_lt]
theorem cb_step (a b : ByteArray) (j : Nat) (ha : j < a.size) (hb : j < b.size) : Lib.compareBytes (a.data.toList.drop j) (b.data.toList.drop j) =
    if (a[j].toNat : Int) < b[j].toNat then -1 else if (b[j].toNat : Int) < a[j].toNat then 1 else Lib.compareBytes (a.data.toList.drop (j + 1)) (b.data.toList.drop (j + 1)) := by
  rw [drop_cons a j ha, drop_cons b j hb, cb_cons]
  simp only [Int.ofNat_lt]
theorem drop_end (a : ByteArray) (j : Nat) (h : a.size ≤ j) : a.data.toList.drop j = [] := List.drop_of_length_le (by simp; exact h)
theorem cb_end (a b : ByteArray) (j : Nat) (h1 : j ≤ a.size) (h2 : j ≤ b.size) (h : ¬ (j < a.size ∧ j < b.size)) : Lib.compareBytes (a.data.toList.drop j) (b.data.toList.drop j) = Lib.compareInt (a.size : Int) (b.size : Int) := by
  unfold Lib.compareInt
  by_cases ha : j < a.size
  · rw [drop_cons a j ha, drop_end b j (by omega), if_neg (by omega), if_pos (by omega)]; rfl
  · by_cases hb : j < b.size
    · rw [drop_cons b j hb, drop_end a j (by omega), if_pos (by omega)]; rfl
    · rw [drop_end a j (by omega), drop_end b j (by omega), if_neg (by omega), if_neg (by omega)]; rfl
set_option maxHeartbeats 1000000 in
set_option maxRecDepth 100000 in
theorem ref3_texts (a b : ByteArray) (w : World) (ha : a.size ≤ maxLen) (_hb : b.size ≤ maxLen) : Calls Tryd.prog 20 #[.string a, .string b] w (Num (Lib.compareBytes a.data.toList b.data.toList) w) := by
  unfold maxLen at ha
  obtain ⟨PL, hPL⟩ : ∃ PL, PL = Lib.compareBytes a.data.toList b.data.toList := ⟨_, rfl⟩
  rw [← hPL]
  go_enter Tryd.func20, Tryd.ntmps20
  go_wp2_with fail
  go_loopw [5] (fun i wr => ∃ j : Nat, j ≤ a.size ∧ j ≤ b.size ∧ i = .int .i64 (j : Int) ∧ Hid (PL = Lib.compareBytes (a.data.toList.drop j) (b.data.toList.drop j)) ∧ Hid (Below w.heap.size w wr)) (fun i _ => a.size - (Lib.intOf i).toNat)
  case atStart => exact ⟨0, Nat.zero_le _, Nat.zero_le _, rfl, hPL, Below.refl _ _⟩
  case round =>
    obtain ⟨j, h1, h2, rfl, HP, HB⟩ := hrel
    clear hPL
    by_cases hj : j < a.size ∧ j < b.size
    · obtain ⟨hj1, hj2⟩ := hj
      obtain ⟨x, hx⟩ : ∃ x : Nat, a[j].toNat = x := ⟨_, rfl⟩
      obtain ⟨y, hy⟩ : ∃ y : Nat, b[j].toNat = y := ⟨_, rfl⟩
      have hx2 : x < 256 := by rw [← hx]; exact UInt8.toNat_lt _
      have hy2 : y < 256 := by rw [← hy]; exact UInt8.toNat_lt _
      have hst := cb_step a b j hj1 hj2
      rw [hx, hy, ← HP.out] at hst
      by_cases he : x = y
      · subst he
        have hst2 : PL = Lib.compareBytes (a.data.toList.drop (j + 1)) (b.data.toList.drop (j + 1)) := by rw [hst, if_neg (by omega), if_neg (by omega)]
        have HP2 := Lib.hid hst2
        have q : ((x : Int) != (x : Int)) = false := by simp
        clear hst hst2 HP
        go_upto_region 4 with (fail)
        go_quiet (fail)
        go_wp2
        go_roundw
        case rel => exact ⟨j + 1, by omega, by omega, by go_num, HP2, below_n HB.out _⟩
        case measure => simp [Lib.intOf]; omega
      · have hst2 : PL = Lib.compareInt (x : Int) (y : Int) := by
          rw [hst]; unfold Lib.compareInt
          by_cases hlt : x < y
          · rw [if_pos (by omega), if_pos (by omega)]
          · rw [if_neg (by omega), if_pos (by omega), if_neg (by omega), if_pos (by omega)]
        have HP2 := Lib.hid hst2
        have q : ((x : Int) != (y : Int)) = true := by simp; omega
        have HN : Hid (∀ W, Calls Tryd.prog 30 #[.int .i64 (x : Int), .int .i64 (y : Int)] W fun e w' => e = .returned (.int .i64 (Lib.compareInt (x : Int) (y : Int))) ∧ w' = W) := by
          intro W
          exact (ref3_numbers (x : Int) (y : Int) W).mono fun e w2 h => ⟨h.1, h.2.symm⟩
        clear hst hst2 HP
        go_upto_region 4 with (fail)
        go_quiet (fail)
        obtain ⟨wq, hwq, hbq⟩ : ∃ wq, wr.drewN nq = wq ∧ Below w.heap.size w wq := ⟨_, rfl, below_n HB.out _⟩
        rw [hwq]
        have HBQ := Lib.hid hbq
        clear hwq hbq HB
        go_upto_region 5 with (fail)
        go_quiet ((go_at_call 30; exact Calls.quiet_of_same (HN.out _)))
        go_wp2
        go_ret
        exact ⟨ret_i64 HP2.out.symm, below_n HBQ.out _⟩
    · have hst := cb_end a b j h1 h2 hj
      rw [← HP.out] at hst
      have HP2 := Lib.hid hst
      clear hst HP
      by_cases hj1 : j < a.size
      · have hj2 : b.size ≤ j := by omega
        clear hj
        go_wp2_with fail
        refine (ref3_numbers _ _ _).mono ?_
        rintro e w1 ⟨rfl, rfl⟩
        go_wp2
        go_ret
        exact ⟨ret_i64 HP2.out.symm, HB.out⟩
      · have hj2 : a.size ≤ j := by omega
        clear hj hj1
        go_wp2_with fail
        refine (ref3_numbers _ _ _).mono ?_
        rintro e w1 ⟨rfl, rfl⟩
        go_wp2
        go_ret
        exact ⟨ret_i64 HP2.out.symm, HB.out⟩
end Go.Proofs.YtamclbagafcmgaaDoor
