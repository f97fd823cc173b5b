/- The reference of layer 3: Print, but for Bytes. -/
import Derived.Test.YtpbmjknhfgdnnaaGreatDoorValRb
import Derived.Test.YtpbmjknhfgdnnaaGreatDoorDecSm
namespace Go.Proofs.YtpbmjknhfgdnnaaGreatDoor
open Go.RowKit

theorem prt_len (n s : Int) (hn : i64 n) : (printM n s).length ≤ 100 := by
  unfold printM
  cases hs : scB s
  · simp
  · obtain ⟨h1, h2⟩ := scB_true hs
    have hd := nd_len n.natAbs (natAbs_lt n hn)
    have hp : (padD n.natAbs s.toNat).length ≤ 30 := by unfold padD; rw [List.length_append, List.length_replicate]; omega
    have hdot : (dotD n.natAbs s.toNat).length ≤ 80 := by
      unfold dotD; split
      · omega
      · simp; omega
    rw [if_pos rfl]
    split
    · simp; omega
    · omega
theorem esc_snoc (l : List UInt8) (c : UInt8) : Vm.esc (l ++ [c]) = Vm.esc l ++ (if c = 39 then [39, 39] else [c]) := by
  induction l with
  | nil => by_cases h : c = 39 <;> simp [Vm.esc, h]
  | cons d r ih => rw [List.cons_append, Vm.esc, Vm.esc, ih]; by_cases h : d = 39 <;> simp [h]
theorem take_next (s : ByteArray) (j : Nat) (h : j < s.size) : s.data.toList.take (j + 1) = s.data.toList.take j ++ [s[j]] := by
  have h2 : j < s.data.toList.length := by simpa using h
  rw [List.take_succ_eq_append_getElem h2]; rfl
theorem take_all (s : ByteArray) : s.data.toList.take s.size = s.data.toList := List.take_of_length_le (by simp)
theorem cut_one (s : ByteArray) (j : Nat) (h : j < s.size) : s.extract j (j + 1) = bstr [s[j]] := by
  have e : s = bstr s.data.toList := by unfold bstr; rfl
  have h2 : (s.data.toList.drop j).take (j + 1 - j) = [s[j]] := by
    rw [show j + 1 - j = 1 by omega]
    have h3 : j < s.data.toList.length := by simpa using h
    rw [List.drop_eq_getElem_cons h3]; rfl
  conv => lhs; rw [e]
  rw [bstr_extract, h2]
theorem esc_len : ∀ l : List UInt8, (Vm.esc l).length ≤ 2 * l.length := by
  intro l
  induction l with
  | nil => simp [Vm.esc]
  | cons c r ih => rw [Vm.esc]; split <;> simp <;> omega

set_option maxHeartbeats 1000000 in
set_option maxRecDepth 100000 in
theorem prt_0 (xk xn xc : Int) (xs : ByteArray) (an ac : Int) (as' : ByteArray) (w : World) (l : List UInt8)
    (HA : Hid (∀ W, Calls Tryz.prog 25 #[.agg #[.int .i64 xk, .int .i64 xn, .int .i64 xc, .string xs]] W (Val ⟨0, an, ac, as'⟩ W))) (HP : Hid (l = [78, 85, 76, 76])) :
    Calls Tryz.prog 24 #[.agg #[.int .i64 xk, .int .i64 xn, .int .i64 xc, .string xs]] w (Str l w) := by
  go_enter Tryz.func24, Tryz.ntmps24
  go_wp2_with fail
  refine (HA.out _).mono ?_
  rintro e w1 ⟨rfl, hb⟩
  have HB1 := Lib.hid (((Below.refl w.heap.size w).alloc (Nat.le_refl _) _).trans (hb.mono (by simp)))
  have HB2 := Lib.hid (HB1.out.alloc HB1.out.size (.cells #[.int .i64 0, .int .i64 an, .int .i64 ac, .string as'] 24))
  clear hb HA HB1
  dsimp only
  go_wp2
  go_ret
  exact ⟨ret_str (by rw [HP.out]; rfl), HB2.out⟩

set_option maxHeartbeats 1000000 in
set_option maxRecDepth 100000 in
theorem prt_1t (xk xn xc : Int) (xs : ByteArray) (an ac : Int) (as' : ByteArray) (w : World) (l : List UInt8)
    (HA : Hid (∀ W, Calls Tryz.prog 25 #[.agg #[.int .i64 xk, .int .i64 xn, .int .i64 xc, .string xs]] W (Val ⟨1, an, ac, as'⟩ W))) (HP : Hid (l = [84, 82, 85, 69])) (q : (an == 1) = true) :
    Calls Tryz.prog 24 #[.agg #[.int .i64 xk, .int .i64 xn, .int .i64 xc, .string xs]] w (Str l w) := by
  go_enter Tryz.func24, Tryz.ntmps24
  go_wp2_with fail
  refine (HA.out _).mono ?_
  rintro e w1 ⟨rfl, hb⟩
  have HB1 := Lib.hid (((Below.refl w.heap.size w).alloc (Nat.le_refl _) _).trans (hb.mono (by simp)))
  have HB2 := Lib.hid (HB1.out.alloc HB1.out.size (.cells #[.int .i64 1, .int .i64 an, .int .i64 ac, .string as'] 24))
  clear hb HA HB1
  dsimp only
  go_wp2
  go_ret
  exact ⟨ret_str (by rw [HP.out]; rfl), HB2.out⟩

set_option maxHeartbeats 1000000 in
set_option maxRecDepth 100000 in
theorem prt_1f (xk xn xc : Int) (xs : ByteArray) (an ac : Int) (as' : ByteArray) (w : World) (l : List UInt8)
    (HA : Hid (∀ W, Calls Tryz.prog 25 #[.agg #[.int .i64 xk, .int .i64 xn, .int .i64 xc, .string xs]] W (Val ⟨1, an, ac, as'⟩ W))) (HP : Hid (l = [70, 65, 76, 83, 69])) (q : (an == 1) = false) :
    Calls Tryz.prog 24 #[.agg #[.int .i64 xk, .int .i64 xn, .int .i64 xc, .string xs]] w (Str l w) := by
  go_enter Tryz.func24, Tryz.ntmps24
  go_wp2_with fail
  refine (HA.out _).mono ?_
  rintro e w1 ⟨rfl, hb⟩
  have HB1 := Lib.hid (((Below.refl w.heap.size w).alloc (Nat.le_refl _) _).trans (hb.mono (by simp)))
  have HB2 := Lib.hid (HB1.out.alloc HB1.out.size (.cells #[.int .i64 1, .int .i64 an, .int .i64 ac, .string as'] 24))
  clear hb HA HB1
  dsimp only
  go_wp2
  go_ret
  exact ⟨ret_str (by rw [HP.out]; rfl), HB2.out⟩

set_option maxHeartbeats 1000000 in
set_option maxRecDepth 100000 in
theorem prt_2 (xk xn xc : Int) (xs : ByteArray) (an ac : Int) (as' : ByteArray) (w : World) (l : List UInt8)
    (HA : Hid (∀ W, Calls Tryz.prog 25 #[.agg #[.int .i64 xk, .int .i64 xn, .int .i64 xc, .string xs]] W (Val ⟨2, an, ac, as'⟩ W))) (HP : Hid (l = printM an 0)) (hi : Hid (i64 an)) :
    Calls Tryz.prog 24 #[.agg #[.int .i64 xk, .int .i64 xn, .int .i64 xc, .string xs]] w (Str l w) := by
  go_enter Tryz.func24, Tryz.ntmps24
  go_wp2_with fail
  refine (HA.out _).mono ?_
  rintro e w1 ⟨rfl, hb⟩
  have HB1 := Lib.hid (((Below.refl w.heap.size w).alloc (Nat.le_refl _) _).trans (hb.mono (by simp)))
  have HB2 := Lib.hid (HB1.out.alloc HB1.out.size (.cells #[.int .i64 2, .int .i64 an, .int .i64 ac, .string as'] 24))
  clear hb HA HB1
  dsimp only
  go_wp2_with fail
  refine (ref_print an 0 _ hi.out).mono ?_
  rintro e w2 ⟨rfl, hb⟩
  have HB3 := Lib.hid (HB2.out.trans (hb.mono HB2.out.size))
  clear hb
  go_wp2
  go_ret
  exact ⟨by rw [HP.out]; rfl, HB3.out⟩

set_option maxHeartbeats 1000000 in
set_option maxRecDepth 100000 in
theorem prt_3n (xk xn xc : Int) (xs : ByteArray) (an ac : Int) (as' : ByteArray) (w : World) (l : List UInt8)
    (HA : Hid (∀ W, Calls Tryz.prog 25 #[.agg #[.int .i64 xk, .int .i64 xn, .int .i64 xc, .string xs]] W (Val ⟨3, an, ac, as'⟩ W))) (HP : Hid (l = printM an ac)) (hi : Hid (i64 an)) (q : (ac == 0) = false) :
    Calls Tryz.prog 24 #[.agg #[.int .i64 xk, .int .i64 xn, .int .i64 xc, .string xs]] w (Str l w) := by
  go_enter Tryz.func24, Tryz.ntmps24
  go_wp2_with fail
  refine (HA.out _).mono ?_
  rintro e w1 ⟨rfl, hb⟩
  have HB1 := Lib.hid (((Below.refl w.heap.size w).alloc (Nat.le_refl _) _).trans (hb.mono (by simp)))
  have HB2 := Lib.hid (HB1.out.alloc HB1.out.size (.cells #[.int .i64 3, .int .i64 an, .int .i64 ac, .string as'] 24))
  clear hb HA HB1
  dsimp only
  go_wp2_with fail
  refine (ref_print an ac _ hi.out).mono ?_
  rintro e w2 ⟨rfl, hb⟩
  have HB3 := Lib.hid (HB2.out.trans (hb.mono HB2.out.size))
  have d2 := ((Bx.new w1 3 an ac as' 24).keep hb).c2
  clear hb
  go_wp2
  go_ret
  exact ⟨by rw [HP.out]; rfl, HB3.out⟩

set_option maxHeartbeats 1000000 in
set_option maxRecDepth 100000 in
theorem prt_3z (xk xn xc : Int) (xs : ByteArray) (an ac : Int) (as' : ByteArray) (w : World) (l : List UInt8)
    (HA : Hid (∀ W, Calls Tryz.prog 25 #[.agg #[.int .i64 xk, .int .i64 xn, .int .i64 xc, .string xs]] W (Val ⟨3, an, ac, as'⟩ W))) (HP : Hid (l = printM an ac ++ [46])) (hi : Hid (i64 an)) (q : (ac == 0) = true) :
    Calls Tryz.prog 24 #[.agg #[.int .i64 xk, .int .i64 xn, .int .i64 xc, .string xs]] w (Str l w) := by
  go_enter Tryz.func24, Tryz.ntmps24
  go_wp2_with fail
  refine (HA.out _).mono ?_
  rintro e w1 ⟨rfl, hb⟩
  have HB1 := Lib.hid (((Below.refl w.heap.size w).alloc (Nat.le_refl _) _).trans (hb.mono (by simp)))
  have HB2 := Lib.hid (HB1.out.alloc HB1.out.size (.cells #[.int .i64 3, .int .i64 an, .int .i64 ac, .string as'] 24))
  clear hb HA HB1
  dsimp only
  go_wp2_with fail
  refine (ref_print an ac _ hi.out).mono ?_
  rintro e w2 ⟨rfl, hb⟩
  have HB3 := Lib.hid (HB2.out.trans (hb.mono HB2.out.size))
  have d2 := ((Bx.new w1 3 an ac as' 24).keep hb).c2
  obtain ⟨T, hT⟩ : ∃ T : ByteArray, T = ⟨(printM an ac).toArray⟩ := ⟨_, rfl⟩
  rw [← hT]
  have hTs : T.size ≤ 100 := by have := prt_len an ac hi.out; rw [hT]; show (bstr (printM an ac)).size ≤ 100; rw [bstr_size]; exact this
  have HPS : Hid (T = bstr (printM an ac)) := hT
  clear hb hT
  go_wp2
  go_ret
  exact ⟨ret_str (by rw [HP.out, ← bstr_append, ← HPS.out]; rfl), HB3.out⟩

set_option maxHeartbeats 1000000 in
set_option maxRecDepth 100000 in
theorem prt_4 (xk xn xc : Int) (xs : ByteArray) (an ac : Int) (as' : ByteArray) (w : World) (l : List UInt8)
    (HA : Hid (∀ W, Calls Tryz.prog 25 #[.agg #[.int .i64 xk, .int .i64 xn, .int .i64 xc, .string xs]] W (Val ⟨4, an, ac, as'⟩ W))) (HP : Hid (l = 39 :: (Vm.esc as'.data.toList ++ [39]))) (hz : as'.size ≤ 1000000) :
    Calls Tryz.prog 24 #[.agg #[.int .i64 xk, .int .i64 xn, .int .i64 xc, .string xs]] w (Str l w) := by
  go_enter Tryz.func24, Tryz.ntmps24
  go_wp2_with fail
  refine (HA.out _).mono ?_
  rintro e w1 ⟨rfl, hb⟩
  have HB1 := Lib.hid (((Below.refl w.heap.size w).alloc (Nat.le_refl _) _).trans (hb.mono (by simp)))
  have HB2 := Lib.hid (HB1.out.alloc HB1.out.size (.cells #[.int .i64 4, .int .i64 an, .int .i64 ac, .string as'] 24))
  clear hb HA HB1
  dsimp only
  go_wp2_with fail
  go_loop [5, 6] (fun sv i => ∃ (j : Nat) (S : ByteArray), j ≤ as'.size ∧ i = .int .i64 (j : Int) ∧ sv = .string S ∧ S.size ≤ 2 * j + 1 ∧ Hid (S = bstr (39 :: Vm.esc (as'.data.toList.take j)))) (fun _ i => as'.size - (Lib.intOf i).toNat)
  case atStart => exact ⟨0, _, Nat.zero_le _, rfl, rfl, by decide, rfl⟩
  case round =>
    obtain ⟨j, S, hj, rfl, rfl, hS, HS⟩ := hrel
    by_cases hjs : j < as'.size
    · obtain ⟨c, hc⟩ : ∃ c, as'[j] = c := ⟨_, rfl⟩
      have hcut := cut_one as' j hjs
      have hnx := take_next as' j hjs
      rw [hc] at hcut hnx
      have HNX := Lib.hid hnx
      have hone : (bstr [c]).size = 1 := bstr_size _
      have hci : as'[j].toNat = c.toNat := by rw [hc]
      by_cases h39 : c = 39
      · have q : ((c.toNat : Int) == 39) = true := by rw [h39]; rfl
        have HS2 : Hid (S ++ ⟨#[39]⟩ ++ bstr [c] = bstr (39 :: Vm.esc (as'.data.toList.take (j + 1)))) := by
          show _ = _
          rw [HS.out, HNX.out, esc_snoc, if_pos h39, h39, show (⟨#[39]⟩ : ByteArray) = bstr [39] from rfl, bstr_append, bstr_append]; simp
        have hsz : (S ++ (⟨#[39]⟩ : ByteArray)).size = S.size + 1 := by rw [ByteArray.size_append]; rfl
        have hsz2 : (S ++ ⟨#[39]⟩ ++ bstr [c]).size = S.size + 2 := by rw [ByteArray.size_append, hsz, hone]
        clear h39 hnx hc
        generalize bstr [c] = X at *
        go_wp2
        go_round
        case rel => exact ⟨j + 1, _, by omega, by go_num, rfl, by rw [hsz2]; omega, HS2⟩
        case measure => simp [Lib.intOf]; omega
      · have q : ((c.toNat : Int) == 39) = false := by
          rw [beq_eq_false_iff_ne]; intro e; exact h39 (UInt8.toNat_inj.1 (by show c.toNat = 39; omega))
        have HS2 : Hid (S ++ bstr [c] = bstr (39 :: Vm.esc (as'.data.toList.take (j + 1)))) := by
          show _ = _
          rw [HS.out, HNX.out, esc_snoc, if_neg h39, bstr_append]; simp
        have hsz2 : (S ++ bstr [c]).size = S.size + 1 := by rw [ByteArray.size_append, hone]
        clear h39 hnx hc
        generalize bstr [c] = X at *
        go_wp2
        go_round
        case rel => exact ⟨j + 1, _, by omega, by go_num, rfl, by rw [hsz2]; omega, HS2⟩
        case measure => simp [Lib.intOf]; omega
    · obtain rfl : j = as'.size := by omega
      have HF : Hid (S ++ ⟨#[39]⟩ = bstr l) := by
        show _ = _
        rw [HP.out, HS.out, take_all, show (⟨#[39]⟩ : ByteArray) = bstr [39] from rfl, bstr_append]; simp
      clear HS HP
      go_wp2
      go_ret
      exact ⟨ret_str HF.out, HB2.out⟩

end Go.Proofs.YtpbmjknhfgdnnaaGreatDoor
/- The reference of layer 3: Print of Bytes; Print whole. -/
namespace Go.Proofs.YtpbmjknhfgdnnaaGreatDoor
open Go.RowKit

def hexS : ByteArray := ⟨#[48, 49, 50, 51, 52, 53, 54, 55, 56, 57, 65, 66, 67, 68, 69, 70]⟩
theorem hex_cut (d : Nat) (h : d < 16) : (⟨#[48, 49, 50, 51, 52, 53, 54, 55, 56, 57, 65, 66, 67, 68, 69, 70]⟩ : ByteArray).extract d (d + 1) = bstr [Vm.hexd d] := by
  have : ∀ d : Fin 16, (⟨#[48, 49, 50, 51, 52, 53, 54, 55, 56, 57, 65, 66, 67, 68, 69, 70]⟩ : ByteArray).extract d.val (d.val + 1) = bstr [Vm.hexd d.val] := by decide +kernel
  exact this ⟨d, h⟩
theorem hex_snoc (l : List UInt8) (c : UInt8) : Vm.hex (l ++ [c]) = Vm.hex l ++ [Vm.hexd (c.toNat / 16), Vm.hexd (c.toNat % 16)] := by
  induction l with
  | nil => rfl
  | cons d r ih => rw [List.cons_append, Vm.hex, Vm.hex, ih]; rfl

set_option maxHeartbeats 1000000 in
set_option maxRecDepth 100000 in
theorem prt_5 (xk xn xc : Int) (xs : ByteArray) (an ac : Int) (as' : ByteArray) (w : World) (l : List UInt8)
    (HA : Hid (∀ W, Calls Tryz.prog 25 #[.agg #[.int .i64 xk, .int .i64 xn, .int .i64 xc, .string xs]] W (Val ⟨5, an, ac, as'⟩ W))) (HP : Hid (l = 88 :: 39 :: (Vm.hex as'.data.toList ++ [39]))) (hz : as'.size ≤ 1000000) :
    Calls Tryz.prog 24 #[.agg #[.int .i64 xk, .int .i64 xn, .int .i64 xc, .string xs]] w (Str l w) := by
  go_enter Tryz.func24, Tryz.ntmps24
  go_wp2_with fail
  refine (HA.out _).mono ?_
  rintro e w1 ⟨rfl, hb⟩
  have HB1 := Lib.hid (((Below.refl w.heap.size w).alloc (Nat.le_refl _) _).trans (hb.mono (by simp)))
  have HB2 := Lib.hid (HB1.out.alloc HB1.out.size (.cells #[.int .i64 5, .int .i64 an, .int .i64 ac, .string as'] 24))
  clear hb HA HB1
  dsimp only
  go_wp2_with fail
  go_loopw [7, 8] (fun sv i wr => ∃ (j : Nat) (S : ByteArray), j ≤ as'.size ∧ i = .int .i64 (j : Int) ∧ sv = .string S ∧ S.size ≤ 2 * j + 2 ∧ Hid (S = bstr (88 :: 39 :: Vm.hex (as'.data.toList.take j))) ∧ Hid (Bx w1.heap.size 5 an ac as' wr) ∧ Hid (Below w.heap.size w wr)) (fun _ i _ => as'.size - (Lib.intOf i).toNat)
  case atStart => exact ⟨0, _, Nat.zero_le _, rfl, rfl, by decide, rfl, Bx.new _ _ _ _ _ _, HB2.out⟩
  case round =>
    obtain ⟨j, S, hj, rfl, rfl, hS, HS, HX, HB⟩ := hrel
    have d3 := HX.out.c3
    by_cases hjs : j < as'.size
    · obtain ⟨c, hc⟩ : ∃ c, as'[j] = c := ⟨_, rfl⟩
      have hnx := take_next as' j hjs
      rw [hc] at hnx
      have hci : as'[j].toNat = c.toNat := by rw [hc]
      have hc256 := c.toNat_lt
      have HS2 : Hid (S ++ (bstr [Vm.hexd (c.toNat / 16)] ++ bstr [Vm.hexd (c.toNat % 16)]) = bstr (88 :: 39 :: Vm.hex (as'.data.toList.take (j + 1)))) := by
        show _ = _
        rw [HS.out, hnx, hex_snoc, bstr_append, bstr_append]; simp
      have h1 := hex_cut (c.toNat / 16) (by omega)
      have h2 := hex_cut (c.toNat % 16) (by omega)
      clear hnx hc
      generalize c.toNat = x at *
      obtain ⟨d1, hd1⟩ : ∃ d1, x / 16 = d1 := ⟨_, rfl⟩
      rw [hd1] at h1 HS2
      have b1 : d1 < 16 := by omega
      have w1a : IntKind.u8.wrap ((x : Int) / 16) = (d1 : Int) := by simp only [IntKind.wrap_u8]; omega
      have w1b : IntKind.u8.wrap ((d1 : Int) + 1) = ((d1 + 1 : Nat) : Int) := by simp only [IntKind.wrap_u8]; omega
      have hone1 : (bstr [Vm.hexd d1]).size = 1 := bstr_size _
      have hone2 : (bstr [Vm.hexd (x % 16)]).size = 1 := bstr_size _
      clear hd1
      generalize bstr [Vm.hexd d1] = X1 at *
      generalize bstr [Vm.hexd (x % 16)] = X2 at *
      have hsz : (X1 ++ X2).size = 2 := by rw [ByteArray.size_append, hone1, hone2]
      have hsz2 : (S ++ (X1 ++ X2)).size = S.size + 2 := by rw [ByteArray.size_append, hsz]
      go_upto_region 28 with (fail)
      go_quiet (fail)
      go_wp2
      go_roundw
      case rel => exact ⟨j + 1, _, by omega, by go_num, rfl, by rw [hsz2]; omega, HS2, HX.out.keep (below_n (Below.refl _ _) _), below_n HB.out _⟩
      case measure => simp [Lib.intOf]; omega
    · obtain rfl : j = as'.size := by omega
      have HF : Hid (S ++ ⟨#[39]⟩ = bstr l) := by
        show _ = _
        rw [HP.out, HS.out, take_all, show (⟨#[39]⟩ : ByteArray) = bstr [39] from rfl, bstr_append]; simp
      clear HS HP
      go_wp2
      go_ret
      exact ⟨ret_str HF.out, HB.out⟩


theorem ref3_print (x : Vm.Cl) (w : World) (hx : i64 x.n) (hxs : x.s.size ≤ maxLen) :
    Calls Tryz.prog 24 #[.agg #[.int .i64 x.k, .int .i64 x.n, .int .i64 x.sc, .string x.s]] w (Str (Vm.print (Vm.plain x)) w) := by
  have HA := Lib.hid (ref3_plain x.k x.n x.sc x.s · hxs)
  have hr := Vm.right_cases (Vm.plain_right x)
  have hi : i64 (Vm.plain x).n := Vm.plain_i64 hx
  revert HA hr hi
  show (Hid (∀ W, Calls _ _ _ W (Val (Vm.plain x) W))) → _
  generalize Vm.plain x = a
  intro HA hr hi
  rcases hr with rfl | ⟨n, hn1, rfl⟩ | ⟨n, rfl⟩ | ⟨n, s, hs, rfl⟩ | ⟨s, hs, hv, rfl⟩ | ⟨s, hs, rfl⟩
  · exact prt_0 _ _ _ _ _ _ _ w _ HA rfl
  · rcases hn1 with rfl | rfl
    · exact prt_1f _ _ _ _ _ _ _ w _ HA rfl rfl
    · exact prt_1t _ _ _ _ _ _ _ w _ HA rfl rfl
  · exact prt_2 _ _ _ _ _ _ _ w _ HA rfl hi
  · by_cases h0 : s = 0
    · subst h0; exact prt_3z _ _ _ _ _ _ _ w _ HA rfl hi rfl
    · exact prt_3n _ _ _ _ _ _ _ w _ HA (show _ = _ by show (if s = 0 then _ else _) = _; rw [if_neg h0]) hi (by rw [beq_eq_false_iff_ne]; exact h0)
  · exact prt_4 _ _ _ _ _ _ _ w _ HA rfl (by omega)
  · exact prt_5 _ _ _ _ _ _ _ w _ HA rfl (by omega)
end Go.Proofs.YtpbmjknhfgdnnaaGreatDoor
