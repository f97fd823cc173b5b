/- The reference of layer 5: One. -/
import Derived.Test.YtamclbagafcmgaaDoorKeyRef1
import Derived.Test.YtamclbagafcmgaaDoorValRb
namespace Go.Proofs.YtamclbagafcmgaaDoor
open Go.RowKit

theorem bdr (w : World) : Below w.heap.size w w.drew := ⟨rfl, rfl, rfl, Nat.le_refl _, fun _ _ => rfl⟩
/-- what string([]byte{x}) answers, in a new block -/
theorem lit_str (w : World) (x : UInt8) (y : Int) (hy : (x.toNat : Int) = y) (a : Nat) (ha : a = w.heap.size) : (convert 25 9 (.slice (some ⟨a, 0, none⟩) 1 1)).run Tryd.prog (w.alloc (.cells #[.int .u8 y] 5)) = .ok (.string (bstr [x])) (w.alloc (.cells #[.int .u8 y] 5)) := by
  subst ha; subst hy
  exact Yt.str (Yt.of_own (own_lity w x 0 (Nat.zero_le _)))

set_option maxHeartbeats 1000000 in
set_option maxRecDepth 100000 in
theorem one_0 (xk xn xc : Int) (xs : ByteArray) (w : World)
    (HA : Hid (∀ W, Calls Tryd.prog 11 #[.agg #[.int .i64 xk, .int .i64 xn, .int .i64 xc, .string xs]] W (Val ⟨0, 0, 0, ⟨#[]⟩⟩ W))) :
    Calls Tryd.prog 25 #[.agg #[.int .i64 xk, .int .i64 xn, .int .i64 xc, .string xs]] w (Str [0] w) := by
  go_enter Tryd.func25, Tryd.ntmps25
  go_wp2_with fail
  refine (HA.out _).mono ?_
  rintro e w1 ⟨rfl, hb⟩
  have HB1 := Lib.hid ((((Below.refl w.heap.size w).alloc (Nat.le_refl _) _).trans (hb.mono (by simp))).alloc (by have := hb.size; simp at this; omega) (.cells #[.int .i64 0, .int .i64 0, .int .i64 0, .string ⟨#[]⟩] 29))
  clear hb HA
  dsimp only
  have hcv := lit_str (w1.alloc (.cells #[.int .i64 0, .int .i64 0, .int .i64 0, .string ⟨#[]⟩] 29)) 0 0 rfl (w1.heap.size + 1) (by simp)
  go_wp2
  go_ret
  exact ⟨rfl, HB1.out.alloc HB1.out.size _⟩

set_option maxHeartbeats 1000000 in
set_option maxRecDepth 100000 in
theorem one_1 (xk xn xc : Int) (xs : ByteArray) (n : Int) (x : UInt8) (hx : (x.toNat : Int) = n) (hn : n = 0 ∨ n = 1) (w : World)
    (HA : Hid (∀ W, Calls Tryd.prog 11 #[.agg #[.int .i64 xk, .int .i64 xn, .int .i64 xc, .string xs]] W (Val ⟨1, n, 0, ⟨#[]⟩⟩ W))) :
    Calls Tryd.prog 25 #[.agg #[.int .i64 xk, .int .i64 xn, .int .i64 xc, .string xs]] w (Str [1, x] w) := by
  have hm : n % 256 = n := by omega
  have h2 : bstr [1] ++ bstr [x] = bstr [1, x] := by rw [bstr_append]; rfl
  have hs1 : (bstr [1]).size = 1 := bstr_size _
  have hs2 : (bstr [x]).size = 1 := bstr_size _
  clear hn
  go_enter Tryd.func25, Tryd.ntmps25
  go_wp2_with fail
  refine (HA.out _).mono ?_
  rintro e w1 ⟨rfl, hb⟩
  have HB1 := Lib.hid ((((Below.refl w.heap.size w).alloc (Nat.le_refl _) _).trans (hb.mono (by simp))).alloc (by have := hb.size; simp at this; omega) (.cells #[.int .i64 1, .int .i64 n, .int .i64 0, .string ⟨#[]⟩] 29))
  clear hb HA
  dsimp only
  have hcv := lit_str (w1.alloc (.cells #[.int .i64 1, .int .i64 n, .int .i64 0, .string ⟨#[]⟩] 29)) 1 1 rfl (w1.heap.size + 1) (by simp)
  have hcv2 := lit_str ((w1.alloc (.cells #[.int .i64 1, .int .i64 n, .int .i64 0, .string ⟨#[]⟩] 29)).alloc (.cells #[.int .u8 1] 5)) x n hx (w1.heap.size + 1 + 1) (by simp)
  go_wp2
  go_ret
  refine ⟨ret_str h2, ?_⟩
  exact (HB1.out.alloc HB1.out.size _).alloc (by have := HB1.out.size; simp at this ⊢; omega) _

set_option maxHeartbeats 1000000 in
set_option maxRecDepth 100000 in
theorem one_2 (xk xn xc : Int) (xs : ByteArray) (n : Int) (hn : i64 n) (w : World)
    (HA : Hid (∀ W, Calls Tryd.prog 11 #[.agg #[.int .i64 xk, .int .i64 xn, .int .i64 xc, .string xs]] W (Val ⟨2, n, 0, ⟨#[]⟩⟩ W))) :
    Calls Tryd.prog 25 #[.agg #[.int .i64 xk, .int .i64 xn, .int .i64 xc, .string xs]] w (Str (2 :: Vm.num8 n) w) := by
  obtain ⟨T, hT⟩ : ∃ T, T = bstr (Vm.num8 n) := ⟨_, rfl⟩
  have H8 : Hid (∀ W, Calls Tryd.prog 37 #[.int .i64 n] W fun e w' => e = .returned (.string T) ∧ Below W.heap.size W w') := by rw [hT]; exact fun W => ref5_bytes8 n W hn
  have H2 : Hid (bstr [2] ++ T = bstr (2 :: Vm.num8 n)) := by show _ = _; rw [hT, bstr_append]; rfl
  have hs1 : (bstr [2]).size = 1 := bstr_size _
  have hs2 : T.size = 8 := by rw [hT, bstr_size, Vm.num8_length]
  clear hn hT
  go_enter Tryd.func25, Tryd.ntmps25
  go_wp2_with fail
  refine (HA.out _).mono ?_
  rintro e w1 ⟨rfl, hb⟩
  have HB1 := Lib.hid ((((Below.refl w.heap.size w).alloc (Nat.le_refl _) _).trans (hb.mono (by simp))).alloc (by have := hb.size; simp at this; omega) (.cells #[.int .i64 2, .int .i64 n, .int .i64 0, .string ⟨#[]⟩] 29))
  clear hb HA
  dsimp only
  have hcv := lit_str (w1.alloc (.cells #[.int .i64 2, .int .i64 n, .int .i64 0, .string ⟨#[]⟩] 29)) 2 2 rfl (w1.heap.size + 1) (by simp)
  go_wp2_with fail
  refine (H8.out _).mono ?_
  rintro e w2 ⟨rfl, hb⟩
  have HB2 := Lib.hid ((HB1.out.alloc HB1.out.size _).trans (hb.mono (by have := HB1.out.size; simp at this ⊢; omega)))
  clear hb H8 hcv
  go_wp2
  go_ret
  exact ⟨ret_str H2.out, HB2.out⟩

set_option maxHeartbeats 1000000 in
set_option maxRecDepth 100000 in
theorem one_4 (xk xn xc : Int) (xs : ByteArray) (as' : ByteArray) (w : World) (l : List UInt8)
    (HA : Hid (∀ W, Calls Tryd.prog 11 #[.agg #[.int .i64 xk, .int .i64 xn, .int .i64 xc, .string xs]] W (Val ⟨4, 0, 0, as'⟩ W))) (HP : Hid (l = 4 :: (Vm.esc0 as'.data.toList ++ [0, 1]))) (hz : as'.size ≤ 1000000) :
    Calls Tryd.prog 25 #[.agg #[.int .i64 xk, .int .i64 xn, .int .i64 xc, .string xs]] w (Str l w) := by
  have hs1 : (bstr [4]).size = 1 := bstr_size _
  go_enter Tryd.func25, Tryd.ntmps25
  go_wp2_with fail
  refine (HA.out _).mono ?_
  rintro e w1 ⟨rfl, hb⟩
  have HB1 := Lib.hid ((((Below.refl w.heap.size w).alloc (Nat.le_refl _) _).trans (hb.mono (by simp))).alloc (by have := hb.size; simp at this; omega) (.cells #[.int .i64 4, .int .i64 0, .int .i64 0, .string as'] 29))
  have HB2 := Lib.hid (HB1.out.alloc HB1.out.size (.cells #[.int .u8 4] 5))
  clear hb HA HB1
  dsimp only
  have hcv := lit_str (w1.alloc (.cells #[.int .i64 4, .int .i64 0, .int .i64 0, .string as'] 29)) 4 4 rfl (w1.heap.size + 1) (by simp)
  go_wp2_with fail
  clear hcv
  go_loop [4, 5] (fun sv i => ∃ (j : Nat) (S : ByteArray), j ≤ as'.size ∧ i = .int .i64 (j : Int) ∧ sv = .string S ∧ S.size ≤ 2 * j + 1 ∧ Hid (S = bstr (4 :: Vm.esc0 (as'.data.toList.take j)))) (fun _ i => as'.size - (Lib.intOf i).toNat)
  case atStart => exact ⟨0, _, Nat.zero_le _, rfl, rfl, by rw [hs1]; omega, rfl⟩
  case round =>
    obtain ⟨j, S, hj, rfl, rfl, hS, HS⟩ := hrel
    by_cases hjs : j < as'.size
    · obtain ⟨c, hc⟩ : ∃ c, as'[j] = c := ⟨_, rfl⟩
      have hcut := cut_one as' j hjs
      have hnx := take_next as' j hjs
      rw [hc] at hcut hnx
      have HNX := Lib.hid hnx
      have hone : (bstr [c]).size = 1 := bstr_size _
      have hci : as'[j].toNat = c.toNat := by rw [hc]
      by_cases h0 : c = 0
      · have q : ((c.toNat : Int) == 0) = true := by rw [h0]; rfl
        have HS2 : Hid (S ++ bstr [c] ++ ⟨#[255]⟩ = bstr (4 :: Vm.esc0 (as'.data.toList.take (j + 1)))) := by
          show _ = _
          rw [HS.out, HNX.out, Vm.esc0_snoc, if_pos h0, h0, show (⟨#[255]⟩ : ByteArray) = bstr [255] from rfl, bstr_append, bstr_append]; simp
        have hsz : (S ++ bstr [c]).size = S.size + 1 := by rw [ByteArray.size_append, hone]
        have hsz2 : (S ++ bstr [c] ++ ⟨#[255]⟩).size = S.size + 2 := by rw [ByteArray.size_append, hsz]; rfl
        clear h0 hnx hc
        generalize bstr [c] = X at *
        go_wp2
        go_round
        case rel => exact ⟨j + 1, _, by omega, by go_num, rfl, by rw [hsz2]; omega, HS2⟩
        case measure => simp [Lib.intOf]; omega
      · have q : ((c.toNat : Int) == 0) = false := by
          rw [beq_eq_false_iff_ne]; intro e; exact h0 (UInt8.toNat_inj.1 (by show c.toNat = 0; omega))
        have HS2 : Hid (S ++ bstr [c] = bstr (4 :: Vm.esc0 (as'.data.toList.take (j + 1)))) := by
          show _ = _
          rw [HS.out, HNX.out, Vm.esc0_snoc, if_neg h0, bstr_append]; simp
        have hsz2 : (S ++ bstr [c]).size = S.size + 1 := by rw [ByteArray.size_append, hone]
        clear h0 hnx hc
        generalize bstr [c] = X at *
        go_wp2
        go_round
        case rel => exact ⟨j + 1, _, by omega, by go_num, rfl, by rw [hsz2]; omega, HS2⟩
        case measure => simp [Lib.intOf]; omega
    · obtain rfl : j = as'.size := by omega
      have HF : Hid (S ++ ⟨#[0, 1]⟩ = bstr l) := by
        show _ = _
        rw [HP.out, HS.out, take_all, show (⟨#[0, 1]⟩ : ByteArray) = bstr [0, 1] from rfl, bstr_append]; simp
      clear HS HP
      go_wp2
      go_ret
      exact ⟨ret_str HF.out, HB2.out⟩

set_option maxHeartbeats 1000000 in
set_option maxRecDepth 100000 in
theorem one_5 (xk xn xc : Int) (xs : ByteArray) (as' : ByteArray) (w : World) (l : List UInt8)
    (HA : Hid (∀ W, Calls Tryd.prog 11 #[.agg #[.int .i64 xk, .int .i64 xn, .int .i64 xc, .string xs]] W (Val ⟨5, 0, 0, as'⟩ W))) (HP : Hid (l = 5 :: (Vm.esc0 as'.data.toList ++ [0, 1]))) (hz : as'.size ≤ 1000000) :
    Calls Tryd.prog 25 #[.agg #[.int .i64 xk, .int .i64 xn, .int .i64 xc, .string xs]] w (Str l w) := by
  have hs1 : (bstr [5]).size = 1 := bstr_size _
  go_enter Tryd.func25, Tryd.ntmps25
  go_wp2_with fail
  refine (HA.out _).mono ?_
  rintro e w1 ⟨rfl, hb⟩
  have HB1 := Lib.hid ((((Below.refl w.heap.size w).alloc (Nat.le_refl _) _).trans (hb.mono (by simp))).alloc (by have := hb.size; simp at this; omega) (.cells #[.int .i64 5, .int .i64 0, .int .i64 0, .string as'] 29))
  have HB2 := Lib.hid (HB1.out.alloc HB1.out.size (.cells #[.int .u8 5] 5))
  clear hb HA HB1
  dsimp only
  have hcv := lit_str (w1.alloc (.cells #[.int .i64 5, .int .i64 0, .int .i64 0, .string as'] 29)) 5 5 rfl (w1.heap.size + 1) (by simp)
  go_wp2_with fail
  clear hcv
  go_loop [4, 5] (fun sv i => ∃ (j : Nat) (S : ByteArray), j ≤ as'.size ∧ i = .int .i64 (j : Int) ∧ sv = .string S ∧ S.size ≤ 2 * j + 1 ∧ Hid (S = bstr (5 :: Vm.esc0 (as'.data.toList.take j)))) (fun _ i => as'.size - (Lib.intOf i).toNat)
  case atStart => exact ⟨0, _, Nat.zero_le _, rfl, rfl, by rw [hs1]; omega, rfl⟩
  case round =>
    obtain ⟨j, S, hj, rfl, rfl, hS, HS⟩ := hrel
    by_cases hjs : j < as'.size
    · obtain ⟨c, hc⟩ : ∃ c, as'[j] = c := ⟨_, rfl⟩
      have hcut := cut_one as' j hjs
      have hnx := take_next as' j hjs
      rw [hc] at hcut hnx
      have HNX := Lib.hid hnx
      have hone : (bstr [c]).size = 1 := bstr_size _
      have hci : as'[j].toNat = c.toNat := by rw [hc]
      by_cases h0 : c = 0
      · have q : ((c.toNat : Int) == 0) = true := by rw [h0]; rfl
        have HS2 : Hid (S ++ bstr [c] ++ ⟨#[255]⟩ = bstr (5 :: Vm.esc0 (as'.data.toList.take (j + 1)))) := by
          show _ = _
          rw [HS.out, HNX.out, Vm.esc0_snoc, if_pos h0, h0, show (⟨#[255]⟩ : ByteArray) = bstr [255] from rfl, bstr_append, bstr_append]; simp
        have hsz : (S ++ bstr [c]).size = S.size + 1 := by rw [ByteArray.size_append, hone]
        have hsz2 : (S ++ bstr [c] ++ ⟨#[255]⟩).size = S.size + 2 := by rw [ByteArray.size_append, hsz]; rfl
        clear h0 hnx hc
        generalize bstr [c] = X at *
        go_wp2
        go_round
        case rel => exact ⟨j + 1, _, by omega, by go_num, rfl, by rw [hsz2]; omega, HS2⟩
        case measure => simp [Lib.intOf]; omega
      · have q : ((c.toNat : Int) == 0) = false := by
          rw [beq_eq_false_iff_ne]; intro e; exact h0 (UInt8.toNat_inj.1 (by show c.toNat = 0; omega))
        have HS2 : Hid (S ++ bstr [c] = bstr (5 :: Vm.esc0 (as'.data.toList.take (j + 1)))) := by
          show _ = _
          rw [HS.out, HNX.out, Vm.esc0_snoc, if_neg h0, bstr_append]; simp
        have hsz2 : (S ++ bstr [c]).size = S.size + 1 := by rw [ByteArray.size_append, hone]
        clear h0 hnx hc
        generalize bstr [c] = X at *
        go_wp2
        go_round
        case rel => exact ⟨j + 1, _, by omega, by go_num, rfl, by rw [hsz2]; omega, HS2⟩
        case measure => simp [Lib.intOf]; omega
    · obtain rfl : j = as'.size := by omega
      have HF : Hid (S ++ ⟨#[0, 1]⟩ = bstr l) := by
        show _ = _
        rw [HP.out, HS.out, take_all, show (⟨#[0, 1]⟩ : ByteArray) = bstr [0, 1] from rfl, bstr_append]; simp
      clear HS HP
      go_wp2
      go_ret
      exact ⟨ret_str HF.out, HB2.out⟩

theorem lit_keep (w w2 : World) (x : UInt8) (y : Int) (hy : (x.toNat : Int) = y) (hb : Below (w.alloc (.cells #[.int .u8 y] 5)).drew.heap.size (w.alloc (.cells #[.int .u8 y] 5)).drew w2) :
    (convert 25 9 (.slice (some ⟨w.heap.size, 0, none⟩) 1 1)).run Tryd.prog w2 = .ok (.string (bstr [x])) w2 := by
  subst hy
  exact Yt.str (((Yt.of_own (own_lity w x 0 (Nat.zero_le _))).keep (bdr _)).keep hb)

set_option maxHeartbeats 1000000 in
set_option maxRecDepth 100000 in
theorem one_3 (xk xn xc : Int) (xs : ByteArray) (n sc : Int) (x : UInt8) (hx : (x.toNat : Int) = sc) (hn : i64 n) (w : World)
    (HA : Hid (∀ W, Calls Tryd.prog 11 #[.agg #[.int .i64 xk, .int .i64 xn, .int .i64 xc, .string xs]] W (Val ⟨3, n, sc, ⟨#[]⟩⟩ W))) :
    Calls Tryd.prog 25 #[.agg #[.int .i64 xk, .int .i64 xn, .int .i64 xc, .string xs]] w (Str (3 :: x :: Vm.num8 n) w) := by
  obtain ⟨T, hT⟩ : ∃ T, T = bstr (Vm.num8 n) := ⟨_, rfl⟩
  have H8 : Hid (∀ W, Calls Tryd.prog 37 #[.int .i64 n] W fun e w' => e = .returned (.string T) ∧ Below W.heap.size W w') := by rw [hT]; exact fun W => ref5_bytes8 n W hn
  have H2 : Hid (bstr [3] ++ bstr [x] ++ T = bstr (3 :: x :: Vm.num8 n)) := by show _ = _; rw [hT, bstr_append, bstr_append]; rfl
  have hs1 : (bstr [3]).size = 1 := bstr_size _
  have hs2 : T.size = 8 := by rw [hT, bstr_size, Vm.num8_length]
  have hs3 : (bstr [x]).size = 1 := bstr_size _
  have hs4 : (bstr [3] ++ bstr [x]).size = 2 := by rw [ByteArray.size_append, hs1, hs3]
  have hm : sc % 256 = sc := by have := x.toNat_lt; omega
  have HX := Lib.hid hx
  clear hn hT hx
  go_enter Tryd.func25, Tryd.ntmps25
  go_wp2_with fail
  refine (HA.out _).mono ?_
  rintro e w1 ⟨rfl, hb⟩
  have HB1 := Lib.hid ((((Below.refl w.heap.size w).alloc (Nat.le_refl _) _).trans (hb.mono (by simp))).alloc (by have := hb.size; simp at this; omega) (.cells #[.int .i64 3, .int .i64 n, .int .i64 sc, .string ⟨#[]⟩] 29))
  clear hb HA
  dsimp only
  have hcv := lit_str (w1.alloc (.cells #[.int .i64 3, .int .i64 n, .int .i64 sc, .string ⟨#[]⟩] 29)) 3 3 rfl (w1.heap.size + 1) (by simp)
  go_upto_region 9 with (fail)
  clear hcv
  have HB2 := Lib.hid (HB1.out.alloc HB1.out.size (.cells #[.int .u8 3] 5))
  have hV := (Bx.new w1 3 n sc ⟨#[]⟩ 29).alloc (.cells #[.int .u8 3] 5)
  clear HB1
  revert HB2 hV
  generalize (w1.alloc (.cells #[.int .i64 3, .int .i64 n, .int .i64 sc, .string ⟨#[]⟩] 29)).alloc (.cells #[.int .u8 3] 5) = W0
  intro HB2 hV
  have VX := Lib.hid hV
  have d1 := hV.c1; have d2 := hV.c2; have dl := hV.lt
  clear hV
  have hcA : (convert 25 9 (.slice (some ⟨W0.heap.size, 0, none⟩) 1 1)).run Tryd.prog (W0.alloc (.cells #[.int .u8 sc] 5)).drew = .ok (.string (bstr [x])) (W0.alloc (.cells #[.int .u8 sc] 5)).drew := by
    rw [← HX.out]
    exact Yt.str ((Yt.of_own (own_lity W0 x 0 (Nat.zero_le _))).keep ⟨rfl, rfl, rfl, Nat.le_refl _, fun _ _ => rfl⟩)
  have hw8 : IntKind.u8.wrap sc = sc := by rw [IntKind.wrap_u8]; exact hm
  clear hm
  go_region_with (go_at_call 37; refine (H8.out _).mono ?_; rintro e w2 ⟨rfl, hb⟩; have hk := Lib.hid (show Bx w1.heap.size 3 n sc ⟨#[]⟩ w2 by first | exact (VX.out.keep (bdr _)).keep hb | exact ((VX.out.alloc _).keep (bdr _)).keep hb); have HB3 := Lib.hid (show Below w.heap.size w w2 by first | exact (HB2.out.trans ((bdr _).mono HB2.out.size)).trans (hb.mono HB2.out.size) | exact ((HB2.out.alloc HB2.out.size _).trans ((bdr _).mono (HB2.out.alloc HB2.out.size _).size)).trans (hb.mono (HB2.out.alloc HB2.out.size _).size)); have k1 := hk.out.c1; have k2 := hk.out.c2; have kl := hk.out.lt; have hcB := lit_str w2 x sc HX.out w2.heap.size rfl; try (have hcC := lit_keep W0 w2 x sc HX.out hb); clear hb)
  all_goals
    go_wp2
    go_ret
    refine ⟨ret_str H2.out, ?_⟩
    first | exact HB3.out | exact HB3.out.alloc HB3.out.size _
end Go.Proofs.YtamclbagafcmgaaDoor
