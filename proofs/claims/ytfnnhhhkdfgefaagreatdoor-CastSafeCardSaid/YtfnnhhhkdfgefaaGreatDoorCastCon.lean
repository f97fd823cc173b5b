/- What the laws of layer 4 take of package cast: its contracts, as one bundle; first: what must be answered ahead of everything else. -/
import Derived.Test.YtfnnhhhkdfgefaaGreatDoorCastRef3
import Derived.Test.YtfnnhhhkdfgefaaGreatDoorCastRef1b
import Derived.Test.YtfnnhhhkdfgefaaGreatDoorValFrame
namespace Go.Proofs.YtfnnhhhkdfgefaaGreatDoor
open Go.RowKit

structure CastCon : Prop where
  cast : ∀ (c : Vm.Cl) (k s : Int) (w : World) (_he : EnvV w) (_hn : i64 c.n) (_hz : c.s.size ≤ maxLen), Calls Tryz.prog 8 #[.agg #[.int .i64 c.k, .int .i64 c.n, .int .i64 c.sc, .string c.s], .agg #[.int .i64 k, .int .i64 s]] w (CastA (Vm.cast c k s) w)
  safe : ∀ (k s l t : Int) (w : World) (_he : EnvV w), Calls Tryz.prog 11 #[.agg #[.int .i64 k, .int .i64 s], .agg #[.int .i64 l, .int .i64 t]] w (Says (Vm.safe k s l t) w)
  fits : ∀ (k s l t : Int) (w : World) (_he : EnvV w), Calls Tryz.prog 13 #[.agg #[.int .i64 k, .int .i64 s], .agg #[.int .i64 l, .int .i64 t]] w (TypB (Vm.fits k s l t) w)

theorem text_right (s : ByteArray) (h1 : s.size ≤ 200) (h2 : ∀ c ∈ s.data.toList, c.toNat < 128) : Vm.rightB ⟨4, 0, 0, s⟩ = true := by
  have h := Vm.valid_ascii _ h2
  unfold Vm.rightB
  simp [h, h1]
theorem c_one : Vm.cast ⟨4, 0, 0, ⟨#[49, 46, 50, 53]⟩⟩ 3 1 = (⟨3, 13, 1, ⟨#[]⟩⟩, 0) := by
  rw [Vm.cast_text 3 1 (text_right _ (by decide) (by decide)) (by decide) (by decide), Vm.castR_text, if_neg (by decide), if_pos (.inr rfl)]
  decide +kernel
theorem c_two : Vm.cast ⟨3, 25, 1, ⟨#[]⟩⟩ 2 0 = (⟨2, 3, 0, ⟨#[]⟩⟩, 0) := by decide +kernel
theorem c_three : Vm.cast ⟨4, 0, 0, ⟨#[120]⟩⟩ 1 0 = (Vm.nil, 40) := by
  rw [Vm.cast_text 1 0 (text_right _ (by decide) (by decide)) (by decide) (by decide), Vm.castR_text, if_pos rfl]
  decide +kernel
theorem c_fits : Vm.fits 2 0 3 2 = ((3, 2), true) := by decide
theorem c_safe : Vm.safe 4 0 5 0 = true := by decide

set_option maxRecDepth 100000 in
set_option maxHeartbeats 4000000 in
theorem first4_true (V : CastCon) (w : World) (he : EnvV w) : Calls Tryz.prog 7 #[] w (Says true w) := by
  have HE := Lib.hid he
  clear he
  have z1 : (⟨#[49, 46, 50, 53]⟩ : ByteArray).size ≤ maxLen := by decide
  have z0 : (⟨#[]⟩ : ByteArray).size ≤ maxLen := Nat.zero_le _
  have z2 : (⟨#[120]⟩ : ByteArray).size ≤ maxLen := by decide
  have heq := val_eql 3 13 1 ⟨#[]⟩ 3 13 1 ⟨#[]⟩
  rw [eqB_self] at heq
  go_enter Tryz.func7, Tryz.ntmps7
  go_wp2_with fail
  refine (V.cast ⟨4, 0, 0, ⟨#[49, 46, 50, 53]⟩⟩ 3 1 _ HE.out Vm.i64_0 z1).mono ?_
  rintro e w1 ⟨rfl, hb⟩
  rw [c_one]
  have A1 := Lib.hid (Bx.new w1 3 13 1 ⟨#[]⟩ 24)
  have hb2 := hb.alloc hb.size (.cells #[.int .i64 3, .int .i64 13, .int .i64 1, .string ⟨#[]⟩] 24)
  have HB1 := Lib.hid hb2
  have HE1 := Lib.hid (HE.out.keep hb2)
  clear hb hb2 HE
  dsimp only
  go_wp2_with fail
  refine (V.cast ⟨3, 25, 1, ⟨#[]⟩⟩ 2 0 _ HE1.out (by unfold i64; decide) z0).mono ?_
  rintro e w2 ⟨rfl, hb⟩
  rw [c_two]
  have B2 := Lib.hid (Bx.new w2 2 3 0 ⟨#[]⟩ 24)
  have hb2 := hb.alloc hb.size (.cells #[.int .i64 2, .int .i64 3, .int .i64 0, .string ⟨#[]⟩] 24)
  have HB2 := Lib.hid (HB1.out.trans (hb2.mono HB1.out.size))
  have HE2 := Lib.hid (HE1.out.keep hb2)
  have A2 := Lib.hid (A1.out.keep hb2)
  clear hb hb2 HE1 HB1 A1
  dsimp only
  go_wp2_with fail
  refine (V.cast ⟨4, 0, 0, ⟨#[120]⟩⟩ 1 0 _ HE2.out Vm.i64_0 z2).mono ?_
  rintro e w3 ⟨rfl, hb⟩
  rw [c_three]
  have hb3 := hb.alloc hb.size (.cells #[.int .i64 0, .int .i64 0, .int .i64 0, .string ⟨#[]⟩] 24)
  have HB3 := Lib.hid (HB2.out.trans (hb3.mono HB2.out.size))
  have HE3 := Lib.hid (HE2.out.keep hb3)
  have A3 := Lib.hid (A2.out.keep hb3); have B3 := Lib.hid (B2.out.keep hb3)
  clear hb hb3 HE2 HB2 A2 B2
  dsimp only [Vm.nil]
  go_wp2_with fail
  refine (V.fits 2 0 3 2 _ HE3.out).mono ?_
  rintro e w4 ⟨rfl, hb⟩
  rw [c_fits]
  have C4 := Lib.hid (Tx.new w4 3 2 26)
  have hb2 := hb.alloc hb.size (.cells #[.int .i64 3, .int .i64 2] 26)
  have HB4 := Lib.hid (HB3.out.trans (hb2.mono HB3.out.size))
  have HE4 := Lib.hid (HE3.out.keep hb2)
  have A4 := Lib.hid (A3.out.keep hb2); have B4 := Lib.hid (B3.out.keep hb2)
  clear hb hb2 HE3 HB3 A3 B3
  have a0 := A4.out.c0; have a1 := A4.out.c1; have a2 := A4.out.c2; have a3 := A4.out.c3
  have b1 := B4.out.c1
  have c1 := C4.out.c1
  dsimp only
  go_wp2_with fail
  refine (V.safe 4 0 5 0 _ HE4.out).mono ?_
  rintro e w5 ⟨rfl, hb⟩
  rw [c_safe]
  have HB5 := Lib.hid (HB4.out.trans (hb.mono HB4.out.size))
  clear hb HE4 HB4
  go_wp2
  go_ret
  exact Says.mk (by first | rfl | decide) HB5.out
end Go.Proofs.YtfnnhhhkdfgefaaGreatDoor
