/- math/bits.Div64: the quotient and the remainder. -/
import Derived.Test.YtfnnhhhkdfgefaaGreatDoorDivBits
import Derived.Test.YtfnnhhhkdfgefaaGreatDoorShelf
import Derived.Test.YtfnnhhhkdfgefaaGreatDoorDecKit
import Derived.Deep.QuietTactic
import Derived.BigQuiet
import Derived.Deep.DeepCutAuto
import Derived.Deep.CutBlock
namespace Go.Proofs.YtfnnhhhkdfgefaaGreatDoor
open Go.RowKit

theorem ret2u {a b c d : Int} (h : a = c) (h2 : b = d) : Ending.returned (.tuple #[.int .u64 a, .int .u64 b]) = Ending.returned (.tuple #[.int .u64 c, .int .u64 d]) := by rw [h, h2]
set_option maxRecDepth 100000 in
set_option maxHeartbeats 1000000 in
theorem div64_big (h l y : Nat) (w : World) (h1 : 1 ≤ h) (hy : h < y) (hy64 : y ≤ 18446744073709551615) (hl : l ≤ 18446744073709551615) :
    Calls Tryz.prog 128 #[.int .u64 (h : Int), .int .u64 (l : Int), .int .u64 (y : Int)] w fun e w' => e = .returned (.tuple #[.int .u64 (((h * 18446744073709551616 + l) / y : Nat) : Int), .int .u64 (((h * 18446744073709551616 + l) % y : Nat) : Int)]) ∧ ∃ n, w' = w.drewN n := by
  obtain ⟨s, hs, es, hn0, hn1⟩ := Dv.shift_spec y (by omega) hy64
  have ES := Lib.hid es
  clear es
  go_enter Tryz.func128, Tryz.ntmps128
  go_wp2_with fail
  refine (Tryz.bits_LeadingZeros64 _ _ (by omega) (by omega)).mono ?_
  rintro e w' ⟨rfl, rfl⟩
  rw [Int.toNat_natCast, ES.out]
  go_upto_region 9 with (fail)
  obtain ⟨eU, hU, eN⟩ := Dv.upper h l y s hs hy hl hn1
  obtain ⟨Y, hY⟩ : ∃ Y : Nat, Y = y * 2 ^ s := ⟨_, rfl⟩
  have eY : IntKind.u64.wrap ((y : Int) * 2 ^ s) = (Y : Int) := by
    rw [Dv.mul_pow, Dv.wrap_lt _ hn1, hY]
  rw [eY]
  rw [← hY] at hn0 hn1 hU
  have HY := Lib.hid hY; have HN := Lib.hid eN; have HU := Lib.hid eU
  clear eY hY eN eU
  go_upto_region 12 with (fail)
  rw [HU.out, Dv.and32 Y hn1]
  obtain ⟨y1, hy1⟩ : ∃ y1 : Nat, y1 = Y / 4294967296 := ⟨_, rfl⟩
  obtain ⟨y0, hy0⟩ : ∃ y0 : Nat, y0 = Y % 4294967296 := ⟨_, rfl⟩
  have ey1 : (Y : Int) / 4294967296 = (y1 : Int) := by omega
  rw [ey1, ← hy0]
  have k1 : 2147483648 ≤ y1 := by omega
  have k1' : y1 < 4294967296 := by omega
  have k0 : y0 < 4294967296 := by omega
  have hYe : Y = y1 * 4294967296 + y0 := by omega
  have HYE := Lib.hid hYe
  clear hYe hy1 hy0 ey1 HU
  revert hU HN
  generalize h * 2 ^ s + l / 2 ^ (64 - s) = U
  intro hU HN
  go_upto_region 13 with (fail)
  obtain ⟨L, hL⟩ : ∃ L : Nat, L = l * 2 ^ s % 18446744073709551616 := ⟨_, rfl⟩
  have eL : IntKind.u64.wrap ((l : Int) * 2 ^ s) = (L : Int) := by rw [Dv.mul_pow, Dv.wrap_nat, hL]
  rw [eL]
  have hL1 : L < 18446744073709551616 := by omega
  have HN2 : Hid ((h * 18446744073709551616 + l) * 2 ^ s = U * 18446744073709551616 + L) := by rw [hL]; exact HN.out
  clear hL HN eL
  go_upto_region 15 with (fail)
  rw [Dv.and32 L hL1]
  obtain ⟨u1, hu1⟩ : ∃ u1 : Nat, u1 = L / 4294967296 := ⟨_, rfl⟩
  obtain ⟨u0, hu0⟩ : ∃ u0 : Nat, u0 = L % 4294967296 := ⟨_, rfl⟩
  have eu1 : (L : Int) / 4294967296 = (u1 : Int) := by omega
  rw [eu1, ← hu0]
  have j1 : u1 < 4294967296 := by omega
  have j0 : u0 < 4294967296 := by omega
  have hLe : L = u1 * 4294967296 + u0 := by omega
  have HLE := Lib.hid hLe
  clear hLe hu1 hu0 eu1
  rw [HYE.out] at hU
  obtain ⟨hi, hr⟩ := Dv.start U u1 y1 y0 k1 k0 hU j1
  have HI := Lib.hid hi
  have hqy : U / y1 * y1 ≤ U := Nat.div_mul_le_self _ _
  have hq2 := hi.2.2
  clear hi
  go_upto_region 16 with (fail)
  have eq1 : (U : Int) / (y1 : Int) = ((U / y1 : Nat) : Int) := rfl
  rw [eq1]
  clear eq1
  revert HI hr hqy hq2
  generalize U / y1 = q
  intro hr HI hqy hq2
  rw [Dv.wrap_lt q (by omega)]
  go_upto_block 0 with (fail)
  have er : (U : Int) - (q : Int) * (y1 : Int) = ((U - q * y1 : Nat) : Int) := by
    rw [Int.natCast_sub hqy, Int.natCast_mul]
  rw [er]
  clear er
  have HUY := Lib.hid hU
  have K := Lib.hid (And.intro k1 (And.intro k0 (And.intro j1 j0)))
  have i1 : (2147483648 : Int) ≤ (y1 : Int) := by omega
  have i2 : (y1 : Int) < 4294967296 := by omega
  have i3 : (y0 : Int) < 4294967296 := by omega
  have i4 : (u1 : Int) < 4294967296 := by omega
  have i5 : (u0 : Int) < 4294967296 := by omega
  have i6 : ((U - q * y1 : Nat) : Int) < 4294967296 := by omega
  have i7 : (q : Int) ≤ 4294967297 := by omega
  clear hU k1 k1' k0 j1 j0 hq2 hr hqy hy64 hl
  go_cut [15, 16] (fun a b wx => a = .int .u64 ((Dv.quo U u1 y1 y0 : Nat) : Int) ∧ wx = w')
  case first =>
    go_wp2_with fail
    go_loop [15, 16] (fun a b => ∃ q r : Nat, a = .int .u64 (q : Int) ∧ b = .int .u64 (r : Int) ∧ (r : Int) < 4294967296 ∧ (q : Int) ≤ 4294967297 ∧ Hid (Dv.Inv U u1 y1 y0 q r)) (fun a _ => (Lib.intOf a).toNat)
    case atStart => exact ⟨q, _, rfl, rfl, i6, i7, HI⟩
    case round =>
      obtain ⟨q, r, rfl, rfl, hr4, hq4, HV⟩ := hrel
      have hp : (q : Int) * (y0 : Int) ≤ 18446744073709551615 := by
        have := Dv.prod_le q y0 (by omega) K.out.2.1
        omega
      have hp0 : 0 ≤ (q : Int) * (y0 : Int) := Int.mul_nonneg (by omega) (by omega)
      by_cases hb : (4294967296 : Int) ≤ (q : Int)
      · obtain ⟨hv, hq1⟩ := Dv.less U u1 y1 y0 q r HV.out HUY.out K.out.2.2.1 K.out.1 (.inl (by omega))
        have HV2 := Lib.hid hv
        clear hv
        go_upto_region 20 with (fail)
        have er : (r : Int) + (y1 : Int) = ((r + y1 : Nat) : Int) := by omega
        have eq : (q : Int) - 1 = ((q - 1 : Nat) : Int) := by omega
        rw [er, eq]
        have hqd : q - 1 < q := by omega
        have hq5 : ((q - 1 : Nat) : Int) ≤ 4294967297 := by omega
        clear er eq hq1
        revert HV2 hqd hq5
        generalize r + y1 = R
        generalize q - 1 = q'
        intro HV2 hqd hq5
        by_cases hR : (4294967296 : Int) ≤ (R : Int)
        · have HD := Lib.hid (Dv.done' U u1 y1 y0 q' R HV2.out HUY.out K.out.2.1 (by omega))
          go_wp2
          go_meet
          exact ⟨by rw [Dv.quo, ← HD.out], rfl⟩
        · go_wp2
          go_round
          case rel => exact ⟨q', R, rfl, rfl, by omega, by omega, HV2⟩
          case measure => simp [Lib.intOf]; omega
      · by_cases hc : (4294967296 : Int) * (r : Int) + (u1 : Int) < (q : Int) * (y0 : Int)
        · obtain ⟨hv, hq1⟩ := Dv.less U u1 y1 y0 q r HV.out HUY.out K.out.2.2.1 K.out.1 (.inr (by omega))
          have HV2 := Lib.hid hv
          clear hv
          go_upto_region 20 with (fail)
          have er : (r : Int) + (y1 : Int) = ((r + y1 : Nat) : Int) := by omega
          have eq : (q : Int) - 1 = ((q - 1 : Nat) : Int) := by omega
          rw [er, eq]
          have hqd : q - 1 < q := by omega
          have hq5 : ((q - 1 : Nat) : Int) ≤ 4294967297 := by omega
          clear er eq hq1
          revert HV2 hqd hq5
          generalize r + y1 = R
          generalize q - 1 = q'
          intro HV2 hqd hq5
          by_cases hR : (4294967296 : Int) ≤ (R : Int)
          · have HD := Lib.hid (Dv.done' U u1 y1 y0 q' R HV2.out HUY.out K.out.2.1 (by omega))
            go_wp2
            go_meet
            exact ⟨by rw [Dv.quo, ← HD.out], rfl⟩
          · go_wp2
            go_round
            case rel => exact ⟨q', R, rfl, rfl, by omega, by omega, HV2⟩
            case measure => simp [Lib.intOf]; omega
        · have HD := Lib.hid (Dv.done U u1 y1 y0 q r HV.out HUY.out (by omega))
          go_wp2
          go_meet
          exact ⟨by rw [Dv.quo, ← HD.out], rfl⟩
  case rest =>
    obtain ⟨rfl, rfl⟩ := hcut
    have hYe := HYE.out
    have hYp : 0 < Y := by omega
    obtain ⟨M, hM⟩ : ∃ M : Nat, M = (U * 4294967296 + u1) % Y := ⟨_, rfl⟩
    obtain ⟨Q1, hQ⟩ : ∃ Q1 : Nat, Q1 = Dv.quo U u1 y1 y0 := ⟨_, rfl⟩
    have hml : M < Y := by rw [hM]; exact Nat.mod_lt _ hYp
    have hmd : Q1 * Y + M = U * 4294967296 + u1 := by
      rw [hM, hQ]; unfold Dv.quo; rw [← hYe, Nat.mul_comm]; exact Nat.div_add_mod _ _
    have HW := Lib.hid (Dv.whole h l y s Y U L y1 y0 u1 u0 M Q1 HY.out HYE.out HN2.out HLE.out K.out.1 K.out.2.2.2 hM hQ)
    have hQ1 : Q1 < 4294967296 := by rw [hQ]; exact Dv.quo_lt U u1 y1 y0 HUY.out K.out.2.2.1
    rw [← hQ]
    clear hM hQ
    have HM := Lib.hid hmd
    have iQ1 : (Q1 : Int) < 4294967296 := by omega
    have HUM : Hid (M < y1 * 4294967296 + y0) := by rw [hYe] at hml; exact hml
    have hM64 : M < 18446744073709551616 := by omega
    have iM : (M : Int) < 18446744073709551616 := by omega
    clear hYe hmd hQ1 HN2 HLE HI
    go_upto_region 22 with (fail)
    rw [Dv.wrap_rem U u1 Q1 Y M HM.out hM64]
    obtain ⟨hi, hr⟩ := Dv.start M u0 y1 y0 K.out.1 K.out.2.1 HUM.out K.out.2.2.2
    have HI := Lib.hid hi
    have hqy : M / y1 * y1 ≤ M := Nat.div_mul_le_self _ _
    have hq2 := hi.2.2
    clear hi
    go_upto_region 23 with (fail)
    have eq1 : (M : Int) / (y1 : Int) = ((M / y1 : Nat) : Int) := rfl
    rw [eq1]
    clear eq1
    revert HI hr hqy hq2
    generalize M / y1 = q
    intro hr HI hqy hq2
    rw [Dv.wrap_lt q (by omega)]
    go_upto_block 2 with (fail)
    have er : (M : Int) - (q : Int) * (y1 : Int) = ((M - q * y1 : Nat) : Int) := by
      rw [Int.natCast_sub hqy, Int.natCast_mul]
    rw [er]
    clear er
    have i6 : ((M - q * y1 : Nat) : Int) < 4294967296 := by omega
    have i7 : (q : Int) ≤ 4294967297 := by omega
    clear hq2 hr hqy hml hM64
    go_cut [18, 16] (fun a b wx => a = .int .u64 ((Dv.quo M u0 y1 y0 : Nat) : Int) ∧ wx = wc)
    case first =>
      go_wp2_with fail
      go_loop [18, 16] (fun a b => ∃ q r : Nat, a = .int .u64 (q : Int) ∧ b = .int .u64 (r : Int) ∧ (r : Int) < 4294967296 ∧ (q : Int) ≤ 4294967297 ∧ Hid (Dv.Inv M u0 y1 y0 q r)) (fun a _ => (Lib.intOf a).toNat)
      case atStart => exact ⟨q, _, rfl, rfl, i6, i7, HI⟩
      case round =>
        obtain ⟨q, r, rfl, rfl, hr4, hq4, HV⟩ := hrel
        have hp : (q : Int) * (y0 : Int) ≤ 18446744073709551615 := by
          have := Dv.prod_le q y0 (by omega) K.out.2.1
          omega
        have hp0 : 0 ≤ (q : Int) * (y0 : Int) := Int.mul_nonneg (by omega) (by omega)
        by_cases hb : (4294967296 : Int) ≤ (q : Int)
        · obtain ⟨hv, hq1⟩ := Dv.less M u0 y1 y0 q r HV.out HUM.out K.out.2.2.2 K.out.1 (.inl (by omega))
          have HV2 := Lib.hid hv
          clear hv
          go_upto_region 27 with (fail)
          have er : (r : Int) + (y1 : Int) = ((r + y1 : Nat) : Int) := by omega
          have eq : (q : Int) - 1 = ((q - 1 : Nat) : Int) := by omega
          rw [er, eq]
          have hqd : q - 1 < q := by omega
          have hq5 : ((q - 1 : Nat) : Int) ≤ 4294967297 := by omega
          clear er eq hq1
          revert HV2 hqd hq5
          generalize r + y1 = R
          generalize q - 1 = q'
          intro HV2 hqd hq5
          by_cases hR : (4294967296 : Int) ≤ (R : Int)
          · have HD := Lib.hid (Dv.done' M u0 y1 y0 q' R HV2.out HUM.out K.out.2.1 (by omega))
            go_wp2
            go_meet
            exact ⟨by rw [Dv.quo, ← HD.out], rfl⟩
          · go_wp2
            go_round
            case rel => exact ⟨q', R, rfl, rfl, by omega, by omega, HV2⟩
            case measure => simp [Lib.intOf]; omega
        · by_cases hc : (4294967296 : Int) * (r : Int) + (u0 : Int) < (q : Int) * (y0 : Int)
          · obtain ⟨hv, hq1⟩ := Dv.less M u0 y1 y0 q r HV.out HUM.out K.out.2.2.2 K.out.1 (.inr (by omega))
            have HV2 := Lib.hid hv
            clear hv
            go_upto_region 27 with (fail)
            have er : (r : Int) + (y1 : Int) = ((r + y1 : Nat) : Int) := by omega
            have eq : (q : Int) - 1 = ((q - 1 : Nat) : Int) := by omega
            rw [er, eq]
            have hqd : q - 1 < q := by omega
            have hq5 : ((q - 1 : Nat) : Int) ≤ 4294967297 := by omega
            clear er eq hq1
            revert HV2 hqd hq5
            generalize r + y1 = R
            generalize q - 1 = q'
            intro HV2 hqd hq5
            by_cases hR : (4294967296 : Int) ≤ (R : Int)
            · have HD := Lib.hid (Dv.done' M u0 y1 y0 q' R HV2.out HUM.out K.out.2.1 (by omega))
              go_wp2
              go_meet
              exact ⟨by rw [Dv.quo, ← HD.out], rfl⟩
            · go_wp2
              go_round
              case rel => exact ⟨q', R, rfl, rfl, by omega, by omega, HV2⟩
              case measure => simp [Lib.intOf]; omega
          · have HD := Lib.hid (Dv.done M u0 y1 y0 q r HV.out HUM.out (by omega))
            go_wp2
            go_meet
            exact ⟨by rw [Dv.quo, ← HD.out], rfl⟩
    case rest =>
      obtain ⟨rfl, rfl⟩ := hcut
      have hYe := HYE.out
      have hYp : 0 < Y := by omega
      have hq0 : Dv.quo M u0 y1 y0 < 4294967296 := Dv.quo_lt M u0 y1 y0 HUM.out K.out.2.2.2
      obtain ⟨Q0, hQ⟩ : ∃ Q0 : Nat, Q0 = Dv.quo M u0 y1 y0 := ⟨_, rfl⟩
      obtain ⟨R, hR⟩ : ∃ R : Nat, R = (M * 4294967296 + u0) % Y := ⟨_, rfl⟩
      have hmd : Q0 * Y + R = M * 4294967296 + u0 := by
        rw [hR, hQ]; unfold Dv.quo; rw [← hYe, Nat.mul_comm]; exact Nat.div_add_mod _ _
      have hRY : R < Y := by rw [hR]; exact Nat.mod_lt _ hYp
      have HW2 : Hid ((h * 18446744073709551616 + l) / y = Q1 * 4294967296 + Q0 ∧ (h * 18446744073709551616 + l) % y = R / 2 ^ s) := by rw [hR, hQ]; exact HW.out
      rw [← hQ] at hq0 ⊢
      have HM2 := Lib.hid hmd
      have iR : (R : Int) < 18446744073709551616 := by omega
      have iQ0 : (Q0 : Int) < 4294967296 := by omega
      have hR64 : R < 18446744073709551616 := by omega
      have HER := Lib.hid (Dv.wrap_rem M u0 Q0 Y R hmd hR64)
      clear hYe hQ hR hmd hRY hq0 HW HYE HI
      go_wp2_with fail
      go_ret2
      refine ⟨?_, 0, rfl⟩
      rw [HW2.out.1, HW2.out.2]
      rw [HER.out, Dv.div_pow]
      exact ret2u (by omega) rfl
set_option maxHeartbeats 400000 in
theorem div64_small (l y : Nat) (w : World) (hy : 0 < y) (hy64 : y ≤ 18446744073709551615) (hl : l ≤ 18446744073709551615) :
    Calls Tryz.prog 128 #[.int .u64 0, .int .u64 (l : Int), .int .u64 (y : Int)] w fun e w' => e = .returned (.tuple #[.int .u64 ((l / y : Nat) : Int), .int .u64 ((l % y : Nat) : Int)]) ∧ ∃ n, w' = w.drewN n := by
  have i1 : (1 : Int) ≤ (y : Int) := by omega
  have q0 : ((y : Int) == 0) = false := by simp; omega
  have q1 : decide ((y : Int) ≤ 0) = false := by simp; omega
  go_enter Tryz.func128, Tryz.ntmps128
  go_wp2_with fail
  go_quiet (fail)
  go_wp2
  go_ret2
  refine ⟨?_, _, rfl⟩
  exact ret2u (by rw [show (l : Int) / (y : Int) = ((l / y : Nat) : Int) from rfl, Dv.wrap_lt _ (Nat.lt_of_le_of_lt (Nat.div_le_self _ _) (by omega))]) rfl
/-- the quotient and the remainder of a number of 128 bits whose upper part is less than the divisor -/
theorem div64 (h l y : Nat) (w : World) (hy : h < y) (hy64 : y ≤ 18446744073709551615) (hl : l ≤ 18446744073709551615) :
    Calls Tryz.prog 128 #[.int .u64 (h : Int), .int .u64 (l : Int), .int .u64 (y : Int)] w fun e w' => e = .returned (.tuple #[.int .u64 (((h * 18446744073709551616 + l) / y : Nat) : Int), .int .u64 (((h * 18446744073709551616 + l) % y : Nat) : Int)]) ∧ ∃ n, w' = w.drewN n := by
  by_cases h0 : h = 0
  · subst h0
    rw [Nat.zero_mul, Nat.zero_add]
    exact div64_small l y w hy hy64 hl
  · exact div64_big h l y w (by omega) hy hy64 hl
end Go.Proofs.YtfnnhhhkdfgefaaGreatDoor
