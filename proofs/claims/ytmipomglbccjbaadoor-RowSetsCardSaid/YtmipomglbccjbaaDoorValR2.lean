/- The reference of layer 3: utf. -/
import Derived.Test.YtmipomglbccjbaaDoorValR1
namespace Go.Proofs.YtmipomglbccjbaaDoor
open Go.RowKit

set_option maxHeartbeats 4000000 in
set_option maxRecDepth 100000 in
theorem ref3_utf (s : ByteArray) (w : World) (hz : s.size ≤ 1000000) : Calls Tryd.prog 48 #[.string s] w fun e w' => e = .returned (.bool (Lib.validD s.data.toList)) ∧ w = w' := by
  go_enter Tryd.func48, Tryd.ntmps48
  go_wp2_with fail
  go_loop [3] (fun i => ∃ j : Nat, j ≤ s.size ∧ i = .int .i64 (j : Int) ∧ Hid (Lib.validD (s.data.toList.drop j) = Lib.validD s.data.toList)) (fun i => s.size - (Lib.intOf i).toNat)
  case atStart => exact ⟨0, Nat.zero_le _, rfl, rfl⟩
  case round =>
    obtain ⟨j, hjs, rfl, HV⟩ := hrel
    by_cases hj : j < s.size
    · obtain ⟨b0, hb0⟩ : ∃ b0 : Nat, s[j].toNat = b0 := ⟨_, rfl⟩
      have hb256 : b0 < 256 := by rw [← hb0]; exact UInt8.toNat_lt _
      by_cases c0 : b0 < 128
      · have hu : Lib.validD (s.data.toList.drop (j + 1)) = Lib.validD s.data.toList := by
          rw [← HV.out, Um.u_at s j hj, Um.at_get s j hj, hb0]
          simp [Um.uN, c0, Um.nx_some]
        have HV2 := Lib.hid hu
        clear hu HV
        go_wp2_with fail
        go_loop [7, 8] (fun x k => k = .int .i64 1 ∧ x = .int .i64 (b0 : Int)) (fun _ _ => 0)
        case atStart => exact ⟨rfl, rfl⟩
        case round =>
          obtain ⟨rfl, rfl⟩ := hrel
          go_wp2
          go_round
          case rel => exact ⟨j + 1, by omega, by go_num, HV2⟩
          case measure => simp [Lib.intOf]; omega
      · by_cases c1 : b0 < 192
        · have hf : Lib.validD s.data.toList = false := by
            rw [← HV.out, Um.u_at s j hj, Um.at_get s j hj, hb0]
            simp [Um.uN, c0, c1, Um.nx_none]
          have HF := Lib.hid hf
          clear hf HV
          go_wp2
          go_ret
          exact ⟨ret_bool HF.out.symm, rfl⟩
        · by_cases c2 : b0 < 224
          · skip
            have hx0 : (b0 : Int) - 192 = ((b0 - 192 : Nat) : Int) := by omega
            by_cases hs : s.size - j < 2
            · have hf : Lib.validD s.data.toList = false := by rw [← HV.out, Um.u_at s j hj, Um.u_short1 _ _ _ _ _ (by rw [Um.at_get s j hj, hb0]; omega) hs, Um.nx_none]
              have HF := Lib.hid hf
              clear hf HV
              go_wp2
              go_ret
              exact ⟨ret_bool HF.out.symm, rfl⟩
            · have hs2 : j + 1 < s.size := by omega
              obtain ⟨x0, hxx⟩ : ∃ x0, b0 - 192 = x0 := ⟨_, rfl⟩
              have hx31 : x0 ≤ 31 := by omega
              have hcl : Um.at_ s j = b0 := by rw [Um.at_get s j hj, hb0]
              have HCL := Lib.hid hcl
              have HXX := Lib.hid hxx
              have hxi : (b0 : Int) - 192 = (x0 : Int) := by omega
              clear hx0 hcl hxx
              go_wp2_with fail
              try rw [hxi]
              clear hxi
              go_loop [7, 8] (fun x k => ∃ q X : Nat, q ≤ 1 ∧ k = .int .i64 ((q : Int) + 1) ∧ x = .int .i64 (X : Int) ∧ X ≤ 8388607 ∧ Hid (Um.good s j q ∧ X = Um.cv s j x0 q)) (fun _ k => 2 - (Lib.intOf k).toNat)
              case atStart => exact ⟨0, x0, Nat.zero_le _, rfl, rfl, by omega, Um.good_zero s j, rfl⟩
              case round =>
                obtain ⟨q, X, hq, rfl, rfl, hX, HG⟩ := hrel
                by_cases hqm : q < 1
                · have hjq : j + (q + 1) < s.size := by omega
                  obtain ⟨d, hd⟩ : ∃ d : Nat, s[j + (q + 1)].toNat = d := ⟨_, rfl⟩
                  have hd256 : d < 256 := by rw [← hd]; exact UInt8.toNat_lt _
                  have hat : Um.at_ s (j + 1 + q) = d := by rw [show j + 1 + q = j + (q + 1) by omega, Um.at_get s _ hjq, hd]
                  have HAT := Lib.hid hat
                  have hidx : IntKind.i64.wrap ((j : Int) + ((q : Int) + 1)) = ((j + (q + 1) : Nat) : Int) := by rw [IntWalk.i64_in _ (by omega)]; omega
                  clear hat
                  by_cases hlo : d < 128
                  · have hf : Lib.validD s.data.toList = false := by rw [← HV.out, Um.u_at s j hj, HCL.out, Um.u_bad1 s j _ b0 ⟨by omega, by omega⟩ q hqm (by rw [HAT.out]; omega), Um.nx_none]
                    have HF := Lib.hid hf
                    clear hf HV
                    go_wp2
                    go_ret
                    exact ⟨ret_bool HF.out.symm, rfl⟩
                  · by_cases hhi : 191 < d
                    · have hf : Lib.validD s.data.toList = false := by rw [← HV.out, Um.u_at s j hj, HCL.out, Um.u_bad1 s j _ b0 ⟨by omega, by omega⟩ q hqm (by rw [HAT.out]; omega), Um.nx_none]
                      have HF := Lib.hid hf
                      clear hf HV
                      go_wp2
                      go_ret
                      exact ⟨ret_bool HF.out.symm, rfl⟩
                    · have hg2 : Um.good s j (q + 1) := Um.good_succ HG.out.1 (by rw [HAT.out]; omega) (by rw [HAT.out]; omega)
                      have hc2 : 64 * X + (d - 128) = Um.cv s j x0 (q + 1) := by rw [Um.cv_succ, HAT.out, ← HG.out.2]
                      have hle := Um.cv_le s j x0 (q + 1) hg2 hx31 (by omega)
                      rw [← hc2] at hle
                      have HG2 : Hid (Um.good s j (q + 1) ∧ 64 * X + (d - 128) = Um.cv s j x0 (q + 1)) := ⟨hg2, hc2⟩
                      clear hg2 hc2
                      go_wp2
                      go_round
                      case rel => exact ⟨q + 1, 64 * X + (d - 128), by omega, by go_num, by go_num, hle, HG2⟩
                      case measure => simp [Lib.intOf]; omega
                · obtain rfl : q = 1 := by omega
                  have hu : Lib.validD s.data.toList = Um.nx s j (if X < 128 then none else some 2) := by
                    rw [← HV.out, Um.u_at s j hj, HCL.out, Um.u_good1 s j _ b0 ⟨by omega, by omega⟩ (by omega) HG.out.1, HXX.out, ← HG.out.2]
                  have hXb : X ≤ 64 * x0 + 63 := by rw [HG.out.2]; exact Um.cv_b1 s j x0 HG.out.1
                  have hx0b : x0 ≤ 31 := by have := HXX.out; omega
                  have hXc : X ≤ 2047 := by omega
                  clear hXb
                  by_cases hbad : X < 128
                  · rw [if_pos hbad] at hu
                    have HF := Lib.hid (show Lib.validD s.data.toList = false from hu.trans (Um.nx_none s j))
                    clear hu HV HG
                    go_wp2
                    go_ret
                    exact ⟨ret_bool HF.out.symm, rfl⟩
                  · rw [if_neg hbad] at hu
                    have HV2 := Lib.hid (show Lib.validD (s.data.toList.drop (j + 2)) = Lib.validD s.data.toList from (hu.trans (Um.nx_some s j 2)).symm)
                    clear hu HV HG
                    go_wp2
                    go_round
                    case rel => exact ⟨j + 2, by omega, by go_num, HV2⟩
                    case measure => simp [Lib.intOf]; omega
          · by_cases c3 : b0 < 240
            · skip
              have hx0 : (b0 : Int) - 224 = ((b0 - 224 : Nat) : Int) := by omega
              by_cases hs : s.size - j < 3
              · have hf : Lib.validD s.data.toList = false := by rw [← HV.out, Um.u_at s j hj, Um.u_short2 _ _ _ _ _ (by rw [Um.at_get s j hj, hb0]; omega) hs, Um.nx_none]
                have HF := Lib.hid hf
                clear hf HV
                go_wp2
                go_ret
                exact ⟨ret_bool HF.out.symm, rfl⟩
              · have hs2 : j + 2 < s.size := by omega
                obtain ⟨x0, hxx⟩ : ∃ x0, b0 - 224 = x0 := ⟨_, rfl⟩
                have hx31 : x0 ≤ 31 := by omega
                have hcl : Um.at_ s j = b0 := by rw [Um.at_get s j hj, hb0]
                have HCL := Lib.hid hcl
                have HXX := Lib.hid hxx
                have hxi : (b0 : Int) - 224 = (x0 : Int) := by omega
                clear hx0 hcl hxx
                go_wp2_with fail
                try rw [hxi]
                clear hxi
                go_loop [7, 8] (fun x k => ∃ q X : Nat, q ≤ 2 ∧ k = .int .i64 ((q : Int) + 1) ∧ x = .int .i64 (X : Int) ∧ X ≤ 8388607 ∧ Hid (Um.good s j q ∧ X = Um.cv s j x0 q)) (fun _ k => 3 - (Lib.intOf k).toNat)
                case atStart => exact ⟨0, x0, Nat.zero_le _, rfl, rfl, by omega, Um.good_zero s j, rfl⟩
                case round =>
                  obtain ⟨q, X, hq, rfl, rfl, hX, HG⟩ := hrel
                  by_cases hqm : q < 2
                  · have hjq : j + (q + 1) < s.size := by omega
                    obtain ⟨d, hd⟩ : ∃ d : Nat, s[j + (q + 1)].toNat = d := ⟨_, rfl⟩
                    have hd256 : d < 256 := by rw [← hd]; exact UInt8.toNat_lt _
                    have hat : Um.at_ s (j + 1 + q) = d := by rw [show j + 1 + q = j + (q + 1) by omega, Um.at_get s _ hjq, hd]
                    have HAT := Lib.hid hat
                    have hidx : IntKind.i64.wrap ((j : Int) + ((q : Int) + 1)) = ((j + (q + 1) : Nat) : Int) := by rw [IntWalk.i64_in _ (by omega)]; omega
                    clear hat
                    by_cases hlo : d < 128
                    · have hf : Lib.validD s.data.toList = false := by rw [← HV.out, Um.u_at s j hj, HCL.out, Um.u_bad2 s j _ b0 ⟨by omega, by omega⟩ q hqm (by rw [HAT.out]; omega), Um.nx_none]
                      have HF := Lib.hid hf
                      clear hf HV
                      go_wp2
                      go_ret
                      exact ⟨ret_bool HF.out.symm, rfl⟩
                    · by_cases hhi : 191 < d
                      · have hf : Lib.validD s.data.toList = false := by rw [← HV.out, Um.u_at s j hj, HCL.out, Um.u_bad2 s j _ b0 ⟨by omega, by omega⟩ q hqm (by rw [HAT.out]; omega), Um.nx_none]
                        have HF := Lib.hid hf
                        clear hf HV
                        go_wp2
                        go_ret
                        exact ⟨ret_bool HF.out.symm, rfl⟩
                      · have hg2 : Um.good s j (q + 1) := Um.good_succ HG.out.1 (by rw [HAT.out]; omega) (by rw [HAT.out]; omega)
                        have hc2 : 64 * X + (d - 128) = Um.cv s j x0 (q + 1) := by rw [Um.cv_succ, HAT.out, ← HG.out.2]
                        have hle := Um.cv_le s j x0 (q + 1) hg2 hx31 (by omega)
                        rw [← hc2] at hle
                        have HG2 : Hid (Um.good s j (q + 1) ∧ 64 * X + (d - 128) = Um.cv s j x0 (q + 1)) := ⟨hg2, hc2⟩
                        clear hg2 hc2
                        go_wp2
                        go_round
                        case rel => exact ⟨q + 1, 64 * X + (d - 128), by omega, by go_num, by go_num, hle, HG2⟩
                        case measure => simp [Lib.intOf]; omega
                  · obtain rfl : q = 2 := by omega
                    have hu : Lib.validD s.data.toList = Um.nx s j (if X < 2048 ∨ (55296 ≤ X ∧ X < 57344) then none else some 3) := by
                      rw [← HV.out, Um.u_at s j hj, HCL.out, Um.u_good2 s j _ b0 ⟨by omega, by omega⟩ (by omega) HG.out.1, HXX.out, ← HG.out.2]
                    have hXb : X ≤ 4096 * x0 + 4095 := by rw [HG.out.2]; exact Um.cv_b2 s j x0 HG.out.1
                    have hx0b : x0 ≤ 15 := by have := HXX.out; omega
                    have hXc : X ≤ 65535 := by omega
                    clear hXb
                    by_cases hbad : X < 2048 ∨ (55296 ≤ X ∧ X < 57344)
                    · rw [if_pos hbad] at hu
                      have HF := Lib.hid (show Lib.validD s.data.toList = false from hu.trans (Um.nx_none s j))
                      clear hu HV HG
                      by_cases hb1 : X < 2048
                      · clear hbad
                        go_wp2
                        go_ret
                        exact ⟨ret_bool HF.out.symm, rfl⟩
                      · obtain ⟨hb2, hb3⟩ : 55296 ≤ X ∧ X < 57344 := by omega
                        clear hbad
                        go_wp2
                        go_ret
                        exact ⟨ret_bool HF.out.symm, rfl⟩
                    · rw [if_neg hbad] at hu
                      have HV2 := Lib.hid (show Lib.validD (s.data.toList.drop (j + 3)) = Lib.validD s.data.toList from (hu.trans (Um.nx_some s j 3)).symm)
                      clear hu HV HG
                      have hx4 : 2048 ≤ X := by omega
                      by_cases hx5 : X < 55296
                      · clear hbad
                        go_wp2
                        go_round
                        case rel => exact ⟨j + 3, by omega, by go_num, HV2⟩
                        case measure => simp [Lib.intOf]; omega
                      · have hx6 : 57344 ≤ X := by omega
                        clear hbad
                        go_wp2
                        go_round
                        case rel => exact ⟨j + 3, by omega, by go_num, HV2⟩
                        case measure => simp [Lib.intOf]; omega
            · by_cases c4 : b0 < 248
              · skip
                have hx0 : (b0 : Int) - 240 = ((b0 - 240 : Nat) : Int) := by omega
                by_cases hs : s.size - j < 4
                · have hf : Lib.validD s.data.toList = false := by rw [← HV.out, Um.u_at s j hj, Um.u_short3 _ _ _ _ _ (by rw [Um.at_get s j hj, hb0]; omega) hs, Um.nx_none]
                  have HF := Lib.hid hf
                  clear hf HV
                  go_wp2
                  go_ret
                  exact ⟨ret_bool HF.out.symm, rfl⟩
                · have hs2 : j + 3 < s.size := by omega
                  obtain ⟨x0, hxx⟩ : ∃ x0, b0 - 240 = x0 := ⟨_, rfl⟩
                  have hx31 : x0 ≤ 31 := by omega
                  have hcl : Um.at_ s j = b0 := by rw [Um.at_get s j hj, hb0]
                  have HCL := Lib.hid hcl
                  have HXX := Lib.hid hxx
                  have hxi : (b0 : Int) - 240 = (x0 : Int) := by omega
                  clear hx0 hcl hxx
                  go_wp2_with fail
                  try rw [hxi]
                  clear hxi
                  go_loop [7, 8] (fun x k => ∃ q X : Nat, q ≤ 3 ∧ k = .int .i64 ((q : Int) + 1) ∧ x = .int .i64 (X : Int) ∧ X ≤ 8388607 ∧ Hid (Um.good s j q ∧ X = Um.cv s j x0 q)) (fun _ k => 4 - (Lib.intOf k).toNat)
                  case atStart => exact ⟨0, x0, Nat.zero_le _, rfl, rfl, by omega, Um.good_zero s j, rfl⟩
                  case round =>
                    obtain ⟨q, X, hq, rfl, rfl, hX, HG⟩ := hrel
                    by_cases hqm : q < 3
                    · have hjq : j + (q + 1) < s.size := by omega
                      obtain ⟨d, hd⟩ : ∃ d : Nat, s[j + (q + 1)].toNat = d := ⟨_, rfl⟩
                      have hd256 : d < 256 := by rw [← hd]; exact UInt8.toNat_lt _
                      have hat : Um.at_ s (j + 1 + q) = d := by rw [show j + 1 + q = j + (q + 1) by omega, Um.at_get s _ hjq, hd]
                      have HAT := Lib.hid hat
                      have hidx : IntKind.i64.wrap ((j : Int) + ((q : Int) + 1)) = ((j + (q + 1) : Nat) : Int) := by rw [IntWalk.i64_in _ (by omega)]; omega
                      clear hat
                      by_cases hlo : d < 128
                      · have hf : Lib.validD s.data.toList = false := by rw [← HV.out, Um.u_at s j hj, HCL.out, Um.u_bad3 s j _ b0 ⟨by omega, by omega⟩ q hqm (by rw [HAT.out]; omega), Um.nx_none]
                        have HF := Lib.hid hf
                        clear hf HV
                        go_wp2
                        go_ret
                        exact ⟨ret_bool HF.out.symm, rfl⟩
                      · by_cases hhi : 191 < d
                        · have hf : Lib.validD s.data.toList = false := by rw [← HV.out, Um.u_at s j hj, HCL.out, Um.u_bad3 s j _ b0 ⟨by omega, by omega⟩ q hqm (by rw [HAT.out]; omega), Um.nx_none]
                          have HF := Lib.hid hf
                          clear hf HV
                          go_wp2
                          go_ret
                          exact ⟨ret_bool HF.out.symm, rfl⟩
                        · have hg2 : Um.good s j (q + 1) := Um.good_succ HG.out.1 (by rw [HAT.out]; omega) (by rw [HAT.out]; omega)
                          have hc2 : 64 * X + (d - 128) = Um.cv s j x0 (q + 1) := by rw [Um.cv_succ, HAT.out, ← HG.out.2]
                          have hle := Um.cv_le s j x0 (q + 1) hg2 hx31 (by omega)
                          rw [← hc2] at hle
                          have HG2 : Hid (Um.good s j (q + 1) ∧ 64 * X + (d - 128) = Um.cv s j x0 (q + 1)) := ⟨hg2, hc2⟩
                          clear hg2 hc2
                          go_wp2
                          go_round
                          case rel => exact ⟨q + 1, 64 * X + (d - 128), by omega, by go_num, by go_num, hle, HG2⟩
                          case measure => simp [Lib.intOf]; omega
                    · obtain rfl : q = 3 := by omega
                      have hu : Lib.validD s.data.toList = Um.nx s j (if X < 65536 ∨ 1114111 < X then none else some 4) := by
                        rw [← HV.out, Um.u_at s j hj, HCL.out, Um.u_good3 s j _ b0 ⟨by omega, by omega⟩ (by omega) HG.out.1, HXX.out, ← HG.out.2]
                      have hXb : X ≤ 262144 * x0 + 262143 := by rw [HG.out.2]; exact Um.cv_b3 s j x0 HG.out.1
                      have hx0b : x0 ≤ 7 := by have := HXX.out; omega
                      have hXc : X ≤ 2097151 := by omega
                      clear hXb
                      by_cases hbad : X < 65536 ∨ 1114111 < X
                      · rw [if_pos hbad] at hu
                        have HF := Lib.hid (show Lib.validD s.data.toList = false from hu.trans (Um.nx_none s j))
                        clear hu HV HG
                        by_cases hb1 : X < 65536
                        · clear hbad
                          go_wp2
                          go_ret
                          exact ⟨ret_bool HF.out.symm, rfl⟩
                        · have hb2 : 1114111 < X := by omega
                          clear hbad
                          go_wp2
                          go_ret
                          exact ⟨ret_bool HF.out.symm, rfl⟩
                      · rw [if_neg hbad] at hu
                        have HV2 := Lib.hid (show Lib.validD (s.data.toList.drop (j + 4)) = Lib.validD s.data.toList from (hu.trans (Um.nx_some s j 4)).symm)
                        clear hu HV HG
                        go_wp2
                        go_round
                        case rel => exact ⟨j + 4, by omega, by go_num, HV2⟩
                        case measure => simp [Lib.intOf]; omega
              · have hf : Lib.validD s.data.toList = false := by
                  rw [← HV.out, Um.u_at s j hj, Um.at_get s j hj, hb0]
                  simp [Um.uN, c0, c1, c2, c3, c4, Um.nx_none]
                have HF := Lib.hid hf
                clear hf HV
                go_wp2
                go_ret
                exact ⟨ret_bool HF.out.symm, rfl⟩
    · have hf : Lib.validD s.data.toList = true := by
        rw [← HV.out, List.drop_of_length_le (by simp; have h2 : s.data.size = s.size := rfl; omega)]; rfl
      have HF := Lib.hid hf
      clear hf HV
      go_wp2
      go_ret
      exact ⟨ret_bool HF.out.symm, rfl⟩
end Go.Proofs.YtmipomglbccjbaaDoor
