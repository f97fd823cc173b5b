/- Layer 8: the walk of TreeOrders. -/
import Derived.Test.YtlakolcjgnmllaaTreG4
import Derived.Test.YtlakolcjgnmllaaTreOm
namespace Go.Proofs.Ytlakolcjgnmllaa
open Go.RowKit

set_option maxHeartbeats 4000000 in
set_option maxRecDepth 100000 in
theorem walk_orders8 (ta : Option Addr) (tn tc : Nat) (ks : List UInt8) (W : World) (hm : tn ≤ maxLen) (hy : Yt (.slice ta tn tc) ks W) :
    Calls Try.prog 6 #[.slice ta tn tc] W fun e w' => e = .returned (.bool true) ∧ Below W.heap.size W w' := by
  have htl := hy.len8
  have HY := Lib.hid hy; have HTL := Lib.hid htl
  have HM : Hid ((tn : Int) ≤ 9223372036854775807) := by show _ ≤ _; unfold maxLen at hm; omega
  -- what a round reads
  have HRD : Hid (∀ j wr, j < tn → Below W.heap.size W wr → ∃ (g off : Nat) (x : Nat) (k : UInt8), ta = some ⟨g, off, none⟩ ∧ wr.cell? ⟨g, off + j, none⟩ = some (.int .u8 (x : Int)) ∧ x < 256 ∧ Hid (ks[j]? = some k ∧ x = k.toNat)) := fun j wr hj hb => by
    obtain ⟨g, off, e, hg, hc⟩ := hy.at8 j (by omega)
    exact ⟨g, off, _, ks[j]'(by omega), e, (hb.cell (p := ⟨g, off + j, none⟩) hg).trans hc, UInt8.toNat_lt _, List.getElem?_eq_getElem _, rfl⟩
  -- the string of a byte
  have HCV : Hid (∀ (w : World) (x : Nat) (k : UInt8), x = k.toNat → (convert 49 9 (.slice (some ⟨w.heap.size, 0, none⟩) 2 2)).run Try.prog (w.alloc (.cells #[.int .u8 (x : Int), .int .u8 120] 5)) = .ok (.string (bstr (Tm.okey k))) (w.alloc (.cells #[.int .u8 (x : Int), .int .u8 120] 5))) := fun w x k hx => lit_str8 w _ (Tm.okey k) 2 rfl (by rw [hx]; rfl)
  clear hy htl hm
  go_enter Try.func6, Try.ntmps6
  go_wp2_with fail
  refine (walk_first8 W).mono ?_
  rintro e w1 ⟨rfl, hb1⟩
  have HB1 := Lib.hid hb1
  by_cases hbig : 250 < tn
  case pos =>
    have hbI : (250 : Int) < (tn : Int) := by omega
    go_wp2
    go_ret
    exact ⟨rfl, HB1.out⟩
  have hbI : ¬ (250 : Int) < (tn : Int) := by omega
  have htn : tn ≤ 250 := by omega
  clear hb1 hbig
  go_wp2_with fail
  refine tre_new.mono ?_
  rintro e w2 ⟨rfl, rfl⟩
  go_wp2_with fail
  refine tre_new.mono ?_
  rintro e w3 ⟨rfl, rfl⟩
  rw [World.size_alloc]
  obtain ⟨a, b, ex, w4, ha, hb, hw4, hp⟩ : ∃ a b ex w4, w1.heap.size = a ∧ w1.heap.size + 1 = b ∧ (w1.alloc (.cells #[.pointer none] 60)).alloc (.cells #[.pointer none] 60) = w4 ∧ P2 W ex a b [] [] w4 := ⟨_, _, _, _, rfl, rfl, rfl, p2_new HB1.out⟩
  rw [hb, ha, hw4]
  have HP := Lib.hid hp
  clear hp hw4 ha hb HB1
  go_wp2_with fail
  go_loopw [20] (fun iv wr => ∃ j : Nat, j ≤ tn ∧ iv = .int .i64 (j : Int) ∧ Hid (P2 W ex a b (Tm.puts (ks.take j)) (Tm.puts (ks.reverse.take j)) wr)) (fun iv _ => tn - (ixOf iv).toNat)
  case atStart => exact ⟨0, Nat.zero_le _, rfl, HP.out⟩
  case round =>
    clear HP
    obtain ⟨j, hj, rfl, HP⟩ := hrel
    by_cases hlt : j < tn
    case pos =>
      obtain ⟨g, off, x, k, rfl, c0, hx, HX⟩ := HRD.out j wr hlt HP.out.bel
      have hjI : (j : Int) < (tn : Int) := by omega
      have hcv := HCV.out wr x k HX.out.2
      have HP1 := Lib.hid (HP.out.below (one_b8 wr (.cells #[.int .u8 (x : Int), .int .u8 120] 5)))
      have HLA : Hid ((Tm.puts (ks.take j)).length ≤ 300000) := Nat.le_trans (Tm.puts_len _) (by rw [List.length_take]; omega)
      have HLB : Hid ((Tm.puts (ks.reverse.take j)).length ≤ 300000) := Nat.le_trans (Tm.puts_len _) (by rw [List.length_take]; omega)
      go_wp2_with fail
      refine (p2_put HP1.out HLA.out).mono ?_
      rintro e w6 ⟨rfl, hp6, -⟩
      have HP6 := Lib.hid hp6
      clear hp6 HP1 HP hcv c0
      obtain ⟨m, hm⟩ : ∃ m, m = tn - 1 := ⟨_, rfl⟩
      obtain ⟨j2, hj2⟩ : ∃ j2, j2 = m - j := ⟨_, rfl⟩
      obtain ⟨g', off', x2, k2, e, c2, hx2, HX2⟩ := HRD.out j2 w6 (by omega) HP6.out.bel
      injection e with e
      injection e with e1 e2 e3
      subst e1 e2
      have hq1 : (tn : Int) - 1 = (m : Int) := by omega
      have hq2 : (m : Int) - (j : Int) = (j2 : Int) := by omega
      have hj3 : j2 < tn := by omega
      have HJ2 : Hid (j2 = tn - 1 - j) := by show _ = _; omega
      have hcv := HCV.out w6 x2 k2 HX2.out.2
      have HP7 := Lib.hid (HP6.out.below (one_b8 w6 (.cells #[.int .u8 (x2 : Int), .int .u8 120] 5)))
      clear hm hj2 e3 HP6
      go_wp2_with fail
      refine (p2_put HP7.out.swap HLB.out).mono ?_
      rintro e w8 ⟨rfl, hp8, -⟩
      have HP8 : Hid (P2 W ex a b (Tm.puts (ks.take (j + 1))) (Tm.puts (ks.reverse.take (j + 1))) w8) := by
        have h1 := HX.out
        have h2 := HX2.out
        have hl : j < ks.length := by have := HTL.out; omega
        have hl2 : j < ks.reverse.length := by rw [List.length_reverse]; exact hl
        rw [List.getElem?_eq_getElem hl] at h1
        rw [HJ2.out, HTL.out, ← List.getElem?_reverse (by exact hl), List.getElem?_eq_getElem hl2] at h2
        rw [Tm.puts_take hl, Tm.puts_take hl2, Option.some.inj h1.1, Option.some.inj h2.1]
        unfold Tm.oval
        rw [← h1.2, ← h2.2]
        exact hp8.swap
      clear hp8 HP7 hcv c2
      go_wp2_with fail
      go_roundw
      case rel => exact ⟨j + 1, by omega, by go_num, HP8.out⟩
      case measure => simp [ixOf]; omega
    case neg =>
      have hje : j = tn := by omega
      have hjI : ¬ (j : Int) < (tn : Int) := by omega
      obtain ⟨L, hL⟩ : ∃ L, L = Tm.puts ks := ⟨_, rfl⟩
      have HP2 : Hid (P2 W ex a b L L wr) := by
        have h := HP.out
        rw [hje, HTL.out, List.take_length, ← List.length_reverse, List.take_length, Tm.puts_rev, ← hL] at h
        exact h
      have HLL : Hid (L.length ≤ 250) := by have := Tm.puts_len ks; have := HTL.out; show L.length ≤ _; rw [hL]; omega
      have HFN : Hid ((Tm.from_ L []).take 1000 = L) := by show _ = _; rw [Tm.from_nil, List.take_of_length_le (by have := HLL.out; omega)]
      have HDA : Hid (Tm.dels L ks = []) := by show _ = _; rw [hL]; exact Tm.dels_all ks
      clear HP hje hlt hj hL
      go_wp2_with fail
      refine (p2_from (k := []) HP2.out).mono ?_
      rintro e w5 ⟨u, rfl, HQ, hp, -⟩
      have HP5 := Lib.hid hp; clear hp HP2
      go_wp2_with fail
      refine (p2_taken (most := 1000) HP5.out HQ.out (by decide) (by decide)).mono ?_
      rintro e w6 ⟨x1, n1, c1, rfl, HT1, hp, -⟩
      have HP6 := Lib.hid hp; clear hp HP5 HQ
      go_wp2_with fail
      refine (p2_from (k := []) HP6.out.swap).mono ?_
      rintro e w7 ⟨u2, rfl, HQ, hp, hb7⟩
      have HP7 := Lib.hid hp.swap; clear hp
      go_wp2_with fail
      refine (p2_taken (most := 1000) HP7.out HQ.out (by decide) (by decide)).mono ?_
      rintro e w8 ⟨x2, n2, c2, rfl, HT2, hp, hb8⟩
      have HP8 := Lib.hid hp
      have HPA : Hid (Ps ex (.slice x1 n1 c1) L w8 ∧ n1 ≤ 10000) := ⟨by rw [← HFN.out]; exact (HT1.out.1.below hb7).below hb8, by rw [HT1.out.2, HFN.out]; have := HLL.out; omega⟩
      have HPB : Hid (Ps ex (.slice x2 n2 c2) L w8 ∧ n2 ≤ 10000) := ⟨by rw [← HFN.out]; exact HT2.out.1, by rw [HT2.out.2, HFN.out]; have := HLL.out; omega⟩
      clear hp HQ HT1 HT2 hb7 hb8 HP6 HP7
      go_wp2_with fail
      refine (ref8_same HPA.out.1 HPB.out.1 HPA.out.2 HPB.out.2).mono ?_
      rintro e w9 ⟨v, rfl, hv, hb⟩
      obtain rfl := hv.2 rfl
      have HP9 := Lib.hid (HP8.out.below hb); clear hb hv HP8 HPA HPB
      go_wp2_with fail
      refine (p2_len HP9.out).mono ?_
      rintro e w10 ⟨rfl, hp, -⟩
      have HP10 := Lib.hid hp; clear hp HP9
      go_wp2_with fail
      refine (p2_len HP10.out.swap).mono ?_
      rintro e w11 ⟨rfl, hp, -⟩
      have HP11 := Lib.hid hp.swap; clear hp HP10
      go_wp2_with fail
      refine (p2_len HP11.out).mono ?_
      rintro e w12 ⟨rfl, hp, -⟩
      have HP12 := Lib.hid hp; clear hp HP11
      obtain ⟨N0, hN0⟩ : ∃ N0, N0 = L.length := ⟨_, rfl⟩
      rw [← hN0] at HLL
      rw [← hN0]
      have HN0 := Lib.hid hN0
      clear hN0
      go_wp2_with fail
      go_loopw [69, 8] (fun iv nv wr => ∃ (j N : Nat), j ≤ tn ∧ N ≤ 250 ∧ iv = .int .i64 (j : Int) ∧ nv = .int .i64 (N : Int) ∧ Hid (N = (Tm.dels L (ks.take j)).length) ∧ Hid (P2 W ex a b (Tm.dels L (ks.take j)) L wr)) (fun iv _ _ => tn - (ixOf iv).toNat)
      case atStart => exact ⟨0, N0, Nat.zero_le _, HLL.out, rfl, rfl, HN0.out, HP12.out⟩
      case round =>
        clear HP12
        obtain ⟨j, N, hj, hN, rfl, rfl, HNL, HP⟩ := hrel
        by_cases hlt : j < tn
        case pos =>
          obtain ⟨g, off, x, k, rfl, c0, hx, HX⟩ := HRD.out j wr hlt HP.out.bel
          have hjI : (j : Int) < (tn : Int) := by omega
          have hcv := HCV.out wr x k HX.out.2
          obtain ⟨M, hM⟩ : ∃ M, M = Tm.dels L (ks.take j) := ⟨_, rfl⟩
          have HM2 : Hid (Tm.dels L (ks.take (j + 1)) = Tm.del M (Tm.okey k)) := by
            have h1 := HX.out
            have hl : j < ks.length := by have := HTL.out; omega
            rw [List.getElem?_eq_getElem hl] at h1
            show _ = _
            rw [Tm.dels_take hl, Option.some.inj h1.1, hM]
          rw [← hM] at HNL HP
          have HP1 := Lib.hid (HP.out.below (one_b8 wr (.cells #[.int .u8 (x : Int), .int .u8 120] 5)))
          have HLM : Hid (M.length ≤ 300000) := by show _ ≤ _; rw [← HNL.out]; omega
          clear hM
          go_wp2_with fail
          refine (p2_delete HP1.out HLM.out).mono ?_
          rintro e w6 ⟨rfl, hp6, -⟩
          have HP6 := Lib.hid hp6
          clear hp6 HP hcv c0 HLM
          have HAS := HP1.out.A.asc
          clear HP1
          cases hB : Tm.has M (Tm.okey k)
          case true =>
            have hN1 : 1 ≤ N := by
              cases M with
              | nil => cases hB
              | cons p r => have := HNL.out; rw [List.length_cons] at this; omega
            obtain ⟨N1, hN1e⟩ : ∃ N1, N1 = N - 1 := ⟨_, rfl⟩
            have hNI : (N : Int) - 1 = (N1 : Int) := by omega
            have HL1 : Hid ((Tm.del M (Tm.okey k)).length = N1) := by show _ = _; rw [Tm.del_len _ _ HAS, hB, if_pos rfl, ← HNL.out, hN1e]
            clear HNL hB hN1e HAS
            go_wp2_with fail
            refine (p2_len HP6.out).mono ?_
            rintro e w7 ⟨rfl, hp7, -⟩
            rw [HL1.out]
            have HP7 := Lib.hid hp7; clear hp7 HP6
            go_wp2_with fail
            go_roundw
            case rel =>
              refine ⟨j + 1, N1, by omega, by omega, by go_num, rfl, ?_, ?_⟩
              · show _ = _; rw [HM2.out]; exact HL1.out.symm
              · show P2 _ _ _ _ _ _ _; rw [HM2.out]; exact HP7.out
            case measure => simp [ixOf]; omega
          case false =>
            have HL1 : Hid ((Tm.del M (Tm.okey k)).length = N) := by show _ = _; rw [Tm.del_len _ _ HAS, hB, if_neg (by decide), ← HNL.out]
            clear HNL hB HAS
            go_wp2_with fail
            refine (p2_len HP6.out).mono ?_
            rintro e w7 ⟨rfl, hp7, -⟩
            rw [HL1.out]
            have HP7 := Lib.hid hp7; clear hp7 HP6
            go_wp2_with fail
            go_roundw
            case rel =>
              refine ⟨j + 1, N, by omega, by omega, by go_num, rfl, ?_, ?_⟩
              · show _ = _; rw [HM2.out]; exact HL1.out.symm
              · show P2 _ _ _ _ _ _ _; rw [HM2.out]; exact HP7.out
            case measure => simp [ixOf]; omega
        case neg =>
          have hje : j = tn := by omega
          have hjI : ¬ (j : Int) < (tn : Int) := by omega
          obtain rfl : N = 0 := by
            have h := HNL.out
            rw [hje, HTL.out, List.take_length, HDA.out] at h
            exact h
          have HP2 : Hid (P2 W ex a b [] L wr) := by
            have h := HP.out
            rw [hje, HTL.out, List.take_length, HDA.out] at h
            exact h
          clear HP HNL hje hlt hj
          go_wp2_with fail
          refine (p2_levels HP2.out (by decide)).mono ?_
          rintro e w5 ⟨n5, rfl, hl, hp, -⟩
          obtain rfl := hl.out.1.2 rfl
          have HP5 := Lib.hid hp; clear hp HP2 hl
          go_wp2_with fail
          refine (p2_from (k := []) HP5.out).mono ?_
          rintro e w6 ⟨u, rfl, HQ, hp, -⟩
          have HP6 := Lib.hid hp; clear hp HP5
          go_wp2_with fail
          refine (p2_taken (most := 9) HP6.out HQ.out (by decide) (by decide)).mono ?_
          rintro e w7 ⟨x1, n1, c1, rfl, HT1, hp, -⟩
          have HB7 := Lib.hid hp.bel
          obtain rfl := HT1.out.2
          clear HT1 hp HQ
          go_wp2
          go_ret
          exact ⟨rfl, HB7.out⟩
end Go.Proofs.Ytlakolcjgnmllaa
