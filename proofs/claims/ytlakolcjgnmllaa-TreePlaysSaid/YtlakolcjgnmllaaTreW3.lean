/- Layer 8: the walk of TreePlays. -/
import Derived.Deep.RegionHeld3
import Derived.Test.YtlakolcjgnmllaaTreG6
import Derived.Test.YtlakolcjgnmllaaTreOm
namespace Go.Proofs.Ytlakolcjgnmllaa
open Go.RowKit

set_option maxHeartbeats 8000000 in
set_option maxRecDepth 100000 in
theorem walk_plays8 (ta : Option Addr) (tn tc : Nat) (ss : List Sp8) (W : World) (hm : tn ≤ maxLen) (hy : Sv8 ta tn ss W) :
    Calls Try.prog 3 #[.slice ta tn tc] W fun e w' => e = .returned (.bool true) ∧ Below W.heap.size W w' := by
  have HM : Hid ((tn : Int) ≤ 9223372036854775807) := by show _ ≤ _; unfold maxLen at hm; omega
  have HRD : Hid (∀ j wr, j < tn → Below W.heap.size W wr → ∃ (g off : Nat) (k v : Int) (s : List UInt8), ta = some ⟨g, off, none⟩ ∧ wr.cell? ⟨g, off + j * 3, none⟩ = some (.int .i64 k) ∧ wr.cell? ⟨g, off + j * 3 + 1, none⟩ = some (.string (bstr s)) ∧ wr.cell? ⟨g, off + j * 3 + 2, none⟩ = some (.int .i64 v)) := fun j wr hj hb => by
    obtain ⟨g, off, e, hg, h0, h1, h2⟩ := hy.2 j (by rw [← hy.1]; exact hj)
    exact ⟨g, off, _, _, _, e, (hb.cell (p := ⟨g, off + j * 3, none⟩) hg).trans h0, (hb.cell (p := ⟨g, off + j * 3 + 1, none⟩) hg).trans h1, (hb.cell (p := ⟨g, off + j * 3 + 2, none⟩) hg).trans h2⟩
  clear hy hm
  go_enter Try.func3, Try.ntmps3
  go_wp2_with fail
  refine (walk_first8 W).mono ?_
  rintro e w1 ⟨rfl, hb1⟩
  have HB1 := Lib.hid hb1
  clear hb1
  go_wp2_with fail
  refine tre_new.mono ?_
  rintro e w2 ⟨rfl, rfl⟩
  go_wp2_with fail
  refine tre_new.mono ?_
  rintro e w3 ⟨rfl, rfl⟩
  rw [World.size_alloc]
  obtain ⟨a, b, ex, w4, ha, hb, hw4, hp⟩ : ∃ a b ex w4, w1.heap.size = a ∧ w1.heap.size + 1 = b ∧ (w1.alloc (.cells #[.pointer none] 60)).alloc (.cells #[.pointer none] 60) = w4 ∧ P2 W ex a b [] [] w4 := ⟨_, _, _, _, rfl, rfl, rfl, p2_new HB1.out⟩
  rw [hb, ha, hw4]
  have HQ : Hid (Q7 W ex a b [] [] none 0 0 none 0 0 w4) := ⟨hp, Ps.nil _ _, Ps.nil _ _⟩
  clear hp hw4 ha hb HB1
  go_upto_block 0 with (fail)
  go_cut [3, 4, 5, 6] (fun tv ov lv mv wx => ∃ (ex : Nat → Prop) (t o : Nat) (la lb : List Tm.E) (x : Option Addr) (n c : Nat) (y : Option Addr) (m d : Nat), tv = .pointer (some ⟨t, 0, none⟩) ∧ ov = .pointer (some ⟨o, 0, none⟩) ∧ lv = .slice x n c ∧ mv = .slice y m d ∧ n ≤ 150 ∧ m ≤ 150 ∧ Hid (Q7 W ex t o la lb x n c y m d wx))
  case rest => as_aux_lemma =>
    clear HQ
    obtain ⟨ex, t, o, la, lb, x, n, c, y, m, d, rfl, rfl, rfl, rfl, hn, hm, HQ⟩ := hcut
    go_upto_region 30 with (fail)
    go_cut [150] (fun bv wx => ∃ B : Bool, bv = .bool B ∧ wx = wc ∧ Hid (B = true → 0 < tn))
    case first =>
      by_cases h0 : 0 < tn
      · obtain ⟨g, off, k, v, s, rfl, c0, c1, c2⟩ := HRD.out 0 wc h0 HQ.out.p.bel
        have h0I : (0 : Int) < (tn : Int) := by omega
        have HT : Hid (0 < tn) := h0
        rw [Nat.zero_mul, Nat.add_zero] at c1
        clear c0 c2
        by_cases hs : s.length < 100
        · have hsI : ((bstr s).size : Int) < 100 := by rw [bstr_size]; omega
          go_wp2
          go_meet
          exact ⟨_, rfl, rfl, fun _ => HT.out⟩
        · have hsI : ¬ ((bstr s).size : Int) < 100 := by rw [bstr_size]; omega
          go_wp2
          go_meet
          exact ⟨_, rfl, rfl, fun _ => HT.out⟩
      · have h0I : ¬ (0 : Int) < (tn : Int) := by omega
        go_wp2
        go_meet
        exact ⟨false, rfl, rfl, fun e => by cases e⟩
    case rest =>
      obtain ⟨B, rfl, rfl, HT⟩ := hcut
      go_upto_if 150 with (fail)
      go_cut [17] (fun av wx => ∃ s : List UInt8, av = .string (bstr s) ∧ wx = wc)
      case first =>
        cases B
        case true =>
          obtain ⟨g, off, k, v, s, rfl, c0, c1, c2⟩ := HRD.out 0 wc (HT.out rfl) HQ.out.p.bel
          have h0I : (0 : Int) < (tn : Int) := by have := HT.out rfl; omega
          rw [Nat.zero_mul, Nat.add_zero] at c1
          clear c0 c2 HT HRD
          go_wp2
          go_meet
          exact ⟨s, rfl, rfl⟩
        case false =>
          clear HRD
          go_wp2
          go_meet
          exact ⟨[], rfl, rfl⟩
      case rest =>
      clear HRD HT
      obtain ⟨s, rfl, rfl⟩ := hcut
      go_wp2_with fail
      refine (q7_from (k := s) HQ.out).mono ?_
      rintro e w5 ⟨u, rfl, HS, h⟩
      have HQ2 := Lib.hid h; clear h HQ
      go_wp2_with fail
      refine (q7_taken HQ2.out HS.out (by have := Tm.from_len_le la s; have := HQ2.out.ln; omega)).mono ?_
      rintro e w6 ⟨z, q, f, rfl, HA, h⟩
      have HQ := Lib.hid h; clear h HQ2 HS
      go_wp2_with fail
      refine (q7_reffrom (k := s) HQ.out (by omega) HA.out).mono ?_
      rintro e w7 ⟨z2, q2, f2, rfl, HA2, h⟩
      have HQ2 := Lib.hid h; clear h HQ HA
      go_wp2_with fail
      refine (q7_same HQ2.out HA2.out.1 HA2.out.2).mono ?_
      rintro e w8 ⟨rfl, h⟩
      have HQ := Lib.hid h; clear h HQ2 HA2
      go_wp2_with fail
      refine (q7_back (k := s) HQ.out.swap).mono ?_
      rintro e w15 ⟨u, rfl, HS, h⟩
      have HQ2 := Lib.hid h.swap; clear h HQ
      go_wp2_with fail
      refine (q7_taken HQ2.out HS.out (by have := back_len_le lb s; have := HQ2.out.lm; omega)).mono ?_
      rintro e w16 ⟨z, q, f, rfl, HA, h⟩
      have HQ := Lib.hid h; clear h HQ2 HS
      go_wp2_with fail
      refine (q7_refback (k := s) HQ.out.swap (by omega) HA.out).mono ?_
      rintro e w17 ⟨z2, q2, f2, rfl, HA2, h⟩
      have HQ2 := Lib.hid h.swap; clear h HQ HA
      go_wp2_with fail
      refine (q7_same HQ2.out HA2.out.1 HA2.out.2).mono ?_
      rintro e w18 ⟨rfl, h⟩
      have HQ := Lib.hid h; clear h HQ2 HA2
      go_wp2_with fail
      refine (q7_from (k := []) HQ.out).mono ?_
      rintro e w25 ⟨u, rfl, HS, h⟩
      have HQ2 := Lib.hid h; clear h HQ
      go_wp2_with fail
      refine (q7_taken HQ2.out HS.out (by have := Tm.from_len_le la []; have := HQ2.out.ln; omega)).mono ?_
      rintro e w26 ⟨z, q, f, rfl, HA, h⟩
      have HQ := Lib.hid h; clear h HQ2 HS
      go_wp2_with fail
      refine (q7_same HQ.out HA.out ⟨by rw [Tm.from_nil]; exact HQ.out.l, by omega⟩).mono ?_
      rintro e w28 ⟨rfl, h⟩
      have HQ2 := Lib.hid h; clear h HQ HA
      have HQ := HQ2; clear HQ2
      go_wp2_with fail
      refine (q7_from (k := []) HQ.out.swap).mono ?_
      rintro e w35 ⟨u, rfl, HS, h⟩
      have HQ2 := Lib.hid h.swap; clear h HQ
      go_wp2_with fail
      refine (q7_taken HQ2.out HS.out (by have := Tm.from_len_le lb []; have := HQ2.out.lm; omega)).mono ?_
      rintro e w36 ⟨z, q, f, rfl, HA, h⟩
      have HQ := Lib.hid h; clear h HQ2 HS
      go_wp2_with fail
      refine (q7_same HQ.out HA.out ⟨by rw [Tm.from_nil]; exact HQ.out.m, by omega⟩).mono ?_
      rintro e w38 ⟨rfl, h⟩
      have HQ2 := Lib.hid h; clear h HQ HA
      have HQ := HQ2; clear HQ2
      go_wp2_with fail
      refine (q7_back (k := [255, 255]) HQ.out).mono ?_
      rintro e w45 ⟨u, rfl, HS, h⟩
      have HQ2 := Lib.hid h; clear h HQ
      go_wp2_with fail
      refine (q7_taken HQ2.out HS.out (by have := back_len_le la [255, 255]; have := HQ2.out.ln; omega)).mono ?_
      rintro e w46 ⟨z, q, f, rfl, HA, h⟩
      have HQ := Lib.hid h; clear h HQ2 HS
      go_wp2_with fail
      refine (q7_refback (k := [255, 255]) HQ.out (by omega) HA.out).mono ?_
      rintro e w47 ⟨z2, q2, f2, rfl, HA2, h⟩
      have HQ2 := Lib.hid h; clear h HQ HA
      go_wp2_with fail
      refine (q7_same HQ2.out HA2.out.1 HA2.out.2).mono ?_
      rintro e w48 ⟨rfl, h⟩
      have HQ := Lib.hid h; clear h HQ2 HA2
      go_wp2
      go_ret
      exact ⟨rfl, HQ.out.p.bel⟩
  case first => as_aux_lemma =>
    go_wp2_with fail
    go_loopw [24, 3, 4, 5, 6] (fun iv tv ov lv mv wr => ∃ (j : Nat) (ex : Nat → Prop) (t o : Nat) (la lb : List Tm.E) (x : Option Addr) (n c : Nat) (y : Option Addr) (m d : Nat), j ≤ tn ∧ j ≤ 150 ∧ iv = .int .i64 (j : Int) ∧ tv = .pointer (some ⟨t, 0, none⟩) ∧ ov = .pointer (some ⟨o, 0, none⟩) ∧ lv = .slice x n c ∧ mv = .slice y m d ∧ n ≤ j ∧ m ≤ j ∧ Hid (Q7 W ex t o la lb x n c y m d wr)) (fun iv _ _ _ _ _ => tn - (ixOf iv).toNat)
    case atStart => exact ⟨0, ex, a, b, [], [], none, 0, 0, none, 0, 0, Nat.zero_le _, Nat.zero_le _, rfl, rfl, rfl, rfl, rfl, Nat.le_refl _, Nat.le_refl _, HQ.out⟩
    case round =>
      clear HQ
      obtain ⟨j, ex, t, o, la, lb, x, n, c, y, m, d, hj, hj150, rfl, rfl, rfl, rfl, rfl, hn, hm, HQ⟩ := hrel
      by_cases hlt : j < tn
      case neg =>
        have hjI : ¬ (j : Int) < (tn : Int) := by omega
        go_wp2
        go_meet
        exact ⟨ex, t, o, la, lb, x, n, c, y, m, d, rfl, rfl, rfl, rfl, by omega, by omega, HQ.out⟩
      case pos =>
        obtain ⟨g, off, k, v, s, rfl, c0, c1, c2⟩ := HRD.out j wr hlt HQ.out.p.bel
        have hjI : (j : Int) < (tn : Int) := by omega
        obtain ⟨bx, hbx⟩ : ∃ bx, bx = wr.heap.size := ⟨_, rfl⟩
        obtain ⟨wq, hwq⟩ : ∃ wq, wq = wr.alloc (.cells #[.int .i64 k, .string (bstr s), .int .i64 v] 28) := ⟨_, rfl⟩
        have HQ8 : Hid (Q8 W ex t o la lb x n c y m d bx #[.int .i64 k, .string (bstr s), .int .i64 v] wq) := by
          show Q8 _ _ _ _ _ _ _ _ _ _ _ _ _ _ _
          rw [hwq, hbx]; exact Q8.new HQ.out _
        go_upto_region 8 with (fail)
        rw [← hwq, ← hbx]
        have b0 : wq.cell? ⟨bx, 0, none⟩ = some (.int .i64 k) := by rw [Lib.cell_of_heap HQ8.out.b]; rfl
        have b1 : wq.cell? ⟨bx, 1, none⟩ = some (.string (bstr s)) := by rw [Lib.cell_of_heap HQ8.out.b]; rfl
        have b2 : wq.cell? ⟨bx, 2, none⟩ = some (.int .i64 v) := by rw [Lib.cell_of_heap HQ8.out.b]; rfl
        clear hwq hbx c0 c1 c2 HQ HRD
        by_cases h150 : 150 ≤ j
        · have h150I : (150 : Int) ≤ (j : Int) := by omega
          go_wp2
          go_meet
          exact ⟨ex, t, o, la, lb, x, n, c, y, m, d, rfl, rfl, rfl, rfl, by omega, by omega, HQ8.out.q⟩
        · have h150I : ¬ (150 : Int) ≤ (j : Int) := by omega
          by_cases h100 : 100 < s.length
          · have h100I : (100 : Int) < ((bstr s).size : Int) := by rw [bstr_size]; omega
            go_wp2
            go_meet
            exact ⟨ex, t, o, la, lb, x, n, c, y, m, d, rfl, rfl, rfl, rfl, by omega, by omega, HQ8.out.q⟩
          · have h100I : ¬ (100 : Int) < ((bstr s).size : Int) := by rw [bstr_size]; omega
            obtain ⟨Uz, hUz⟩ : ∃ Uz : Nat, (Uz : Int) = k % 18446744073709551616 := ⟨(k % 18446744073709551616).toNat, by omega⟩
            obtain ⟨q, hq⟩ : ∃ q, q = Uz % 5 := ⟨_, rfl⟩
            have hq5 : q < 5 := by omega
            have hw1 : IntKind.u64.wrap k = (Uz : Int) := by rw [IntKind.wrap_u64, hUz]
            have hw2 : (Uz : Int).tmod 5 = (q : Int) := by rw [Int.tmod_eq_emod_of_nonneg (by omega)]; omega
            clear hUz hq
            go_upto_block 2 with (fail)
            go_cut [3, 4, 5, 6] (fun tv ov lv mv wx => ∃ (ex : Nat → Prop) (t o : Nat) (la lb : List Tm.E) (x : Option Addr) (n c : Nat) (y : Option Addr) (m d : Nat), tv = .pointer (some ⟨t, 0, none⟩) ∧ ov = .pointer (some ⟨o, 0, none⟩) ∧ lv = .slice x n c ∧ mv = .slice y m d ∧ n ≤ j + 1 ∧ m ≤ j + 1 ∧ Hid (Q8 W ex t o la lb x n c y m d bx #[.int .i64 k, .string (bstr s), .int .i64 v] wx))
            case first => as_aux_lemma =>
              have hn2 : n ≤ 200 := by omega
              have hm2 : m ≤ 200 := by omega
              rcases (show q = 0 ∨ q = 1 ∨ q = 2 ∨ q = 3 ∨ q = 4 by omega) with rfl | rfl | rfl | rfl | rfl
              · go_wp2_with fail
                refine (q8_refput HQ8.out hn2).mono ?_
                rintro e w6 ⟨x6, n6, c6, B6, rfl, h6⟩
                have b1 : w6.cell? ⟨bx, 1, none⟩ = some (.string (bstr s)) := by rw [Lib.cell_of_heap h6.out.2.2.2.b]; rfl
                have b2 : w6.cell? ⟨bx, 2, none⟩ = some (.int .i64 v) := by rw [Lib.cell_of_heap h6.out.2.2.2.b]; rfl
                clear HQ8
                go_wp2_with fail
                refine (q8_put h6.out hn2).mono ?_
                rintro e w7 ⟨rfl, h7⟩
                have H7 := Lib.hid h7
                have hn6 := h6.out.1
                have hBB : (B6 != B6) = false := by simp
                clear h7 h6 b1 b2
                go_wp2
                go_meet
                exact ⟨ex, t, o, _, lb, x6, n6, c6, y, m, d, rfl, rfl, rfl, rfl, by omega, by omega, H7.out⟩
              · go_wp2_with fail
                refine (q8_refdelete HQ8.out hn2).mono ?_
                rintro e w6 ⟨x6, n6, c6, B6, rfl, h6⟩
                have b1 : w6.cell? ⟨bx, 1, none⟩ = some (.string (bstr s)) := by rw [Lib.cell_of_heap h6.out.2.2.2.b]; rfl
                clear HQ8
                go_wp2_with fail
                refine (q8_delete h6.out hn2).mono ?_
                rintro e w7 ⟨rfl, h7⟩
                have H7 := Lib.hid h7
                have hn6 := h6.out.1
                have hBB : (B6 != B6) = false := by simp
                clear h7 h6 b1
                go_wp2
                go_meet
                exact ⟨ex, t, o, _, lb, x6, n6, c6, y, m, d, rfl, rfl, rfl, rfl, by omega, by omega, H7.out⟩
              · go_wp2
                go_meet
                exact ⟨ex, t, o, la, lb, x, n, c, y, m, d, rfl, rfl, rfl, rfl, by omega, by omega, HQ8.out⟩
              · go_wp2_with fail
                refine (q8_copy HQ8.out).mono ?_
                rintro e w6 ⟨t2, ex2, rfl, H6⟩
                clear HQ8
                go_wp2
                go_meet
                exact ⟨ex2, t, t2, la, la, x, n, c, x, n, c, rfl, rfl, rfl, rfl, by omega, by omega, H6.out⟩
              · go_wp2
                go_meet
                exact ⟨ex, o, t, lb, la, y, m, d, x, n, c, rfl, rfl, rfl, rfl, by omega, by omega, HQ8.out.swap⟩
            case rest => as_aux_lemma =>
              clear HQ8 b0 b1 b2 hn hm hw1 hw2 hq5
              obtain ⟨ex, t, o, la, lb, x, n, c, y, m, d, rfl, rfl, rfl, rfl, hn, hm, HQ9⟩ := hcut
              have b1 : wc.cell? ⟨bx, 1, none⟩ = some (.string (bstr s)) := by rw [Lib.cell_of_heap HQ9.out.b]; rfl
              obtain ⟨G1, G2, hG⟩ : ∃ G1 G2, Tm.get la s = (G1, G2) := ⟨_, _, rfl⟩
              have HG := Lib.hid hG
              clear hG
              go_wp2_with fail
              refine (q8_get HQ9.out).mono ?_
              rintro e w6 ⟨rfl, h6⟩
              rw [HG.out]
              have H6 := Lib.hid h6
              have b1 : w6.cell? ⟨bx, 1, none⟩ = some (.string (bstr s)) := by rw [Lib.cell_of_heap H6.out.b]; rfl
              clear h6 HQ9
              go_wp2_with fail
              refine (q8_refget H6.out (by omega)).mono ?_
              rintro e w7 ⟨rfl, h7⟩
              rw [HG.out]
              have H7 := Lib.hid h7
              clear h7 H6 b1 HG
              have hGG : (G1 != G1) = false := by simp
              have hGG2 : (G2 != G2) = false := by simp
              go_upto_region 26 with (fail)
              obtain ⟨R, F, hRF, hFn, HA, HB, HC, HD⟩ := q8_reads (k := s) H7.out (by omega) (by omega)
              have hRR : ((R : Int) != (R : Int)) = false := by simp
              have hnn : ((n : Int) != (n : Int)) = false := by simp
              have hmm : ((m : Int) != (m : Int)) = false := by simp
              have hsub : IntKind.i64.wrap ((n : Int) - (F : Int)) = (R : Int) := by rw [IntKind.wrap_i64]; omega
              have HB0 : Hid (Below w7.heap.size w7 w7.drew) := below_dr8 w7
              have HBS : Hid (w7.heap[bx]? = some (.cells #[.int .i64 k, .string (bstr s), .int .i64 v] 28 (0, 0))) := H7.out.b
              have SB : Hid (∀ w', Below w7.heap.size w7 w' → w'.cell? ⟨bx, 1, none⟩ = some (.string (bstr s))) := fun w' hb => by rw [Lib.cell_of_heap ((hb.block _ (heap_lt HBS.out)).trans HBS.out)]; rfl
              have T1 := Lib.hid True.intro
              clear hRF
              go_region_held3 (fun w' => w'.cell? ⟨bx, 1, none⟩ = some (.string (bstr s))) (first | exact SB.out _ HB0.out | exact SB.out _ (by assumption))
                (first
                  | (go_at_call 16; clear T1; refine (HA.out _ HB0.out).mono ?_; rintro e w8 ⟨rfl, hb8⟩)
                  | (go_at_call 16; refine (HB.out _ hb8).mono ?_; rintro e w9 ⟨rfl, hb9⟩)
                  | (go_at_call 17; refine (HC.out _ hb9).mono ?_; rintro e w10 ⟨rfl, hb10⟩)
                  | (go_at_call 18; refine (HD.out _ hb10).mono ?_; rintro e w11 ⟨z, f, rfl, hb11⟩))
              have H8 := Lib.hid (H7.out.below hb11)
              clear hb8 hb9 hb10 hb11 HA HB HC HD SB HBS HB0 H7 b1 hGG hGG2 hRR hnn hmm hsub hFn
              go_wp2_with fail
              go_roundw
              case rel => exact ⟨j + 1, ex, t, o, la, lb, x, n, c, y, m, d, by omega, by omega, by go_num, rfl, rfl, rfl, rfl, hn, hm, H8.out.q⟩
              case measure => simp [ixOf]; omega
end Go.Proofs.Ytlakolcjgnmllaa
