/- Package log: the head in a sector: headIn. -/
import Derived.Test.YtofbignggadkiaaLogK5
import Derived.Deep.CutBlock
import Derived.Deep.DeepCutAuto
namespace Go.Proofs.Ytofbignggadkiaa
open Go.RowKit

theorem yt_row {W : World} {g off n cap : Nat} {s : List UInt8} {t : TypeId} {fr : Nat × Nat} (h : W.heap[g]? = some (.cells (yc s).toArray t fr)) (hn : off + n ≤ s.length) (hc : n ≤ cap) : Yt (.slice (some ⟨g, off, none⟩) n cap) ((s.drop off).take n) W := by
  have hl : ((s.drop off).take n).length = n := by rw [List.length_take, List.length_drop]; omega
  refine .inr ⟨g, off, cap, by rw [hl], by omega, heap_lt h, fun j hj => ?_⟩
  rw [hl] at hj
  rw [Lib.cell_of_heap h, List.getElem?_toArray, yc_get]
  have h1 : off + j < s.length := by omega
  simp [List.getD, h1, hj]
theorem cell_yc {W : World} {g : Nat} {s : List UInt8} {t : TypeId} {fr : Nat × Nat} (h : W.heap[g]? = some (.cells (yc s).toArray t fr)) (j : Nat) (hj : j < s.length) : W.cell? ⟨g, j, none⟩ = some (.int .u8 ((s.getD j 0).toNat : Int)) := by
  rw [Lib.cell_of_heap h, List.getElem?_toArray, yc_get]; simp [List.getD, hj]
theorem wrap_vl (l : List UInt8) (h : l.length ≤ 4) : wrap64 (Lm.vl l : Int) = (Lm.vl l : Int) := by
  have h1 := Lm.vl_b l
  have h2 : (256 : Nat) ^ l.length ≤ 256 ^ 4 := Nat.pow_le_pow_right (by decide) h
  have h3 : (256 : Nat) ^ 4 = 4294967296 := by decide
  unfold wrap64; omega
theorem num4_vl (l : List UInt8) (h : l.length ≤ 4) : Lm.num l = (Lm.vl l : Int) := by
  have h1 := Lm.vl_b l
  have h2 : (256 : Nat) ^ l.length ≤ 256 ^ 4 := Nat.pow_le_pow_right (by decide) h
  have h3 : (256 : Nat) ^ 4 = 4294967296 := by decide
  exact Lm.num_vl l 0 (by show Lm.vl l < _; omega)
theorem vl4_lt (l : List UInt8) (h : l.length ≤ 4) : (Lm.vl l : Int) ≤ 4294967295 := by
  have h1 := Lm.vl_b l
  have h2 : (256 : Nat) ^ l.length ≤ 256 ^ 4 := Nat.pow_le_pow_right (by decide) h
  have h3 : (256 : Nat) ^ 4 = 4294967296 := by decide
  omega
/-- what speaks against a head, as the package asks it -/
def Lm.badK (s : List UInt8) (i : Nat) (N : Int) : Bool :=
  !(s.take 8 == s.drop 56) || decide (N ≤ 0) || decide (4611686018427387904 ≤ N) || (N.tmod 2 != (i : Int)) || decide (32 < ((s.getD 16 0).toNat : Int)) || decide ((Lm.vl ((s.drop 8).take 4) : Int) < (Lm.vl ((s.drop 12).take 4) : Int))
theorem rhead_k (s : List UInt8) (i : Nat) (hs : s.length = 64) (N : Int) (hN : N = wrap64 (Lm.vl (s.take 8) : Int)) :
    Lm.rhead s i = if Lm.badK s i N = true then none else some ⟨N.toNat, Lm.vl ((s.drop 8).take 4), Lm.vl ((s.drop 12).take 4), (s.drop 17).take (s.getD 16 0).toNat⟩ := by
  have e1 := num4_vl ((s.drop 8).take 4) (by simp; omega)
  have e2 := num4_vl ((s.drop 12).take 4) (by simp; omega)
  have l8 : (s.take 8).length = 8 := by simp; omega
  have hb := Lm.vl_b (s.take 8)
  rw [l8] at hb
  have h3 : (256 : Nat) ^ 8 = 18446744073709551616 := by decide
  rw [h3] at hb
  unfold Lm.rhead
  rw [e1, e2]
  by_cases hv : Lm.vl (s.take 8) < 4611686018427387904
  · have e3 : Lm.num (s.take 8) = (Lm.vl (s.take 8) : Int) := Lm.num_vl _ 0 hv
    have hNv : N = (Lm.vl (s.take 8) : Int) := by rw [hN]; unfold wrap64; omega
    rw [e3, ← hNv]
    have hN0 : 0 ≤ N := by omega
    have hm : N.tmod 2 = N % 2 := Int.tmod_eq_emod_of_nonneg hN0
    have iff : (s.take 8 ≠ s.drop 56 ∨ N < 1 ∨ 4611686018427387904 ≤ N ∨ N % 2 ≠ (i : Int) ∨ 32 < (s.getD 16 0).toNat ∨ (Lm.vl ((s.drop 8).take 4) : Int) < (Lm.vl ((s.drop 12).take 4) : Int)) ↔ Lm.badK s i N = true := by
      unfold Lm.badK
      rw [hm]
      simp only [Bool.or_eq_true, Bool.not_eq_true', decide_eq_true_eq, beq_eq_false_iff_ne, bne_iff_ne, ne_eq]
      constructor
      · rintro (h | h | h | h | h | h)
        · exact .inl (.inl (.inl (.inl (.inl h))))
        · exact .inl (.inl (.inl (.inl (.inr (by omega)))))
        · exact .inl (.inl (.inl (.inr h)))
        · exact .inl (.inl (.inr h))
        · exact .inl (.inr (by omega))
        · exact .inr h
      · rintro (((((h | h) | h) | h) | h) | h)
        · exact .inl h
        · exact .inr (.inl (by omega))
        · exact .inr (.inr (.inl h))
        · exact .inr (.inr (.inr (.inl h)))
        · exact .inr (.inr (.inr (.inr (.inl (by omega)))))
        · exact .inr (.inr (.inr (.inr (.inr h))))
    by_cases hbad : Lm.badK s i N = true
    · rw [if_pos hbad, if_pos (iff.2 hbad)]
    · rw [if_neg hbad, if_neg (fun h => hbad (iff.1 h)), Int.toNat_natCast, Int.toNat_natCast]
  · have e3 : Lm.num (s.take 8) = -1 := Lm.num_neg _ 0 (fun e => by rw [e] at l8; cases l8) (by show _ ≤ Lm.vl _; omega) (by omega) (by rw [l8]; decide)
    have hNv : N ≤ 0 ∨ 4611686018427387904 ≤ N := by rw [hN]; unfold wrap64; omega
    have hbad : Lm.badK s i N = true := by
      unfold Lm.badK
      rcases hNv with h | h
      · simp [h]
      · simp [h]
    rw [if_pos hbad, if_pos (.inr (.inl (by rw [e3]; decide)))]
def hd0 : Option Lm.Hd → Lm.Hd
  | none => ⟨0, 0, 0, []⟩
  | some h => h
theorem set1k {B : Nat} {a w : World} (h : Below B a w) {g : Nat} (hg : B ≤ g) (o : Nat) (v : Value) : Below B a (w.setCell ⟨g, o, none⟩ v) :=
  ⟨h.os, h.tape, h.output, by simpa [World.setCell] using h.size, fun k hk => (Below.heap_setCell _ _ _ _ (by show k ≠ g; omega)).trans (h.block k hk)⟩
theorem set4k {B : Nat} {a w : World} (h : Below B a w) {g : Nat} (hg : B ≤ g) (v0 v1 v2 v3 : Value) : Below B a ((((w.setCell ⟨g, 0, none⟩ v0).setCell ⟨g, 1, none⟩ v1).setCell ⟨g, 2, none⟩ v2).setCell ⟨g, 3, none⟩ v3) :=
  set1k (set1k (set1k (set1k h hg _ _) hg _ _) hg _ _) hg _ _
set_option maxHeartbeats 2000000 in
set_option maxRecDepth 100000 in
theorem log_headIn (s : List UInt8) (i : Nat) (w : World) (hs : s.length = 64) (_hi : i < 2) :
    Calls Try.prog 48 #[.agg (yc s).toArray, .int .i64 (i : Int)] w fun e w' => ∃ a m c, e = .returned (.tuple #[hdK ((hd0 (Lm.rhead s i)).n : Int) ((hd0 (Lm.rhead s i)).epoch : Int) ((hd0 (Lm.rhead s i)).base : Int) (.slice a m c), .bool (Lm.rhead s i).isSome]) ∧ Ytb w.heap.size a m c (hd0 (Lm.rhead s i)).body w' ∧ Below w.heap.size w w' := by
  obtain ⟨N, hN⟩ : ∃ N, N = wrap64 (Lm.vl (s.take 8) : Int) := ⟨_, rfl⟩
  obtain ⟨E, hE⟩ : ∃ E : Int, E = (Lm.vl ((s.drop 8).take 4) : Int) := ⟨_, rfl⟩
  obtain ⟨Ba, hBa⟩ : ∃ Ba : Int, Ba = (Lm.vl ((s.drop 12).take 4) : Int) := ⟨_, rfl⟩
  have HRK := Lib.hid (rhead_k s i hs N hN)
  obtain ⟨G, hG⟩ : ∃ G : Nat → Nat → Int, ∀ off n, G off n = wrap64 (Lm.vl ((s.drop off).take n) : Int) := ⟨fun off n => wrap64 (Lm.vl ((s.drop off).take n) : Int), fun _ _ => rfl⟩
  have g1 : G 0 8 = N := by rw [hG, hN]; rfl
  have g2 : G 8 4 = E := by rw [hG, wrap_vl _ (by simp; omega), hE]
  have g3 : G 12 4 = Ba := by rw [hG, wrap_vl _ (by simp; omega), hBa]
  have HG : ∀ (W : World) (off n cap : Nat), W.heap[w.heap.size]? = some (.cells (yc s).toArray 93 (0, 0)) → off + n ≤ 64 → n ≤ cap → n ≤ 8 → Calls Try.prog 59 #[.slice (some ⟨w.heap.size, off, none⟩) n cap] W fun e w' => e = .returned (.int .i64 (G off n)) ∧ W = w' := fun W off n cap hW h1 h2 h3 => by
    rw [hG]
    exact log_number _ _ _ _ W (yt_row hW (by omega) h2) (by simp; omega)
  have HNB := Lib.hid hN; have HE := Lib.hid hE; have HBa := Lib.hid hBa; have HS := Lib.hid hs
  obtain ⟨A, hA⟩ : ∃ A, A = (yc s).toArray := ⟨_, rfl⟩
  rw [← hA]
  rw [← hA] at HG
  have HA := Lib.hid hA
  have HG := Lib.hid HG
  have HGG := Lib.hid (And.intro g1 (And.intro g2 g3))
  clear hN hE hBa hs hA hG g1 g2 g3
  go_enter Try.func48, Try.ntmps48
  go_upto_region 1 with (fail)
  obtain ⟨W0, hW0⟩ : ∃ W0, W0 = (w.alloc (.cells A 93)).alloc (.cells #[.int .i64 0, .int .i64 0, .int .i64 0, .slice none 0 0] 74) := ⟨_, rfl⟩
  have HG0 : Hid (W0.heap[w.heap.size]? = some (.cells A 93 (0, 0))) := by show _ = _; rw [hW0, heap_alloc2_old]
  have HR0 : Hid (W0.heap[w.heap.size + 1]? = some (.cells #[.int .i64 0, .int .i64 0, .int .i64 0, .slice none 0 0] 74 (0, 0))) := by show _ = _; rw [hW0, heap_alloc2_new]
  have HB0 : Hid (Below w.heap.size w W0) := by rw [hW0]; exact ((Below.refl _ w).alloc (Nat.le_refl _) _).alloc (by simp) _
  have hz0 : W0.heap.size = w.heap.size + 2 := by rw [hW0]; simp
  rw [← hW0]
  clear hW0
  go_cut [6] (fun hv wx => hv = .pointer (some ⟨w.heap.size + 2, 0, none⟩) ∧ wx = (W0.alloc (.cells #[.int .i64 (G 0 8), .int .i64 (G 8 4), .int .i64 (G 12 4), .slice none 0 0] 74)).drew)
  case first =>
    go_region_with (first | (go_at_call 59; refine (HG.out _ _ _ _ (by first | (rw [heap_drew]; exact HG0.out) | (rw [heap_drew, Below.heap_alloc _ _ _ (heap_lt HG0.out)]; exact HG0.out)) (by decide) (by decide) (by decide)).mono ?_; rintro e w1 ⟨rfl, rfl⟩))
    all_goals
      go_wp2
      go_meet
    all_goals exact ⟨rfl, rfl⟩
  case rest =>
    obtain ⟨rfl, hwx⟩ := hcut
    obtain ⟨Wa, rfl⟩ : ∃ Wa, Wa = wc := ⟨wc, rfl⟩
    rw [HGG.out.1, HGG.out.2.1, HGG.out.2.2] at hwx
    have HGA : Hid (Wa.heap[w.heap.size]? = some (.cells A 93 (0, 0))) := by show _ = _; rw [hwx, heap_drew, Below.heap_alloc _ _ _ (heap_lt HG0.out)]; exact HG0.out
    have HRA : Hid (Wa.heap[w.heap.size + 1]? = some (.cells #[.int .i64 0, .int .i64 0, .int .i64 0, .slice none 0 0] 74 (0, 0))) := by show _ = _; rw [hwx, heap_drew, Below.heap_alloc _ _ _ (heap_lt HR0.out)]; exact HR0.out
    have HHA : Hid (Wa.heap[w.heap.size + 2]? = some (.cells #[.int .i64 N, .int .i64 E, .int .i64 Ba, .slice none 0 0] 74 (0, 0))) := by show _ = _; rw [hwx, heap_drew, ← hz0, heap_alloc_new]
    have HBA : Hid (Below w.heap.size w Wa) := by rw [hwx]; exact (HB0.out.alloc (by omega) _).trans ((below_drew0 _).mono (by simp; omega))
    obtain ⟨nb, hnb⟩ : ∃ nb : Nat, nb = (s.getD 16 0).toNat := ⟨_, rfl⟩
    have i16 : Wa.cell? ⟨w.heap.size, 16, none⟩ = some (.int .u8 (nb : Int)) := by rw [hnb]; exact cell_yc (by rw [← HA.out]; exact HGA.out) 16 (by rw [HS.out]; decide)
    have hnb8 : nb ≤ 255 := by have := (s.getD 16 0).toNat_lt; omega
    have hlA := heap_lt HGA.out
    have hwn : wrap64 (nb : Int) = (nb : Int) := by unfold wrap64; omega
    have HNBv := Lib.hid hnb
    clear hwx HG0 HR0 HB0 hz0 HGG hnb
    clear HG
    go_upto_region 3 with (fail)
    obtain ⟨bad, hbad⟩ : ∃ bad, bad = Lm.badK s i N := ⟨_, rfl⟩
    obtain ⟨b1, hb1⟩ : ∃ b, b = (s.take 8 == s.drop 56) := ⟨_, rfl⟩
    obtain ⟨b2, hb2⟩ : ∃ b, b = decide (N ≤ 0) := ⟨_, rfl⟩
    obtain ⟨b3, hb3⟩ : ∃ b, b = decide (4611686018427387904 ≤ N) := ⟨_, rfl⟩
    obtain ⟨m2, hm2⟩ : ∃ m2 : Int, m2 = N.tmod 2 := ⟨_, rfl⟩
    obtain ⟨b4, hb4⟩ : ∃ b, b = (m2 != (i : Int)) := ⟨_, rfl⟩
    obtain ⟨b5, hb5⟩ : ∃ b, b = decide ((32 : Int) < (nb : Int)) := ⟨_, rfl⟩
    obtain ⟨b6, hb6⟩ : ∃ b, b = decide (E < Ba) := ⟨_, rfl⟩
    have HBAD : Hid (bad = (!b1 || b2 || b3 || b4 || b5 || b6)) := by show _ = _; rw [hbad, hb1, hb2, hb3, hb4, hb5, hb6, hm2, HE.out, HBa.out, HNBv.out]; rfl
    have HWH : Hid (∀ W, Calls Try.prog 60 #[.agg A] W fun e w' => e = .returned (.bool b1) ∧ Below W.heap.size W w') := fun W => by rw [hb1, HA.out]; exact log_whole s W HS.out
    have q2 : decide (N ≤ 0) = b2 := hb2.symm
    have q3 : decide (4611686018427387904 ≤ N) = b3 := hb3.symm
    have q4 : (m2 != (i : Int)) = b4 := hb4.symm
    have q5 : decide ((32 : Int) < (nb : Int)) = b5 := hb5.symm
    have q6 : decide (E < Ba) = b6 := hb6.symm
    have hmt : N.tmod 2 = m2 := hm2.symm
    have hmb : -1 ≤ m2 ∧ m2 ≤ 1 := by rw [hm2]; have := Int.tmod_lt_of_pos N (show (0:Int) < 2 by omega); have := Int.lt_tmod_of_pos N (show (0:Int) < 2 by omega); omega
    obtain ⟨hm3, hm4⟩ := hmb
    have hwm : wrap64 m2 = m2 := by unfold wrap64; omega
    have HBE := Lib.hid hbad
    have HA64 : Hid (A.size = 64) := by show _ = _; rw [HA.out, List.size_toArray, yc_length, HS.out]
    clear hb1 hb2 hb3 hb4 hb5 hb6 hm2 hbad
    go_cut [48] (fun bv wx => bv = .bool bad ∧ Hid (Below Wa.heap.size Wa wx))
    case first =>
      go_wp2_with (first
        | (with_reducible refine wpList_load_row ?_ 93 (.tmp 2) ?_ w.heap.size ?_ 93 A (0, 0) (.array 64 5) HGA.out Try.underlying93 rfl ?_ ?_
           · rfl
           · rfl
           · rfl
           · rw [HA64.out]; exact infoL2))
      refine (HWH.out _).mono ?_
      rintro e w5 ⟨rfl, hb5⟩
      have HB5 := Lib.hid hb5
      have hh5 : w5.heap[w.heap.size + 2]? = some (.cells #[.int .i64 N, .int .i64 E, .int .i64 Ba, .slice none 0 0] 74 (0, 0)) := by rw [hb5.block _ (heap_lt HHA.out)]; exact HHA.out
      have c0 : w5.cell? ⟨w.heap.size + 2, 0, none⟩ = some (.int .i64 N) := by rw [Lib.cell_of_heap hh5]; rfl
      have c1 : w5.cell? ⟨w.heap.size + 2, 1, none⟩ = some (.int .i64 E) := by rw [Lib.cell_of_heap hh5]; rfl
      have c2 : w5.cell? ⟨w.heap.size + 2, 2, none⟩ = some (.int .i64 Ba) := by rw [Lib.cell_of_heap hh5]; rfl
      clear hb5 hh5 HWH i16 hlA
      cases b1 with
      | false =>
        go_wp2
        go_meet
        exact ⟨by rw [HBAD.out]; rfl, HB5.out⟩
      | true =>
      cases b2 with
      | true =>
        go_wp2
        go_meet
        exact ⟨by rw [HBAD.out]; rfl, HB5.out⟩
      | false =>
      cases b3 with
      | true =>
        go_wp2
        go_meet
        exact ⟨by rw [HBAD.out]; rfl, HB5.out⟩
      | false =>
      cases b4 with
      | true =>
        go_wp2
        go_meet
        exact ⟨by rw [HBAD.out]; rfl, HB5.out⟩
      | false =>
      cases b5 with
      | true =>
        go_wp2
        go_meet
        exact ⟨by rw [HBAD.out]; rfl, HB5.out⟩
      | false =>
      cases b6 with
      | true =>
        go_wp2
        go_meet
        exact ⟨by rw [HBAD.out]; rfl, HB5.out⟩
      | false =>
        go_wp2
        go_meet
        exact ⟨by rw [HBAD.out]; rfl, HB5.out⟩
    case rest =>
      obtain ⟨rfl, HBx⟩ := hcut
      obtain ⟨Wb, rfl⟩ : ∃ Wb, Wb = wc := ⟨wc, rfl⟩
      have HGB : Hid (Wb.heap[w.heap.size]? = some (.cells A 93 (0, 0))) := by show _ = _; rw [HBx.out.block _ (heap_lt HGA.out)]; exact HGA.out
      have hgr : Wb.heap[w.heap.size + 1]? = some (.cells #[.int .i64 0, .int .i64 0, .int .i64 0, .slice none 0 0] 74 (0, 0)) := by rw [HBx.out.block _ (heap_lt HRA.out)]; exact HRA.out
      have hgh : Wb.heap[w.heap.size + 2]? = some (.cells #[.int .i64 N, .int .i64 E, .int .i64 Ba, .slice none 0 0] 74 (0, 0)) := by rw [HBx.out.block _ (heap_lt HHA.out)]; exact HHA.out
      have HBW : Hid (Below w.heap.size w Wb) := HBA.out.trans (HBx.out.mono HBA.out.size)
      have r0 : Wb.cell? ⟨w.heap.size + 1, 0, none⟩ = some (.int .i64 0) := by rw [Lib.cell_of_heap hgr]; rfl
      have r1 : Wb.cell? ⟨w.heap.size + 1, 1, none⟩ = some (.int .i64 0) := by rw [Lib.cell_of_heap hgr]; rfl
      have r2 : Wb.cell? ⟨w.heap.size + 1, 2, none⟩ = some (.int .i64 0) := by rw [Lib.cell_of_heap hgr]; rfl
      have r3 : Wb.cell? ⟨w.heap.size + 1, 3, none⟩ = some (.slice none 0 0) := by rw [Lib.cell_of_heap hgr]; rfl
      have c0 : Wb.cell? ⟨w.heap.size + 2, 0, none⟩ = some (.int .i64 N) := by rw [Lib.cell_of_heap hgh]; rfl
      have c1 : Wb.cell? ⟨w.heap.size + 2, 1, none⟩ = some (.int .i64 E) := by rw [Lib.cell_of_heap hgh]; rfl
      have c2 : Wb.cell? ⟨w.heap.size + 2, 2, none⟩ = some (.int .i64 Ba) := by rw [Lib.cell_of_heap hgh]; rfl
      have c3 : Wb.cell? ⟨w.heap.size + 2, 3, none⟩ = some (.slice none 0 0) := by rw [Lib.cell_of_heap hgh]; rfl
      have fr := fun o => Lib.frozen_of_heap hgr o
      have fh := fun o => Lib.frozen_of_heap hgh o
      have hlr := heap_lt hgr; have hlh := heap_lt hgh
      have hlg := heap_lt HGB.out
      have hb50 : b5 = true → bad = true := fun h => by rw [HBAD.out, h]; simp
      have hb20 : b2 = true → bad = true := fun h => by rw [HBAD.out, h]; simp
      clear hgr hgh HBx HGA HRA HHA HBA i16 hlA q4 q6 hmt hm3 hm4 hwm HWH HBAD q3
      cases bad with
      | true =>
        have HR : Hid (Lm.rhead s i = none) := by show _ = _; rw [HRK.out, if_pos HBE.out.symm]
        go_wp2
        refine bodyPost_ret (v := .tuple #[.agg #[.int .i64 0, .int .i64 0, .int .i64 0, .slice none 0 0], .bool false]) (by simp [results, Try.results48, go_sem, r0, r1, r2, r3]) rfl ⟨none, 0, 0, ?_, ?_, ?_⟩
        · rw [HR.out]; rfl
        · rw [HR.out]; exact ⟨rfl, .inl ⟨_, _, rfl, rfl⟩, fun h => absurd h (by decide)⟩
        · exact set4k HBW.out (Nat.le_succ _) _ _ _ _
      | false =>
        have hnb32 : nb ≤ 32 := by
          cases b5 with
          | true => exact absurd (hb50 rfl) (by decide)
          | false => have := of_decide_eq_false q5; omega
        have hn0 : 0 < N := by
          cases b2 with
          | true => exact absurd (hb20 rfl) (by decide)
          | false => have := of_decide_eq_false q2; omega
        have HR : Hid (Lm.rhead s i = some ⟨N.toNat, Lm.vl ((s.drop 8).take 4), Lm.vl ((s.drop 12).take 4), (s.drop 17).take (s.getD 16 0).toNat⟩) := by show _ = _; rw [HRK.out, if_neg (by rw [← HBE.out]; decide)]
        have hN2 : ((N.toNat : Nat) : Int) = N := Int.toNat_of_nonneg (by omega)
        obtain ⟨m, hm⟩ : ∃ m : Nat, m = 17 + nb := ⟨_, rfl⟩
        have hmi : (17 : Int) + (nb : Int) = (m : Int) := by omega
        have hmw : wrap64 ((17 : Int) + (nb : Int)) = (m : Int) := by unfold wrap64; omega
        have hm49 : m ≤ 49 := by omega
        have hm17 : 17 ≤ m := by omega
        have hmn : m - 17 = nb := by omega
        have hm64i : (m : Int) ≤ 64 := by omega
        have hm17i : (17 : Int) ≤ (m : Int) := by omega
        have HF : Hid (hdK ((hd0 (Lm.rhead s i)).n : Int) ((hd0 (Lm.rhead s i)).epoch : Int) ((hd0 (Lm.rhead s i)).base : Int) (.slice (some ⟨w.heap.size, 17, none⟩) nb 47) = .agg #[.int .i64 N, .int .i64 E, .int .i64 Ba, .slice (some ⟨w.heap.size, 17, none⟩) nb 47] ∧ (Lm.rhead s i).isSome = true ∧ (hd0 (Lm.rhead s i)).body = (s.drop 17).take nb) := by
          rw [HR.out, HE.out, HBa.out, HNBv.out]
          refine ⟨?_, rfl, rfl⟩
          show Value.agg #[.int .i64 ((N.toNat : Nat) : Int), _, _, _] = _
          rw [hN2]; rfl
        have HNB32 := Lib.hid hnb32
        clear hn0 hN2 HR hb50 hb20 q2 q5 hm
        go_wp2
        refine bodyPost_ret (v := .tuple #[.agg #[.int .i64 N, .int .i64 E, .int .i64 Ba, .slice (some ⟨w.heap.size, 17, none⟩) nb 47], .bool true]) (by simp [results, Try.results48, go_sem, r0, r1, r2, r3]) rfl ⟨some ⟨w.heap.size, 17, none⟩, nb, 47, ?_, ?_, ?_⟩
        · rw [HF.out.1, HF.out.2.1]
        · rw [HF.out.2.2]
          have hl : ((s.drop 17).take nb).length = nb := by rw [List.length_take, List.length_drop, HS.out]; have := HNB32.out; omega
          have hy : Ytb w.heap.size (some ⟨w.heap.size, 17, none⟩) nb 47 ((s.drop 17).take nb) Wb :=
            ⟨hl.symm, yt_row (by rw [← HA.out]; exact HGB.out) (by rw [HS.out]; have := HNB32.out; omega) (by have := HNB32.out; omega), fun _ x e => by injection e with e; subst e; exact ⟨Nat.le_refl _, heap_lt HGB.out⟩⟩
          have ho : Only (fun k => k = w.heap.size + 1 ∨ k = w.heap.size + 2) Wb ((((((Wb.setCell ⟨w.heap.size + 2, 3, none⟩ (.slice (some ⟨w.heap.size, 17, none⟩) nb 47)).setCell ⟨w.heap.size + 1, 0, none⟩ (.int .i64 N)).setCell ⟨w.heap.size + 1, 1, none⟩ (.int .i64 E)).setCell ⟨w.heap.size + 1, 2, none⟩ (.int .i64 Ba)).setCell ⟨w.heap.size + 1, 3, none⟩ (.slice (some ⟨w.heap.size, 17, none⟩) nb 47))) :=
            Only.setCell (Only.setCell (Only.setCell (Only.setCell (Only.setCell (Only.refl _ _) (q := ⟨w.heap.size + 2, 3, none⟩) (.inl (.inr rfl)) _) (q := ⟨w.heap.size + 1, 0, none⟩) (.inl (.inl rfl)) _) (q := ⟨w.heap.size + 1, 1, none⟩) (.inl (.inl rfl)) _) (q := ⟨w.heap.size + 1, 2, none⟩) (.inl (.inl rfl)) _) (q := ⟨w.heap.size + 1, 3, none⟩) (.inl (.inl rfl)) _
          refine ⟨hy.1, hy.2.1.keepO ho (fun _ x e => by injection e with e; subst e; show ¬ (w.heap.size = _ ∨ w.heap.size = _); omega), fun _ x e => by injection e with e; subst e; exact ⟨Nat.le_refl _, Nat.lt_of_lt_of_le (heap_lt HGB.out) ho.size⟩⟩
        · exact set4k (set1k HBW.out (by omega) _ _) (Nat.le_succ _) _ _ _ _
end Go.Proofs.Ytofbignggadkiaa
