/- Package log: the frame in a sector: frameIn. -/
import Derived.Test.YtofbignggadkiaaLogK6
namespace Go.Proofs.Ytofbignggadkiaa
open Go.RowKit

/-- what speaks against a frame, as the package asks it -/
def Lm.badF (s : List UInt8) (k : Nat) : Bool :=
  !(s.take 8 == s.drop 56) || ((Lm.vl ((s.drop 4).take 4) : Int) != (k : Int)) || decide ((1 : Int) < ((s.getD 8 0).toNat : Int)) || decide ((46 : Int) < ((s.getD 9 0).toNat : Int))
theorem fr_k (s : List UInt8) (k : Nat) (hs : s.length = 64) :
    Lm.fr s k = if Lm.badF s k = true then none else some (Lm.vl (s.take 4), (((s.getD 8 0).toNat : Int) == 1), (s.drop 10).take (s.getD 9 0).toNat) := by
  have e1 := num4_vl ((s.drop 4).take 4) (by simp; omega)
  have e2 := num4_vl (s.take 4) (by simp; omega)
  unfold Lm.fr
  rw [e1, e2]
  have iff : (s.take 8 ≠ s.drop 56 ∨ (Lm.vl ((s.drop 4).take 4) : Int) ≠ (k : Int) ∨ 1 < (s.getD 8 0).toNat ∨ 46 < (s.getD 9 0).toNat) ↔ Lm.badF s k = true := by
    unfold Lm.badF
    simp only [Bool.or_eq_true, Bool.not_eq_true', decide_eq_true_eq, beq_eq_false_iff_ne, bne_iff_ne, ne_eq]
    constructor
    · rintro (h | h | h | h)
      · exact .inl (.inl (.inl h))
      · exact .inl (.inl (.inr h))
      · exact .inl (.inr (by omega))
      · exact .inr (by omega)
    · rintro (((h | h) | h) | h)
      · exact .inl h
      · exact .inr (.inl h)
      · exact .inr (.inr (.inl (by omega)))
      · exact .inr (.inr (.inr (by omega)))
  by_cases hbad : Lm.badF s k = true
  · rw [if_pos hbad, if_pos (iff.2 hbad)]
  · rw [if_neg hbad, if_neg (fun h => hbad (iff.1 h)), Int.toNat_natCast]
    have h8 : (s.getD 8 0).toNat ≤ 1 := by
      have h : ¬ (1 < (s.getD 8 0).toNat) := fun h => hbad (iff.1 (.inr (.inr (.inl h))))
      omega
    have e : ((s.getD 8 0).toNat != 0) = (((s.getD 8 0).toNat : Int) == 1) := by
      generalize (s.getD 8 0).toNat = y at h8
      match y, h8 with
      | 0, _ => rfl
      | 1, _ => rfl
    rw [e]
/-- a frame as the package has it -/
def frK (k : Nat) (v : Value) : Option (Nat × Bool × List UInt8) → Value
  | none => .agg #[.int .i64 0, .int .i64 0, .bool false, v]
  | some (ep, last, _) => .agg #[.int .i64 (ep : Int), .int .i64 (k : Int), .bool last, v]
def frB : Option (Nat × Bool × List UInt8) → List UInt8
  | none => []
  | some (_, _, b) => b
set_option maxHeartbeats 2000000 in
set_option maxRecDepth 100000 in
theorem log_frameIn (s : List UInt8) (k : Nat) (w : World) (hs : s.length = 64) (_hk : (k : Int) ≤ 4294967295) :
    Calls Try.prog 49 #[.agg (yc s).toArray, .int .i64 (k : Int)] w fun e w' => ∃ a m c, e = .returned (.tuple #[frK k (.slice a m c) (Lm.fr s k), .bool (Lm.fr s k).isSome]) ∧ Ytb w.heap.size a m c (frB (Lm.fr s k)) w' ∧ Below w.heap.size w w' := by
  obtain ⟨E, hE⟩ : ∃ E : Int, E = (Lm.vl (s.take 4) : Int) := ⟨_, rfl⟩
  obtain ⟨K, hK⟩ : ∃ K : Int, K = (Lm.vl ((s.drop 4).take 4) : Int) := ⟨_, rfl⟩
  have HRK := Lib.hid (fr_k s k hs)
  obtain ⟨G, hG⟩ : ∃ G : Nat → Nat → Int, ∀ off n, G off n = wrap64 (Lm.vl ((s.drop off).take n) : Int) := ⟨fun off n => wrap64 (Lm.vl ((s.drop off).take n) : Int), fun _ _ => rfl⟩
  have g1 : G 0 4 = E := by rw [hG, wrap_vl _ (by simp; omega), hE]; rfl
  have g2 : G 4 4 = K := by rw [hG, wrap_vl _ (by simp; omega), hK]
  have HG : ∀ (W : World) (off n cap : Nat), W.heap[w.heap.size]? = some (.cells (yc s).toArray 93 (0, 0)) → off + n ≤ 64 → n ≤ cap → n ≤ 8 → Calls Try.prog 59 #[.slice (some ⟨w.heap.size, off, none⟩) n cap] W fun e w' => e = .returned (.int .i64 (G off n)) ∧ W = w' := fun W off n cap hW h1 h2 h3 => by
    rw [hG]
    exact log_number _ _ _ _ W (yt_row hW (by omega) h2) (by simp; omega)
  have HE := Lib.hid hE; have HK := Lib.hid hK; have HS := Lib.hid hs
  obtain ⟨A, hA⟩ : ∃ A, A = (yc s).toArray := ⟨_, rfl⟩
  rw [← hA]
  rw [← hA] at HG
  have HA := Lib.hid hA
  have HG := Lib.hid HG
  have HGG := Lib.hid (And.intro g1 g2)
  obtain ⟨x8, hx8⟩ : ∃ x8 : Nat, x8 = (s.getD 8 0).toNat := ⟨_, rfl⟩
  obtain ⟨B8, hB8⟩ : ∃ B8, B8 = ((x8 : Int) == 1) := ⟨_, rfl⟩
  have q8 : ((x8 : Int) == 1) = B8 := hB8.symm
  have hx8b : x8 ≤ 255 := by have := (s.getD 8 0).toNat_lt; omega
  have h8c : ∀ W : World, W.heap[w.heap.size]? = some (.cells A 93 (0, 0)) → W.cell? ⟨w.heap.size, 8, none⟩ = some (.int .u8 (x8 : Int)) := fun W h => by rw [hx8]; exact cell_yc (by rw [← hA]; exact h) 8 (by rw [hs]; decide)
  have HX8 := Lib.hid hx8; have HB8 := Lib.hid hB8; have H8C := Lib.hid h8c
  clear hE hK hs hA hG g1 g2 hx8 hB8 h8c
  go_enter Try.func49, Try.ntmps49
  go_upto_region 1 with (fail)
  obtain ⟨W0, hW0⟩ : ∃ W0, W0 = (w.alloc (.cells A 93)).alloc (.cells #[.int .i64 0, .int .i64 0, .bool false, .slice none 0 0] 99) := ⟨_, rfl⟩
  have HG0 : Hid (W0.heap[w.heap.size]? = some (.cells A 93 (0, 0))) := by show _ = _; rw [hW0, heap_alloc2_old]
  have HR0 : Hid (W0.heap[w.heap.size + 1]? = some (.cells #[.int .i64 0, .int .i64 0, .bool false, .slice none 0 0] 99 (0, 0))) := by show _ = _; rw [hW0, heap_alloc2_new]
  have HB0 : Hid (Below w.heap.size w W0) := by rw [hW0]; exact ((Below.refl _ w).alloc (Nat.le_refl _) _).alloc (by simp) _
  have hz0 : W0.heap.size = w.heap.size + 2 := by rw [hW0]; simp
  rw [← hW0]
  clear hW0
  have c8 := H8C.out _ HG0.out
  go_cut [6] (fun hv wx => hv = .pointer (some ⟨w.heap.size + 2, 0, none⟩) ∧ wx = (W0.alloc (.cells #[.int .i64 (G 0 4), .int .i64 (G 4 4), .bool B8, .slice none 0 0] 99)).drew)
  case first =>
    go_region_with (first | (go_at_call 59; refine (HG.out _ _ _ _ (by first | (rw [heap_drew]; exact HG0.out) | (rw [heap_drew, Below.heap_alloc _ _ _ (heap_lt HG0.out)]; exact HG0.out)) (by decide) (by decide) (by decide)).mono ?_; rintro e w1 ⟨rfl, rfl⟩))
    all_goals
      go_wp2
      go_meet
    all_goals exact ⟨rfl, rfl⟩
  case rest =>
    obtain ⟨rfl, hwx⟩ := hcut
    obtain ⟨Wa, rfl⟩ : ∃ Wa, Wa = wc := ⟨wc, rfl⟩
    rw [HGG.out.1, HGG.out.2] at hwx
    clear c8
    have HGA : Hid (Wa.heap[w.heap.size]? = some (.cells A 93 (0, 0))) := by show _ = _; rw [hwx, heap_drew, Below.heap_alloc _ _ _ (heap_lt HG0.out)]; exact HG0.out
    have HRA : Hid (Wa.heap[w.heap.size + 1]? = some (.cells #[.int .i64 0, .int .i64 0, .bool false, .slice none 0 0] 99 (0, 0))) := by show _ = _; rw [hwx, heap_drew, Below.heap_alloc _ _ _ (heap_lt HR0.out)]; exact HR0.out
    have HHA : Hid (Wa.heap[w.heap.size + 2]? = some (.cells #[.int .i64 E, .int .i64 K, .bool B8, .slice none 0 0] 99 (0, 0))) := by show _ = _; rw [hwx, heap_drew, ← hz0, heap_alloc_new]
    have HBA : Hid (Below w.heap.size w Wa) := by rw [hwx]; exact (HB0.out.alloc (by omega) _).trans ((below_drew0 _).mono (by simp; omega))
    obtain ⟨nb, hnb⟩ : ∃ nb : Nat, nb = (s.getD 9 0).toNat := ⟨_, rfl⟩
    have i16 : Wa.cell? ⟨w.heap.size, 9, none⟩ = some (.int .u8 (nb : Int)) := by rw [hnb]; exact cell_yc (by rw [← HA.out]; exact HGA.out) 9 (by rw [HS.out]; decide)
    have hnb8 : nb ≤ 255 := by have := (s.getD 9 0).toNat_lt; omega
    have hlA := heap_lt HGA.out
    have hwn : wrap64 (nb : Int) = (nb : Int) := by unfold wrap64; omega
    have HNBv := Lib.hid hnb
    clear hwx HG0 HR0 HB0 hz0 HGG hnb
    clear HG
    go_upto_region 3 with (fail)
    obtain ⟨bad, hbad⟩ : ∃ bad, bad = Lm.badF s k := ⟨_, rfl⟩
    obtain ⟨b1, hb1⟩ : ∃ b, b = (s.take 8 == s.drop 56) := ⟨_, rfl⟩
    obtain ⟨b2, hb2⟩ : ∃ b, b = (K != (k : Int)) := ⟨_, rfl⟩
    obtain ⟨b3, hb3⟩ : ∃ b, b = decide ((1 : Int) < (x8 : Int)) := ⟨_, rfl⟩
    obtain ⟨b4, hb4⟩ : ∃ b, b = decide ((46 : Int) < (nb : Int)) := ⟨_, rfl⟩
    have HBAD : Hid (bad = (!b1 || b2 || b3 || b4)) := by show _ = _; rw [hbad, hb1, hb2, hb3, hb4, HK.out, HX8.out, HNBv.out]; rfl
    have HWH : Hid (∀ W, Calls Try.prog 60 #[.agg A] W fun e w' => e = .returned (.bool b1) ∧ Below W.heap.size W w') := fun W => by rw [hb1, HA.out]; exact log_whole s W HS.out
    have q2 : (K != (k : Int)) = b2 := hb2.symm
    have q3 : decide ((1 : Int) < (x8 : Int)) = b3 := hb3.symm
    have q4 : decide ((46 : Int) < (nb : Int)) = b4 := hb4.symm
    have HBE := Lib.hid hbad
    have HA64 : Hid (A.size = 64) := by show _ = _; rw [HA.out, List.size_toArray, yc_length, HS.out]
    clear hb1 hb2 hb3 hb4 hbad
    go_cut [36] (fun bv wx => bv = .bool bad ∧ Hid (Below Wa.heap.size Wa wx))
    case first =>
      go_wp2_with (first
        | (with_reducible refine wpList_load_row ?_ 93 (.tmp 2) ?_ w.heap.size ?_ 93 A (0, 0) (.array 64 5) HGA.out Try.underlying93 rfl ?_ ?_
           · rfl
           · rfl
           · rfl
           · rw [HA64.out]; exact infoL2))
      refine (HWH.out _).mono ?_
      rintro e w5 ⟨rfl, hb5⟩
      have HB5 := Lib.hid hb5
      have hh5 : w5.heap[w.heap.size + 2]? = some (.cells #[.int .i64 E, .int .i64 K, .bool B8, .slice none 0 0] 99 (0, 0)) := by rw [hb5.block _ (heap_lt HHA.out)]; exact HHA.out
      have c1 : w5.cell? ⟨w.heap.size + 2, 1, none⟩ = some (.int .i64 K) := by rw [Lib.cell_of_heap hh5]; rfl
      have c8 := H8C.out w5 (by rw [hb5.block _ (heap_lt HGA.out)]; exact HGA.out)
      clear hb5 hh5 HWH i16 hlA
      cases b1 with
      | false =>
        go_wp2
        go_meet
        exact ⟨by rw [HBAD.out]; rfl, HB5.out⟩
      | true =>
      cases b2 with
      | true =>
        go_wp2
        go_meet
        exact ⟨by rw [HBAD.out]; rfl, HB5.out⟩
      | false =>
      cases b3 with
      | true =>
        go_wp2
        go_meet
        exact ⟨by rw [HBAD.out]; rfl, HB5.out⟩
      | false =>
      cases b4 with
      | true =>
        go_wp2
        go_meet
        exact ⟨by rw [HBAD.out]; rfl, HB5.out⟩
      | false =>
        go_wp2
        go_meet
        exact ⟨by rw [HBAD.out]; rfl, HB5.out⟩
    case rest =>
      obtain ⟨rfl, HBx⟩ := hcut
      obtain ⟨Wb, rfl⟩ : ∃ Wb, Wb = wc := ⟨wc, rfl⟩
      have HGB : Hid (Wb.heap[w.heap.size]? = some (.cells A 93 (0, 0))) := by show _ = _; rw [HBx.out.block _ (heap_lt HGA.out)]; exact HGA.out
      have hgr : Wb.heap[w.heap.size + 1]? = some (.cells #[.int .i64 0, .int .i64 0, .bool false, .slice none 0 0] 99 (0, 0)) := by rw [HBx.out.block _ (heap_lt HRA.out)]; exact HRA.out
      have hgh : Wb.heap[w.heap.size + 2]? = some (.cells #[.int .i64 E, .int .i64 K, .bool B8, .slice none 0 0] 99 (0, 0)) := by rw [HBx.out.block _ (heap_lt HHA.out)]; exact HHA.out
      have HBW : Hid (Below w.heap.size w Wb) := HBA.out.trans (HBx.out.mono HBA.out.size)
      have r0 : Wb.cell? ⟨w.heap.size + 1, 0, none⟩ = some (.int .i64 0) := by rw [Lib.cell_of_heap hgr]; rfl
      have r1 : Wb.cell? ⟨w.heap.size + 1, 1, none⟩ = some (.int .i64 0) := by rw [Lib.cell_of_heap hgr]; rfl
      have r2 : Wb.cell? ⟨w.heap.size + 1, 2, none⟩ = some (.bool false) := by rw [Lib.cell_of_heap hgr]; rfl
      have r3 : Wb.cell? ⟨w.heap.size + 1, 3, none⟩ = some (.slice none 0 0) := by rw [Lib.cell_of_heap hgr]; rfl
      have c0 : Wb.cell? ⟨w.heap.size + 2, 0, none⟩ = some (.int .i64 E) := by rw [Lib.cell_of_heap hgh]; rfl
      have c1 : Wb.cell? ⟨w.heap.size + 2, 1, none⟩ = some (.int .i64 K) := by rw [Lib.cell_of_heap hgh]; rfl
      have c2 : Wb.cell? ⟨w.heap.size + 2, 2, none⟩ = some (.bool B8) := by rw [Lib.cell_of_heap hgh]; rfl
      have c3 : Wb.cell? ⟨w.heap.size + 2, 3, none⟩ = some (.slice none 0 0) := by rw [Lib.cell_of_heap hgh]; rfl
      have fr := fun o => Lib.frozen_of_heap hgr o
      have fh := fun o => Lib.frozen_of_heap hgh o
      have hlr := heap_lt hgr; have hlh := heap_lt hgh
      have hlg := heap_lt HGB.out
      have hb40 : b4 = true → bad = true := fun h => by rw [HBAD.out, h]; simp
      have hb20 : b2 = true → bad = true := fun h => by rw [HBAD.out, h]; simp
      clear hgr hgh HBx HGA HRA HHA HBA i16 hlA HWH HBAD q3 q8 H8C
      cases bad with
      | true =>
        have HR : Hid (Lm.fr s k = none) := by show _ = _; rw [HRK.out, if_pos HBE.out.symm]
        go_wp2
        refine bodyPost_ret (v := .tuple #[.agg #[.int .i64 0, .int .i64 0, .bool false, .slice none 0 0], .bool false]) (by simp [results, Try.results49, go_sem, r0, r1, r2, r3]) rfl ⟨none, 0, 0, ?_, ?_, ?_⟩
        · rw [HR.out]; rfl
        · rw [HR.out]; exact ⟨rfl, .inl ⟨_, _, rfl, rfl⟩, fun h => absurd h (by decide)⟩
        · exact set4k HBW.out (Nat.le_succ _) _ _ _ _
      | false =>
        have hnb46 : nb ≤ 46 := by
          cases b4 with
          | true => exact absurd (hb40 rfl) (by decide)
          | false => have := of_decide_eq_false q4; omega
        have hKk : K = (k : Int) := by
          cases b2 with
          | true => exact absurd (hb20 rfl) (by decide)
          | false => simpa using q2
        have HR : Hid (Lm.fr s k = some (Lm.vl (s.take 4), (((s.getD 8 0).toNat : Int) == 1), (s.drop 10).take (s.getD 9 0).toNat)) := by show _ = _; rw [HRK.out, if_neg (by rw [← HBE.out]; decide)]
        obtain ⟨m, hm⟩ : ∃ m : Nat, m = 10 + nb := ⟨_, rfl⟩
        have hmi : (10 : Int) + (nb : Int) = (m : Int) := by omega
        have hmw : wrap64 ((10 : Int) + (nb : Int)) = (m : Int) := by unfold wrap64; omega
        have hm49 : m ≤ 56 := by omega
        have hm17 : 10 ≤ m := by omega
        have hmn : m - 10 = nb := by omega
        have hm64i : (m : Int) ≤ 64 := by omega
        have hm17i : (10 : Int) ≤ (m : Int) := by omega
        have HF : Hid (frK k (.slice (some ⟨w.heap.size, 10, none⟩) nb 54) (Lm.fr s k) = .agg #[.int .i64 E, .int .i64 K, .bool B8, .slice (some ⟨w.heap.size, 10, none⟩) nb 54] ∧ (Lm.fr s k).isSome = true ∧ frB (Lm.fr s k) = (s.drop 10).take nb) := by
          rw [HR.out, HE.out, hKk, HB8.out, HX8.out, HNBv.out]
          exact ⟨rfl, rfl, rfl⟩
        have HNB32 := Lib.hid hnb46
        clear HR hb40 hb20 q2 q4 hm hKk
        go_wp2
        refine bodyPost_ret (v := .tuple #[.agg #[.int .i64 E, .int .i64 K, .bool B8, .slice (some ⟨w.heap.size, 10, none⟩) nb 54], .bool true]) (by simp [results, Try.results49, go_sem, r0, r1, r2, r3]) rfl ⟨some ⟨w.heap.size, 10, none⟩, nb, 54, ?_, ?_, ?_⟩
        · rw [HF.out.1, HF.out.2.1]
        · rw [HF.out.2.2]
          have hl : ((s.drop 10).take nb).length = nb := by rw [List.length_take, List.length_drop, HS.out]; have := HNB32.out; omega
          have hy : Ytb w.heap.size (some ⟨w.heap.size, 10, none⟩) nb 54 ((s.drop 10).take nb) Wb :=
            ⟨hl.symm, yt_row (by rw [← HA.out]; exact HGB.out) (by rw [HS.out]; have := HNB32.out; omega) (by have := HNB32.out; omega), fun _ x e => by injection e with e; subst e; exact ⟨Nat.le_refl _, heap_lt HGB.out⟩⟩
          have ho : Only (fun k => k = w.heap.size + 1 ∨ k = w.heap.size + 2) Wb ((((((Wb.setCell ⟨w.heap.size + 2, 3, none⟩ (.slice (some ⟨w.heap.size, 10, none⟩) nb 54)).setCell ⟨w.heap.size + 1, 0, none⟩ (.int .i64 E)).setCell ⟨w.heap.size + 1, 1, none⟩ (.int .i64 K)).setCell ⟨w.heap.size + 1, 2, none⟩ (.bool B8)).setCell ⟨w.heap.size + 1, 3, none⟩ (.slice (some ⟨w.heap.size, 10, none⟩) nb 54))) :=
            Only.setCell (Only.setCell (Only.setCell (Only.setCell (Only.setCell (Only.refl _ _) (q := ⟨w.heap.size + 2, 3, none⟩) (.inl (.inr rfl)) _) (q := ⟨w.heap.size + 1, 0, none⟩) (.inl (.inl rfl)) _) (q := ⟨w.heap.size + 1, 1, none⟩) (.inl (.inl rfl)) _) (q := ⟨w.heap.size + 1, 2, none⟩) (.inl (.inl rfl)) _) (q := ⟨w.heap.size + 1, 3, none⟩) (.inl (.inl rfl)) _
          refine ⟨hy.1, hy.2.1.keepO ho (fun _ x e => by injection e with e; subst e; show ¬ (w.heap.size = _ ∨ w.heap.size = _); omega), fun _ x e => by injection e with e; subst e; exact ⟨Nat.le_refl _, Nat.lt_of_lt_of_le (heap_lt HGB.out) ho.size⟩⟩
        · exact set4k (set1k HBW.out (by omega) _ _) (Nat.le_succ _) _ _ _ _
end Go.Proofs.Ytofbignggadkiaa
