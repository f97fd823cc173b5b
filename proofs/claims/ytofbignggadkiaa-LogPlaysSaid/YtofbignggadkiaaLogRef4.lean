/- The reference of layer 7: ReadHead. -/
import Derived.Test.YtofbignggadkiaaLogRu
import Derived.Test.YtofbignggadkiaaLogSame
import Derived.Deep.RegionHeld3
namespace Go.Proofs.Ytofbignggadkiaa
open Go.RowKit

theorem st_extract (l : List UInt8) (i j : Nat) : (st l).extract i j = st ((l.drop i).take (j - i)) := by
  show (bstr l).extract i j = bstr _
  exact bstr_extract l i j
theorem set1b {B : Nat} {a w : World} (h : Below B a w) {g : Nat} (hg : B ≤ g) (o : Nat) (v : Value) : Below B a (w.setCell ⟨g, o, none⟩ v) :=
  ⟨h.os, h.tape, h.output, by simpa [World.setCell] using h.size, fun k hk => (Below.heap_setCell _ _ _ _ (by show k ≠ g; omega)).trans (h.block k hk)⟩
theorem set4b {B : Nat} {a w : World} (h : Below B a w) {g : Nat} (hg : B ≤ g) (v0 v1 v2 v3 : Value) : Below B a ((((w.setCell ⟨g, 0, none⟩ v0).setCell ⟨g, 1, none⟩ v1).setCell ⟨g, 2, none⟩ v2).setCell ⟨g, 3, none⟩ v3) :=
  set1b (set1b (set1b (set1b h hg _ _) hg _ _) hg _ _) hg _ _
/-- a head as the reference has it -/
def hdv : Option Lm.Hd → Value
  | none => .agg #[.int .i64 0, .int .i64 0, .int .i64 0, .string ⟨#[]⟩]
  | some h => .agg #[.int .i64 (h.n : Int), .int .i64 (h.epoch : Int), .int .i64 (h.base : Int), .string (st h.body)]
/-- what speaks against a head -/
def Lm.badH (s : List UInt8) (i : Nat) : Bool :=
  decide (s.take 8 ≠ s.drop 56) || decide (num (s.take 8) < 1) || decide (4611686018427387904 ≤ num (s.take 8)) || decide (num (s.take 8) % 2 ≠ (i : Int)) || decide (32 < (s.getD 16 0).toNat) || decide (num ((s.drop 8).take 4) < num ((s.drop 12).take 4))
theorem Lm.rhead_bad {s : List UInt8} {i : Nat} (h : Lm.badH s i = true) : Lm.rhead s i = none := by
  unfold Lm.rhead
  rw [if_pos]
  simp only [Lm.badH, Bool.or_eq_true, decide_eq_true_eq] at h
  rcases h with ((((h | h) | h) | h) | h) | h
  · exact .inl h
  · exact .inr (.inl h)
  · exact .inr (.inr (.inl h))
  · exact .inr (.inr (.inr (.inl h)))
  · exact .inr (.inr (.inr (.inr (.inl h))))
  · exact .inr (.inr (.inr (.inr (.inr h))))
theorem Lm.rhead_good {s : List UInt8} {i : Nat} (h : Lm.badH s i = false) : Lm.rhead s i = some ⟨(num (s.take 8)).toNat, (num ((s.drop 8).take 4)).toNat, (num ((s.drop 12).take 4)).toNat, (s.drop 17).take (s.getD 16 0).toNat⟩ := by
  unfold Lm.rhead
  simp only [Lm.badH, Bool.or_eq_false_iff, decide_eq_false_iff_not] at h
  obtain ⟨⟨⟨⟨⟨h1, h2⟩, h3⟩, h4⟩, h5⟩, h6⟩ := h
  rw [if_neg]
  rintro (h | h | h | h | h | h)
  · exact h1 h
  · exact h2 h
  · exact h3 h
  · exact h4 h
  · exact h5 h
  · exact h6 h
theorem Lm.num_low : ∀ (s : List UInt8) (n : Nat), (n : Int) ≤ 4611686018427387904 → -1 ≤ Lm.numGo n s ∧ Lm.numGo n s ≤ 4611686018427387904
  | [], n, h => by unfold Lm.numGo; exact ⟨by omega, h⟩
  | b :: r, n, h => by
    unfold Lm.numGo
    have := b.toNat_lt
    split
    · exact ⟨by omega, by omega⟩
    · exact Lm.num_low r _ (by omega)
set_option maxHeartbeats 4000000 in
set_option maxRecDepth 100000 in
theorem ref7_readhead (s : List UInt8) (i : Nat) (w : World) (hs : s.length = 64) (_hi : i < 2) : Calls Try.prog 34 #[.string (st s), .int .i64 (i : Int)] w fun e w' => e = .returned (.tuple #[hdv (Lm.rhead s i), .bool (Lm.rhead s i).isSome]) ∧ Below w.heap.size w w' := by
  obtain ⟨S, hS⟩ : ∃ S, S = st s := ⟨_, rfl⟩
  have hsz : S.size = 64 := by rw [hS, st_size, hs]
  obtain ⟨A1, hA1⟩ : ∃ A, A = st (s.take 8) := ⟨_, rfl⟩
  obtain ⟨A2, hA2⟩ : ∃ A, A = st ((s.drop 8).take 4) := ⟨_, rfl⟩
  obtain ⟨A3, hA3⟩ : ∃ A, A = st ((s.drop 12).take 4) := ⟨_, rfl⟩
  obtain ⟨A4, hA4⟩ : ∃ A, A = st (s.drop 56) := ⟨_, rfl⟩
  have x1 : S.extract 0 8 = A1 := by rw [hS, hA1, st_extract, List.drop_zero]
  have x2 : S.extract 8 12 = A2 := by rw [hS, hA2, st_extract]
  have x3 : S.extract 12 16 = A3 := by rw [hS, hA3, st_extract]
  have x4 : S.extract 56 64 = A4 := by rw [hS, hA4, st_extract, List.take_of_length_le (by rw [List.length_drop, hs]; decide)]
  obtain ⟨n, hn⟩ : ∃ n, n = Lm.num (s.take 8) := ⟨_, rfl⟩
  obtain ⟨ep, hep⟩ : ∃ n, n = Lm.num ((s.drop 8).take 4) := ⟨_, rfl⟩
  obtain ⟨ba, hba⟩ : ∃ n, n = Lm.num ((s.drop 12).take 4) := ⟨_, rfl⟩
  obtain ⟨G, hG⟩ : ∃ G : ByteArray → Int, ∀ A, G A = Lm.num A.data.toList := ⟨_, fun _ => rfl⟩
  have HG : Hid (∀ W (A : ByteArray), A.size ≤ 1000 → Calls Try.prog 35 #[.string A] W fun e w' => e = .returned (.int .i64 (G A)) ∧ W = w') := fun W A hA => by
    rw [hG]
    have := ref7_num A.data.toList W (by rw [Array.length_toList]; exact hA)
    exact this
  have g1 : G A1 = n := by rw [hG, hA1, hn]; rfl
  have g2 : G A2 = ep := by rw [hG, hA2, hep]; rfl
  have g3 : G A3 = ba := by rw [hG, hA3, hba]; rfl
  have z1 : A1.size ≤ 1000 := by rw [hA1, st_size, List.length_take]; omega
  have z2 : A2.size ≤ 1000 := by rw [hA2, st_size, List.length_take]; omega
  have z3 : A3.size ≤ 1000 := by rw [hA3, st_size, List.length_take]; omega
  obtain ⟨nb, hnb⟩ : ∃ nb : Nat, nb = (s.getD 16 0).toNat := ⟨_, rfl⟩
  have hix : (S[16].toNat : Int) = (nb : Int) := by subst hS; rw [st_get, hnb]
  have hnb8 : nb < 256 := by rw [hnb]; exact UInt8.toNat_lt _
  rw [← hS]
  have HS := Lib.hid hS; have HA1 := Lib.hid hA1; have HA4 := Lib.hid hA4; have HN := Lib.hid hn; have HEP := Lib.hid hep; have HBA := Lib.hid hba; have HNB := Lib.hid hnb
  have HHS := Lib.hid hs
  clear hG hS hA1 hA2 hA3 hA4 hn hep hba hnb hs
  go_enter Try.func34, Try.ntmps34
  go_upto_region 1 with (fail)
  go_cut [6] (fun hv wx => hv = .pointer (some ⟨w.heap.size + 1, 0, none⟩) ∧ wx = ((w.alloc (.cells #[.int .i64 0, .int .i64 0, .int .i64 0, .string ⟨#[]⟩] 55)).alloc (.cells #[.int .i64 n, .int .i64 ep, .int .i64 ba, .string ⟨#[]⟩] 55)).drew)
  case first =>
    go_region_with (first | (go_at_call 35; refine (HG.out _ _ (by first | exact z1 | exact z2 | exact z3)).mono ?_; rintro e w1 ⟨rfl, rfl⟩))
    all_goals
      go_wp2
      go_meet
      exact ⟨rfl, rfl⟩
  case rest =>
    obtain ⟨rfl, hwx⟩ := hcut
    obtain ⟨Wa, rfl⟩ : ∃ Wa, Wa = wc := ⟨wc, rfl⟩
    have hgr : Wa.heap[w.heap.size]? = some (.cells #[.int .i64 0, .int .i64 0, .int .i64 0, .string ⟨#[]⟩] 55 (0, 0)) := by rw [hwx, heap_drew, Below.heap_alloc _ _ _ (by simp), heap_alloc_new]
    have hgh : Wa.heap[w.heap.size + 1]? = some (.cells #[.int .i64 n, .int .i64 ep, .int .i64 ba, .string ⟨#[]⟩] 55 (0, 0)) := by rw [hwx, heap_drew, show w.heap.size + 1 = (w.alloc (.cells #[.int .i64 0, .int .i64 0, .int .i64 0, .string ⟨#[]⟩] 55)).heap.size by simp, heap_alloc_new]
    have hbw : Below w.heap.size w Wa := by rw [hwx]; exact ((one_b w _).trans ((one_b _ _).mono (by simp))).trans (below_drew7 _ |>.mono (by simp; omega))
    have r0 := Lib.cell_of_heap hgr 0; have r1 := Lib.cell_of_heap hgr 1; have r2 := Lib.cell_of_heap hgr 2; have r3 := Lib.cell_of_heap hgr 3
    have c0 := Lib.cell_of_heap hgh 0; have c1 := Lib.cell_of_heap hgh 1; have c2 := Lib.cell_of_heap hgh 2; have c3 := Lib.cell_of_heap hgh 3
    have fr := fun o => Lib.frozen_of_heap hgr o
    have fh := fun o => Lib.frozen_of_heap hgh o
    have hlr := heap_lt hgr; have hlh := heap_lt hgh
    replace c0 : Wa.cell? ⟨w.heap.size + 1, 0, none⟩ = some (.int .i64 n) := c0
    replace c1 : Wa.cell? ⟨w.heap.size + 1, 1, none⟩ = some (.int .i64 ep) := c1
    replace c2 : Wa.cell? ⟨w.heap.size + 1, 2, none⟩ = some (.int .i64 ba) := c2
    replace c3 : Wa.cell? ⟨w.heap.size + 1, 3, none⟩ = some (.string ⟨#[]⟩) := c3
    replace r0 : Wa.cell? ⟨w.heap.size, 0, none⟩ = some (.int .i64 0) := r0
    replace r1 : Wa.cell? ⟨w.heap.size, 1, none⟩ = some (.int .i64 0) := r1
    replace r2 : Wa.cell? ⟨w.heap.size, 2, none⟩ = some (.int .i64 0) := r2
    replace r3 : Wa.cell? ⟨w.heap.size, 3, none⟩ = some (.string ⟨#[]⟩) := r3
    have HBW := Lib.hid hbw
    obtain ⟨m2, hm2⟩ : ∃ m2 : Int, m2 = n.tmod 2 := ⟨_, rfl⟩
    obtain ⟨b1, hb1⟩ : ∃ b, b = decide (s.take 8 ≠ s.drop 56) := ⟨_, rfl⟩
    obtain ⟨b2, hb2⟩ : ∃ b, b = decide (n < 1) := ⟨_, rfl⟩
    obtain ⟨b3, hb3⟩ : ∃ b, b = decide (4611686018427387904 ≤ n) := ⟨_, rfl⟩
    obtain ⟨b4, hb4⟩ : ∃ b, b = decide (n % 2 ≠ (i : Int)) := ⟨_, rfl⟩
    obtain ⟨b5, hb5⟩ : ∃ b, b = decide (32 < nb) := ⟨_, rfl⟩
    obtain ⟨b6, hb6⟩ : ∃ b, b = decide (ep < ba) := ⟨_, rfl⟩
    have HBAD : Hid (Lm.badH s i = (b1 || b2 || b3 || b4 || b5 || b6)) := by show _ = _; rw [hb1, hb2, hb3, hb4, hb5, hb6, HN.out, HEP.out, HBA.out, HNB.out]; rfl
    have q1 : (A1.toList != A4.toList) = b1 := by rw [HA1.out, HA4.out, hb1, st_ne]; simp
    have q1e : (A1.toList == A4.toList) = !b1 := by rw [HA1.out, HA4.out, hb1, st_eq]; simp
    have q2 : decide (n < 1) = b2 := hb2.symm
    have q3 : decide (4611686018427387904 ≤ n) = b3 := hb3.symm
    have q4 : b2 = false → (m2 != (i : Int)) = b4 := fun h => by
      have h0 : ¬ n < 1 := by rw [hb2] at h; simpa using h
      rw [hb4, hm2, Int.tmod_eq_emod_of_nonneg (by omega), bne]
      by_cases e : n % 2 = (i : Int)
      · rw [e]; simp
      · rw [beq_eq_false_iff_ne.2 e, decide_eq_true e]; rfl
    have q5 : decide ((32 : Int) < (nb : Int)) = b5 := by rw [hb5]; apply decide_eq_decide.2; omega
    have q6 : decide (ep < ba) = b6 := hb6.symm
    have HQ4 := Lib.hid q4
    have hm2' : n.tmod 2 = m2 := hm2.symm
    have hmb : -1 ≤ m2 ∧ m2 ≤ 1 := by rw [hm2]; have := Int.tmod_lt_of_pos n (show (0:Int) < 2 by omega); have := Int.lt_tmod_of_pos n (show (0:Int) < 2 by omega); omega
    obtain ⟨hm3, hm4⟩ := hmb
    clear hwx hgr hgh hbw hb1 hb2 hb3 hb4 hb5 hb6 hm2 q4 x2 x3 g1 g2 g3 z1 z2 z3
    go_upto_region 3 with (fail)
    go_cut [53] (fun bv wx => bv = .bool (Lm.badH s i) ∧ ∃ k, wx = Wa.drewN k)
    case first =>
      cases b1 with
      | true =>
        go_quiet (fail)
        go_wp2
        go_meet
        exact ⟨by rw [HBAD.out]; rfl, _, rfl⟩
      | false =>
      cases b2 with
      | true =>
        go_quiet (fail)
        go_wp2
        go_meet
        exact ⟨by rw [HBAD.out]; rfl, _, rfl⟩
      | false =>
      have q4 := HQ4.out rfl
      cases b3 with
      | true =>
        go_quiet (fail)
        go_wp2
        go_meet
        exact ⟨by rw [HBAD.out]; rfl, _, rfl⟩
      | false =>
      cases b4 with
      | true =>
        go_quiet (fail)
        go_wp2
        go_meet
        exact ⟨by rw [HBAD.out]; rfl, _, rfl⟩
      | false =>
      cases b5 with
      | true =>
        go_quiet (fail)
        go_wp2
        go_meet
        exact ⟨by rw [HBAD.out]; rfl, _, rfl⟩
      | false =>
      cases b6 with
      | true =>
        go_quiet (fail)
        go_wp2
        go_meet
        exact ⟨by rw [HBAD.out]; rfl, _, rfl⟩
      | false =>
        go_quiet (fail)
        go_wp2
        go_meet
        exact ⟨by rw [HBAD.out]; rfl, _, rfl⟩
    case rest =>
      obtain ⟨rfl, k, rfl⟩ := hcut
      have HB2 := Lib.hid (HBW.out.trans ((below_dn Wa k).mono HBW.out.size))
      clear q1 q1e q2 q3 q5 q6 HQ4 hm2' hm3 hm4 HBAD hix x1
      cases hbad : Lm.badH s i with
      | true =>
        have HR := Lib.hid (Lm.rhead_bad hbad)
        clear hbad
        go_wp2
        refine bodyPost_ret (v := .tuple #[.agg #[.int .i64 0, .int .i64 0, .int .i64 0, .string ⟨#[]⟩], .bool false]) (by simp [results, Try.results34, go_sem, r0, r1, r2, r3]) rfl ⟨?_, ?_⟩
        · rw [HR.out]; rfl
        · exact set4b HB2.out (Nat.le_refl _) _ _ _ _
      | false =>
        have HR := Lib.hid (Lm.rhead_good hbad)
        have hnb32 : nb ≤ 32 := by
          have h := hbad
          simp only [Lm.badH, Bool.or_eq_false_iff, decide_eq_false_iff_not] at h
          have := h.1.2; rw [← HNB.out] at this; omega
        have hn0 : 1 ≤ n := by
          have h := hbad
          simp only [Lm.badH, Bool.or_eq_false_iff, decide_eq_false_iff_not] at h
          have := h.1.1.1.1.2; rw [← HN.out] at this; omega
        have hep0 : 0 ≤ ep := by rw [HEP.out]; exact (Lm.num_lt4 (by simp; omega)).2
        have hba0 : 0 ≤ ba := by rw [HBA.out]; exact (Lm.num_lt4 (by simp; omega)).2
        obtain ⟨m, hm⟩ : ∃ m, m = 17 + nb := ⟨_, rfl⟩
        have hmi : (17 : Int) + (nb : Int) = (m : Int) := by omega
        have hm49 : m ≤ 49 := by omega
        have hm17 : 17 ≤ m := by omega
        obtain ⟨Bd, hBd⟩ : ∃ Bd, Bd = st ((s.drop 17).take nb) := ⟨_, rfl⟩
        have x5 : S.extract 17 m = Bd := by rw [HS.out, hBd, st_extract, hm]; congr 2; omega
        have HF : Hid (hdv (Lm.rhead s i) = .agg #[.int .i64 n, .int .i64 ep, .int .i64 ba, .string Bd] ∧ (Lm.rhead s i).isSome = true) := by
          refine ⟨?_, by rw [HR.out]; rfl⟩
          rw [HR.out, hBd, ← HN.out, ← HEP.out, ← HBA.out, ← HNB.out]
          show Value.agg #[.int .i64 ((n.toNat : Nat) : Int), .int .i64 ((ep.toNat : Nat) : Int), .int .i64 ((ba.toNat : Nat) : Int), _] = _
          rw [Int.toNat_of_nonneg (by omega), Int.toNat_of_nonneg hep0, Int.toNat_of_nonneg hba0]
        clear hbad hn0 hep0 hba0 hm hBd HR
        go_wp2
        refine bodyPost_ret (v := .tuple #[.agg #[.int .i64 n, .int .i64 ep, .int .i64 ba, .string Bd], .bool true]) (by simp [results, Try.results34, go_sem, r0, r1, r2, r3]) rfl ⟨?_, ?_⟩
        · rw [HF.out.1, HF.out.2]
        · exact set4b (set1b HB2.out (Nat.le_succ _) _ _) (Nat.le_refl _) _ _ _ _
end Go.Proofs.Ytofbignggadkiaa
