/- Layer 7: rows of strings in memory; the reference's Same, the laws' texts. -/
import Derived.Test.YtofbignggadkiaaLogW0
namespace Go.Proofs.Ytofbignggadkiaa
open Go.RowKit

theorem below_drw (w : World) : Below w.heap.size w w.drew := ⟨rfl, rfl, rfl, Nat.le_refl _, fun _ _ => rfl⟩
theorem below_dn (w : World) (n : Nat) : Below w.heap.size w (w.drewN n) := ⟨rfl, rfl, rfl, Nat.le_refl _, fun _ _ => rfl⟩
/-- strings as cells -/
def stc (L : List (List UInt8)) : List Value := L.map fun b => Value.string (st b)
theorem stc_length (L : List (List UInt8)) : (stc L).length = L.length := by simp [stc]
theorem stc_get (L : List (List UInt8)) (j : Nat) : (stc L)[j]? = L[j]?.map fun b => Value.string (st b) := by simp [stc]
theorem stc_one (L : List (List UInt8)) : ∀ u ∈ stc L, u.oneCell' = true := by
  intro u hu; obtain ⟨b, _, rfl⟩ := List.mem_map.1 hu; rfl
/-- STRINGS, in blocks made since B -/
def Ss (B : Nat) (a : Option Addr) (n c : Nat) (L : List (List UInt8)) (W : World) : Prop :=
  n = L.length ∧ (0 < L.length → ∃ g off, a = some ⟨g, off, none⟩ ∧ L.length ≤ c ∧ B ≤ g ∧ g < W.heap.size ∧ ∀ j, j < L.length → W.cell? ⟨g, off + j, none⟩ = some (.string (st (L.getD j []))))
theorem Ss.keepO {B : Nat} {a : Option Addr} {n c : Nat} {L : List (List UInt8)} {w w' : World} {p : Nat → Prop} (h : Ss B a n c L w) (ho : Only p w w') (hp : ∀ k, B ≤ k → k < w.heap.size → ¬ p k) : Ss B a n c L w' := by
  refine ⟨h.1, fun h0 => ?_⟩
  obtain ⟨g, off, rfl, hc, hB, hg, hcell⟩ := h.2 h0
  exact ⟨g, off, rfl, hc, hB, by have := ho.size; omega, fun j hj => (cell_only ho (q := ⟨g, off + j, none⟩) hg (hp g hB hg)).trans (hcell j hj)⟩
theorem Ss.keep {B : Nat} {a : Option Addr} {n c : Nat} {L : List (List UInt8)} {w w' : World} (h : Ss B a n c L w) (hb : Below w.heap.size w w') : Ss B a n c L w' :=
  h.keepO (only_of hb) (fun k _ hk hp => by omega)
theorem Ss.nil (B c : Nat) (w : World) : Ss B none 0 c [] w := ⟨rfl, fun h => absurd h (by decide)⟩
theorem Ss.at {B : Nat} {a : Option Addr} {n c : Nat} {L : List (List UInt8)} {w : World} (h : Ss B a n c L w) {j : Nat} (hj : j < L.length) : ∃ g off, a = some ⟨g, off, none⟩ ∧ w.cell? ⟨g, off + j, none⟩ = some (.string (st (L.getD j []))) := by
  obtain ⟨g, off, h1, hc, hB, hg, hcell⟩ := h.2 (by omega)
  exact ⟨g, off, h1, hcell j hj⟩
theorem Ss.of_own {w : World} {B : Nat} {a : Option Addr} {n c : Nat} {E : TypeId} {L : List (List UInt8)} (h : w.ownsRow B E 1 (.slice a n c) n (stc L)) : Ss B a n c L w := by
  obtain ⟨h1, h2⟩ := h
  have hn : L.length = n := by rw [stc_length] at h1; omega
  refine ⟨hn.symm, fun h0 => ?_⟩
  rcases h2 with ⟨e, e2⟩ | ⟨g, cap, cur, e, hB, hg, hc, hm, hs, ht⟩
  · subst e2; omega
  · injection e with e1 e2 e3
    subst e1 e3
    refine ⟨g, 0, rfl, by omega, hB, (Array.getElem?_eq_some_iff.1 hg).1, fun j hj => ?_⟩
    have hb : (stc L)[j]? = some (Value.string (st (L.getD j []))) := by rw [stc_get]; simp [List.getD, hj]
    rw [← ht, List.getElem?_take] at hb
    rw [Lib.cell_of_heap hg, Nat.zero_add]
    split at hb
    · simpa using hb
    · cases hb
theorem Ss.src {B : Nat} {a : Option Addr} {n c : Nat} {L : List (List UInt8)} {w : World} (h : Ss B a n c L w) : Src Try.prog 1 56 (.slice a n c) n (stc L) w := by
  rcases Nat.eq_zero_or_pos L.length with e | e
  · have hL : L = [] := List.eq_nil_of_length_eq_zero e
    have hn : n = 0 := by rw [h.1]; exact e
    subst hL hn
    cases a with
    | none => exact Src.ofNil w Try.underlying56 c
    | some a => exact Src.ofSlice w Try.underlying56 a 0 c [] rfl (fun j u h => by simp at h) (fun u h => by simp at h)
  · obtain ⟨g, off, rfl, hc, hB, hg, hcell⟩ := h.2 e
    have hn := h.1
    refine Src.ofSlice w Try.underlying56 ⟨g, off, none⟩ n c (stc L) (by rw [stc_length]; omega) ?_ (stc_one L)
    intro j u hj
    have hjn : j < L.length := by
      have := (List.getElem?_eq_some_iff.1 hj).1
      rwa [stc_length] at this
    rw [stc_get] at hj
    have hadd : (⟨g, off, none⟩ : Addr).add j = ⟨g, off + j, none⟩ := by unfold Addr.add; split <;> simp_all
    rw [hadd, hcell j hjn]
    simpa [List.getD, hjn] using hj
/-- STRINGS apart from a device and its log -/
structure Hv (B : Nat) (F G : Nat → Prop) (a : Option Addr) (n c : Nat) (L : List (List UInt8)) (W : World) : Prop where
  s : Ss B a n c L W
  ap : 0 < L.length → ∀ x, a = some x → ¬ (F x.block ∨ G x.block)
theorem Hv.step {B : Nat} {F G F' G' : Nat → Prop} {a : Option Addr} {n c : Nat} {L : List (List UInt8)} {W W' : World} (h : Hv B F G a n c L W) (hc : Ch F G F' G' W W') : Hv B F' G' a n c L W' := by
  refine ⟨⟨h.s.1, fun h0 => ?_⟩, fun h0 x e hx => ?_⟩
  · obtain ⟨g, off, rfl, hc1, hB, hg, hcell⟩ := h.s.2 h0
    exact ⟨g, off, rfl, hc1, hB, by have := hc.1.size; omega, fun j hj => (cell_only hc.1 (q := ⟨g, off + j, none⟩) hg (h.ap h0 ⟨g, off, none⟩ rfl)).trans (hcell j hj)⟩
  · obtain ⟨g, off, e2, hc1, hB, hg, hcell⟩ := h.s.2 h0
    rcases hc.2 _ hx with hx | hx
    · exact h.ap h0 x e hx
    · rw [e] at e2; injection e2 with e2; subst e2; exact absurd hg (Nat.not_lt.2 hx)
theorem Hv.keep {B : Nat} {F G : Nat → Prop} {a : Option Addr} {n c : Nat} {L : List (List UInt8)} {W W' : World} (h : Hv B F G a n c L W) (hb : Below W.heap.size W W') : Hv B F G a n c L W' := ⟨h.s.keep hb, h.ap⟩
theorem Hv.nil (B c : Nat) (F G : Nat → Prop) (W : World) : Hv B F G none 0 c [] W := ⟨Ss.nil _ _ _, fun h => absurd h (by decide)⟩
theorem Hv.new {B m : Nat} {F G : Nat → Prop} {a : Option Addr} {n c : Nat} {L : List (List UInt8)} {W : World} (h : Ss m a n c L W) (hB : B ≤ m) (hF : ∀ k, F k ∨ G k → k < m) : Hv B F G a n c L W := by
  refine ⟨⟨h.1, fun h0 => ?_⟩, fun h0 x e hx => ?_⟩
  · obtain ⟨g, off, e, hc1, hm, hg, hcell⟩ := h.2 h0
    exact ⟨g, off, e, hc1, by omega, hg, hcell⟩
  · obtain ⟨g, off, e2, hc1, hm, hg, hcell⟩ := h.2 h0
    rw [e] at e2; injection e2 with e2; subst e2
    have := hF _ hx
    exact absurd hm (Nat.not_le.2 this)
theorem st_eq {a b : List UInt8} : ((st a).toList == (st b).toList) = decide (a = b) := by
  rw [Lib.toList_data, Lib.toList_data, show (st a).data.toList = a from rfl, show (st b).data.toList = b from rfl]
  by_cases e : a = b
  · subst e; simp
  · rw [decide_eq_false e, beq_eq_false_iff_ne]; exact e
theorem st_ne {a b : List UInt8} : ((st a).toList != (st b).toList) = !decide (a = b) := by
  rw [bne, st_eq]
theorem ret_true {p : Prop} [Decidable p] (h : p) : Ending.returned (.bool true) = .returned (.bool (decide p)) := by rw [decide_eq_true h]
theorem ret_false {p : Prop} [Decidable p] (h : ¬ p) : Ending.returned (.bool false) = .returned (.bool (decide p)) := by rw [decide_eq_false h]
set_option maxHeartbeats 1000000 in
set_option maxRecDepth 100000 in
/-- Same says whether the batches are the strings -/
theorem ref7_same (B1 : Nat) (a1 : Option Addr) (n1 c1 : Nat) (L1 : List (List UInt8)) (B2 : Nat) (a2 : Option Addr) (n2 c2 : Nat) (L2 : List (List UInt8)) (w : World) (h1 : Bs B1 a1 n1 c1 L1 w) (h2 : Ss B2 a2 n2 c2 L2 w) (hl : L1.length ≤ 1000) (hl2 : L2.length ≤ 1000) :
    Calls Try.prog 24 #[.slice a1 n1 c1, .slice a2 n2 c2] w fun e w' => e = .returned (.bool (decide (L1 = L2))) ∧ Below w.heap.size w w' := by
  have H1 := Lib.hid h1; have H2 := Lib.hid h2
  have hn1 := h1.1; have hn2 := h2.1
  have hb1 : n1 ≤ 1000 := by omega
  have hb2 : n2 ≤ 1000 := by omega
  have HN1 := Lib.hid hn1; have HN2 := Lib.hid hn2
  by_cases hne : n1 = n2
  · have q : ((n1 : Int) != (n2 : Int)) = false := by rw [hne]; simp
    clear hn1 hn2 h1 h2 hl hl2
    have HNE := Lib.hid hne
    clear hne
    go_enter Try.func24, Try.ntmps24
    go_wp2
    go_loopw [13] (fun iv wr => ∃ i : Nat, i ≤ n1 ∧ iv = .int .i64 (i : Int) ∧ Hid (∀ j, j < i → L1.getD j [] = L2.getD j []) ∧ Hid (Below w.heap.size w wr)) (fun iv _ => n1 - (ixOf iv).toNat)
    case atStart => exact ⟨0, Nat.zero_le _, rfl, fun j hj => absurd hj (Nat.not_lt_zero _), Below.refl _ _⟩
    case round =>
      obtain ⟨i, hi, rfl, HJ, HB⟩ := hrel
      by_cases hlt : i < n1
      · obtain ⟨g, off, rfl, _, hc1, hg, x1, m1, y1, hcell1, hY⟩ := (H1.out.keep HB.out).at (j := i) (by have := HN1.out; omega)
        obtain ⟨g2, off2, rfl, hcell2⟩ := (H2.out.keep HB.out).at (j := i) (by have := HN2.out; have := HNE.out; omega)
        have hlt2 : i < n2 := by have := HNE.out; omega
        obtain ⟨l1, hl1⟩ : ∃ l, l = L1.getD i [] := ⟨_, rfl⟩
        obtain ⟨l2, hl2⟩ : ∃ l, l = L2.getD i [] := ⟨_, rfl⟩
        rw [← hl1] at hY
        rw [← hl2] at hcell2
        have hcv : ∀ n, (convert 39 9 (.slice x1 m1 y1)).run Try.prog (wr.drewN n) = .ok (.string (st l1)) (wr.drewN n) := fun n => Yt.str (hY.2.1.keep (below_dn wr n))
        obtain ⟨S1, hS1⟩ : ∃ S, S = st l1 := ⟨_, rfl⟩
        obtain ⟨S2, hS2⟩ : ∃ S, S = st l2 := ⟨_, rfl⟩
        have hbn : (S1.toList != S2.toList) = !decide (l1 = l2) := by rw [hS1, hS2]; exact st_ne
        have hbe : (S1.toList == S2.toList) = decide (l1 = l2) := by rw [hS1, hS2]; exact st_eq
        rw [← hS1] at hcv
        rw [← hS2] at hcell2
        have HBD : Hid (∀ n, Below w.heap.size w (wr.drewN n)) := fun n => HB.out.trans ((below_dn wr n).mono HB.out.size)
        have HS := Lib.hid hl1; have HS2 := Lib.hid hl2
        clear hS1 hS2 hY HB hl1 hl2
        by_cases heq : l1 = l2
        · rw [decide_eq_true heq] at hbn hbe
          replace hbn : (S1.toList != S2.toList) = false := hbn
          have HJ2 : Hid (∀ j, j < i + 1 → L1.getD j [] = L2.getD j []) := fun j hj => by
            by_cases e : j = i
            · subst e; rw [← HS.out, ← HS2.out]; exact heq
            · exact HJ.out j (by omega)
          clear heq
          go_upto_region 6 with (fail)
          go_quiet (fail)
          go_wp2
          go_roundw
          case rel => exact ⟨i + 1, by omega, by go_num, HJ2.out, HBD.out _⟩
          case measure => simp [ixOf]; omega
        · rw [decide_eq_false heq] at hbn hbe
          replace hbn : (S1.toList != S2.toList) = true := hbn
          have HEQ := Lib.hid heq
          clear heq
          go_upto_region 6 with (fail)
          go_quiet (fail)
          go_wp2
          go_ret
          exact ⟨ret_false (fun e => HEQ.out (by rw [HS.out, HS2.out, e])), HBD.out _⟩
      · have hi1 : i = n1 := by omega
        have HF : Hid (L1 = L2) := by
          show _ = _
          apply List.ext_getElem
          · have := HN1.out; have := HN2.out; have := HNE.out; omega
          · intro j h1 h2
            have := HJ.out j (by have := HN1.out; omega)
            rw [List.getD, List.getD, List.getElem?_eq_getElem h1, List.getElem?_eq_getElem h2] at this
            simpa using this
        clear hi1
        go_wp2
        go_ret
        exact ⟨ret_true HF.out, HB.out⟩
  · have q : ((n1 : Int) != (n2 : Int)) = true := by rw [bne_iff_ne]; omega
    have HF : Hid (L1 ≠ L2) := fun e => hne (by rw [hn1, hn2, e])
    clear hn1 hn2 h1 h2 hl hl2 hne
    go_enter Try.func24, Try.ntmps24
    go_wp2
    go_ret
    exact ⟨ret_false HF.out, Below.refl _ _⟩
end Go.Proofs.Ytofbignggadkiaa
