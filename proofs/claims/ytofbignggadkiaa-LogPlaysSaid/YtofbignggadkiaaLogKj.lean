/- Package log: Batches. -/
import Derived.Test.YtofbignggadkiaaLogKi
namespace Go.Proofs.Ytofbignggadkiaa
open Go.RowKit

theorem Ytb.mono' {B B' : Nat} {a : Option Addr} {n c : Nat} {l : List UInt8} {w : World} (h : Ytb B a n c l w) (hB : B' ≤ B) : Ytb B' a n c l w :=
  ⟨h.1, h.2.1, fun h0 x e => by have := h.2.2 h0 x e; omega⟩
/-- behind i batches: what has been copied -/
def Bt (p ll : Nat) (LL : List (List UInt8)) (i : Nat) (W wr : World) : Prop :=
  Below W.heap.size W wr ∧ ∃ C : Array Value, wr.heap[p]? = some (.cells C 39 (0, 0)) ∧ C.size = ll ∧ ∀ j, j < i → ∃ a1 n1 c1, C[j]? = some (.slice a1 n1 c1) ∧ Ytb (p + 1) a1 n1 c1 (LL.getD j []) wr
set_option maxHeartbeats 1000000 in
set_option maxRecDepth 100000 in
theorem log_batches {gl g : Nat} {ha : Option Addr} {hc : Nat} {ba : Option Addr} {bc : Nat} {vs : List Value} {Y : Nat → Prop} {L : Lm.Lg} {W : World} (h : Lk gl g ha hc ba bc vs Y L W) (hl : L.l.length ≤ 200) (hb : ∀ b ∈ L.l, b.length ≤ 9200) :
    Calls Try.prog 12 #[.pointer (some ⟨gl, 0, none⟩)] W fun e w' => ∃ a n c, e = .returned (.slice a n c) ∧ Bs W.heap.size a n c L.l w' ∧ Below W.heap.size W w' := by
  have c6 := h.c6
  have hgl := h.lt gl (.inl rfl)
  obtain ⟨ll, hll⟩ : ∃ ll, ll = L.l.length := ⟨_, rfl⟩
  rw [← hll] at c6 hl
  have hl2 : (ll : Int) ≤ 200 := by omega
  obtain ⟨i0, hi0, hz0, hz1, hz2⟩ := info_parts info39k
  obtain ⟨C, hC⟩ : ∃ C, C = madeCells (Value.slice none 0 0).cells (ll * 1) := ⟨_, rfl⟩
  have hCs : C.size = ll := by rw [hC]; simp [madeCells, Value.cells]
  have HMK : ∀ w, (Instr.makeSlice 41 (.int .i64 (ll : Int)) (.int .i64 (ll : Int))).run Try.prog w = .ok (.slice (some ⟨w.heap.size, 0, none⟩) ll ll) (w.alloc (.cells C 39)) := fun w => by
    have h := run_make (P := Try.prog) w 41 39 i0 _ Try.underlying41 hi0 hz0 .i64 .i64 (ll : Int) (ll : Int) (by omega) (Int.le_refl _) (by rw [hz2]; omega) (by omega)
    rw [hz1] at h
    rw [h, hC]
    rfl
  have HL := Lib.hid h; have HB := Lib.hid hb; have HLL := Lib.hid hll; have HCS := Lib.hid hCs
  clear h hb hll hi0 hz0 hz1 hz2 hC hCs
  go_enter Try.func12, Try.ntmps12
  go_wp2
  obtain ⟨p, hp⟩ : ∃ p, p = W.heap.size := ⟨_, rfl⟩
  have HP := Lib.hid hp
  have HST : Hid (Bt p ll L.l 0 W (W.alloc (.cells C 39))) := ⟨one_k W _, C, by rw [hp]; exact heap_alloc_new _ _, HCS.out, fun j hj => absurd hj (by omega)⟩
  have hglp : gl < p := by omega
  rw [← hp]
  clear hp c6 hgl HMK
  go_loopw [4, 5, 19] (fun _ _ iv wr => ∃ i, i ≤ ll ∧ iv = .int .i64 (i : Int) ∧ Hid (Bt p ll L.l i W wr)) (fun _ _ iv _ => ll - (ixOf iv).toNat)
  case atStart => exact ⟨0, Nat.zero_le _, rfl, HST⟩
  case round =>
    obtain ⟨i, hi, rfl, HT⟩ := hrel
    by_cases hlt : i < ll
    case neg =>
      have hie : i = ll := by omega
      have hkf : ¬ (i : Int) < (ll : Int) := by omega
      have HEND : Hid (Bs W.heap.size (some ⟨p, 0, none⟩) ll ll L.l wr ∧ Below W.heap.size W wr) := by
        obtain ⟨hb, C2, hC2, hs2, hj2⟩ := HT.out
        have hll := HLL.out
        refine ⟨⟨hll, fun h0 => ⟨p, 0, rfl, by omega, by rw [HP.out]; exact Nat.le_refl _, heap_lt hC2, fun j hj => ?_⟩⟩, hb⟩
        obtain ⟨a1, n1, c1, k1, k2⟩ := hj2 j (by omega)
        refine ⟨a1, n1, c1, ?_, k2.1, k2.2.1, fun h0 x e => by have := k2.2.2 h0 x e; have := HP.out; omega⟩
        rw [Lib.cell_of_heap hC2, Nat.zero_add]; exact k1
      clear HT hie HST
      go_wp2
      go_ret
      exact ⟨_, _, _, rfl, HEND.out.1, HEND.out.2⟩
    case pos =>
      have hkf : (i : Int) < (ll : Int) := by omega
      obtain ⟨hb, C2, hC2, hs2, hj2⟩ := HT.out
      have hlw := HL.out.below hb
      obtain ⟨b, hb0⟩ : ∃ b, b = L.l.getD i [] := ⟨_, rfl⟩
      have hlt' : i < L.l.length := by rw [← HLL.out]; exact hlt
      obtain ⟨a1, c1, hv1, hy1, _⟩ := hlw.bv i hlt'
      obtain ⟨_, hown⟩ := hlw.bo
      rcases hown with ⟨_, h0⟩ | ⟨q, cap, cur, hv, _, hq, hcap, _, hcs, htk⟩
      · exact absurd h0 (by omega)
      injection hv with e1 e2 e3
      have hcell : wr.cell? ⟨q, i, none⟩ = some (.slice a1 b.length c1) := by
        rw [Lib.cell_of_heap hq, hb0, ← hv1, ← htk]
        simp [show i < L.l.length by omega]
      rw [← hb0] at hy1
      have hbl : b.length ≤ 9200 := by
        have hmem : b ∈ L.l := by rw [hb0, List.getD, List.getElem?_eq_getElem hlt']; exact List.getElem_mem hlt'
        exact HB.out b hmem
      have HCL := Lib.hid (log_clone a1 b.length c1 b wr hy1 (by omega))
      obtain ⟨m, hm⟩ : ∃ m, m = b.length := ⟨_, rfl⟩
      rw [← hm] at hcell HCL
      have hicap : (i : Int) < (ll : Int) := hkf
      rw [e1]
      have HC2 := Lib.hid hC2; have HS2 := Lib.hid hs2; have HJ2 := Lib.hid hj2; have HBW := Lib.hid hb; have HB0 := Lib.hid hb0
      clear HT hb hC2 hs2 hj2 hlw hb0 hlt' hv1 hy1 hq hcap hcs htk e1 e2 e3 hbl hm
      go_wp2_with fail
      refine HCL.out.mono ?_
      rintro e w1 ⟨a2, n2, c2, rfl, hyt, hb1⟩
      have HP1 : Hid (w1.heap[p]? = some (.cells C2 39 (0, 0))) := (hb1.block p (heap_lt HC2.out)).trans HC2.out
      have HYT := Lib.hid hyt; have HB1 := Lib.hid hb1
      have hci : w1.cell? ⟨p, i, none⟩ = some (C2[i]'(by rw [HS2.out]; exact hlt)) := by rw [Lib.cell_of_heap HP1.out]; exact Array.getElem?_eq_getElem _
      have hfi : w1.frozen? ⟨p, i, none⟩ = false := Lib.frozen_of_heap HP1.out _
      have hpl := heap_lt HP1.out
      clear hyt hb1 hcell
      go_wp2
      go_roundw
      case rel =>
        refine ⟨i + 1, by omega, by go_num, ?_, C2.setIfInBounds i (.slice a2 n2 c2), ?_, by simp [HS2.out], fun j hj => ?_⟩
        · exact (HBW.out.trans (HB1.out.mono HBW.out.size)).setCell (p := ⟨p, i, none⟩) (by show W.heap.size ≤ p; rw [HP.out]; exact Nat.le_refl _) _
        · rw [heap_setCell_same _ _ _ _ _ _ HP1.out]
        · have hpc := only_cell w1 p i (.slice a2 n2 c2)
          by_cases hji : j = i
          · subst hji
            refine ⟨a2, n2, c2, by simp [HS2.out, hlt], ?_⟩
            rw [← HB0.out]
            have h1 := heap_lt HC2.out
            exact (Ytb.keepO (B := wr.heap.size) HYT.out hpc (fun k hk _ e => by omega)).mono' (by omega)
          · obtain ⟨a3, n3, c3, k1, k2⟩ := HJ2.out j (by omega)
            refine ⟨a3, n3, c3, by rw [Array.getElem?_setIfInBounds_ne (fun e => hji e.symm)]; exact k1, ?_⟩
            exact (k2.keep HB1.out).keepO hpc (fun k hk _ e => by omega)
      case measure => simp [ixOf]; omega
end Go.Proofs.Ytofbignggadkiaa
