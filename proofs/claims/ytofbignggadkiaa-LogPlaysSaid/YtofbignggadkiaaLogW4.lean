/- Layer 7: the walk of LogPlays. -/
import Derived.Test.YtofbignggadkiaaLogPq
import Derived.Deep.RegionHeld3
import Derived.Deep.RegionHeldLaw
import Derived.OwnWalk
import Derived.Laws.OwnMore
namespace Go.Proofs.Ytofbignggadkiaa
open Go.RowKit

section
variable {Dev : Nat → Sm.Dv → (Nat → Prop) → World → Prop} {Log : Nat → Nat → Lm.Lg → (Nat → Prop) → World → Prop}
variable {w : World} {gO gB : Nat} {x0 x1 x2 x3 v : Value} {nb : Nat} {sb : List UInt8} {g gl gr kb kc qc yl lc : Nat} {wa la : Option Addr} {d1 d2 : Sm.Dv} {L1 L2 : Lm.Lg} {F G : Nat → Prop} {W : World}
theorem st7_c0 (h : St7 Dev Log w gO gB #[x0, x1, x2, x3] v nb sb g gl d1 L1 F G gr kb kc wa qc yl la lc d2 L2 W) : W.cell? ⟨gO, 0, none⟩ = some x0 := by rw [Lib.cell_of_heap h.c]; rfl
theorem st7_c1 (h : St7 Dev Log w gO gB #[x0, x1, x2, x3] v nb sb g gl d1 L1 F G gr kb kc wa qc yl la lc d2 L2 W) : W.cell? ⟨gO, 1, none⟩ = some x1 := by rw [Lib.cell_of_heap h.c]; rfl
theorem st7_c2 (h : St7 Dev Log w gO gB #[x0, x1, x2, x3] v nb sb g gl d1 L1 F G gr kb kc wa qc yl la lc d2 L2 W) : W.cell? ⟨gO, 2, none⟩ = some x2 := by rw [Lib.cell_of_heap h.c]; rfl
theorem st7_c3 (h : St7 Dev Log w gO gB #[x0, x1, x2, x3] v nb sb g gl d1 L1 F G gr kb kc wa qc yl la lc d2 L2 W) : W.cell? ⟨gO, 3, none⟩ = some x3 := by rw [Lib.cell_of_heap h.c]; rfl
theorem st7_lt (h : St7 Dev Log w gO gB #[x0, x1, x2, x3] v nb sb g gl d1 L1 F G gr kb kc wa qc yl la lc d2 L2 W) : gO < W.heap.size := heap_lt h.c
/-- the bytes of one's own, apart from the program's device and log -/
theorem st7_far {a2 : Option Addr} {c2 : Nat} {oc : Array Value} (h : St7 Dev Log w gO gB oc (.slice a2 nb c2) nb sb g gl d1 L1 F G gr kb kc wa qc yl la lc d2 L2 W) : ∀ x, a2 = some x → ¬ F x.block ∧ ¬ G x.block := fun x e =>
  ⟨fun hf => h.o.ap x.block (by rw [e]; rfl) (.inl (.inl hf)), fun hf => h.o.ap x.block (by rw [e]; rfl) (.inl (.inr hf))⟩
theorem wa_old7 {wa wa' : Option Addr} {n m : Nat} (h : wa' = wa ∨ wa' = none) : ∀ x, wa' = some x → wa = some x ∨ (n ≤ x.block ∧ x.block < m) := by
  intro x e
  rcases h with rfl | rfl
  · exact .inl e
  · cases e
end
/-- what stands where LogPlays compares: cells of the reference's log and device, all else hidden -/
abbrev Rst (Dev : Nat → Sm.Dv → (Nat → Prop) → World → Prop) (Log : Nat → Nat → Lm.Lg → (Nat → Prop) → World → Prop) (w : World) (g gl : Nat) (d : Sm.Dv) (L : Lm.Lg) (F G : Nat → Prop) (gr kb kc : Nat) (wa : Option Addr) (qc yl : Nat) (la : Option Addr) (lc N : Nat) (BS : ByteArray) (EP CL : Int) (W : World) : Prop :=
  W.cell? ⟨yl, 6, none⟩ = some (.slice la N lc) ∧ W.cell? ⟨yl, 5, none⟩ = some (.string BS) ∧ W.cell? ⟨yl, 3, none⟩ = some (.int .i64 EP) ∧ W.cell? ⟨gr, 3, none⟩ = some (.int .i64 CL) ∧ Hid (P4 Dev Log w.heap.size g gl d L F G gr kb kc wa qc yl la lc d L W ∧ Below w.heap.size w W)
section
variable {Dev : Nat → Sm.Dv → (Nat → Prop) → World → Prop} {Log : Nat → Nat → Lm.Lg → (Nat → Prop) → World → Prop} {w : World} {g gl gr kb kc qc yl lc N : Nat} {wa la : Option Addr} {d : Sm.Dv} {L : Lm.Lg} {F G : Nat → Prop} {W : World} {BS : ByteArray} {EP CL : Int}
theorem Rst.of (hp : P4 Dev Log w.heap.size g gl d L F G gr kb kc wa qc yl la lc d L W) (hb : Below w.heap.size w W) (hN : N = L.l.length) (hBS : BS = st L.h.body) (hEP : EP = (L.h.epoch : Int)) (hCL : CL = d.calls) : Rst Dev Log w g gl d L F G gr kb kc wa qc yl la lc N BS EP CL W :=
  ⟨by rw [hN]; exact hp.q.y.c6, by rw [hBS]; exact hp.q.y.c5, by rw [hEP]; exact hp.q.y.c3, by rw [hCL]; exact hp.q.r.c3, hp, hb⟩
theorem Rst.below (V : SecCon Dev) (U : LogCon Dev Log) {W' : World} (h : Rst Dev Log w g gl d L F G gr kb kc wa qc yl la lc N BS EP CL W) (hb : Below W.heap.size W W') (he : N = L.l.length ∧ BS = st L.h.body ∧ EP = (L.h.epoch : Int) ∧ CL = d.calls) : Rst Dev Log w g gl d L F G gr kb kc wa qc yl la lc N BS EP CL W' :=
  Rst.of (h.2.2.2.2.out.1.below V U hb) (h.2.2.2.2.out.2.trans (hb.mono h.2.2.2.2.out.2.size)) he.1 he.2.1 he.2.2.1 he.2.2.2
end
/-- the contract of the device's Write for whatever bytes -/
def WrA (Dev : Nat → Sm.Dv → (Nat → Prop) → World → Prop) : Prop :=
  ∀ (g : Nat) (d : Sm.Dv) (F : Nat → Prop) (W : World) (i : Int) (a : Option Addr) (n c : Nat) (l : List UInt8), Dev g d F W → Lim d → Yt (.slice a n c) l W → (0 < l.length → ∀ x, a = some x → ¬ F x.block) →
    Calls Try.prog 20 #[.pointer (some ⟨g, 0, none⟩), .int .i64 i, .slice a n c] W fun e w' => e = .returned (.int .i64 (Sm.write d i l).2) ∧ Did Dev g F (Sm.write d i l).1 W w'
theorem dl_lim {d : Sm.Dv} (h : Dl d) : Lim d := ⟨by have := h.w; omega, h.c0, by have := h.c1; omega, h.l0, h.l1⟩
theorem dl_new {n : Nat} (h : n ≤ 200) : Dl (Sm.new n) := ⟨Nat.zero_le _, Int.le_refl _, by show (0 : Int) ≤ _; omega, by show (-1 : Int) ≤ -1; omega, by show (-1 : Int) ≤ _; omega, by show (List.replicate n (Sm.full [])).length ≤ 200; rw [List.length_replicate]; exact h⟩
set_option maxHeartbeats 16000000 in
set_option maxRecDepth 100000 in
theorem walk_plays7 {Dev : Nat → Sm.Dv → (Nat → Prop) → World → Prop} {Log : Nat → Nat → Lm.Lg → (Nat → Prop) → World → Prop} (V : SecCon Dev) (U : LogCon Dev Log) (WB : WrA Dev) (z0 z1 : Int) (ta : Option Addr) (tn tc : Nat) (l : List Sp) (w : World) (hz1 : n64 z1) (hm : tn ≤ maxLen) (ht : Sv ta tn l w) (hbig : ∀ s ∈ l, s.b.length ≤ 140737488355328) :
    Calls Try.prog 3 #[.agg #[.int .i64 z0, .int .i64 z1], .slice ta tn tc] w fun e w' => e = .returned (.bool true) ∧ Below w.heap.size w w' := by
  have HV := Lib.hid V
  have HU := Lib.hid U
  have HWB := Lib.hid WB
  have HM : Hid ((tn : Int) ≤ 9223372036854775807) := by show _ ≤ _; unfold maxLen at hm; omega
  have HS := Lib.hid ht
  have HBG := Lib.hid hbig
  have HZI := Lib.hid hz1
  obtain ⟨i0, hi0, hz0, hz1', hz2⟩ := info_of info1b7
  have HI0 := Lib.hid hi0; have HZ0 := Lib.hid hz0; have HZ1 := Lib.hid hz1'; have HZ2 := Lib.hid hz2
  obtain ⟨Uz, hUz⟩ : ∃ Uz : Nat, (Uz : Int) = z0 % 18446744073709551616 := ⟨(z0 % 18446744073709551616).toNat, by omega⟩
  obtain ⟨q, hq⟩ : ∃ q, q = Uz % 20 := ⟨_, rfl⟩
  obtain ⟨nn, hnn⟩ : ∃ nn, nn = 1 + q := ⟨_, rfl⟩
  have hw1 : IntKind.u64.wrap z0 = (Uz : Int) := by rw [IntKind.wrap_u64, hUz]
  have hw2 : (Uz : Int).tmod 20 = (q : Int) := by rw [Int.tmod_eq_emod_of_nonneg (by omega)]; omega
  have hqi : (1 : Int) + (q : Int) = (nn : Int) := by omega
  have hq20 : q < 20 := by omega
  have hn1 : 1 ≤ nn := by omega
  have hn20 : nn ≤ 20 := by omega
  clear V U WB hm ht hbig hz1 hi0 hz0 hz1' hz2 hUz hq hnn
  go_enter Try.func3, Try.ntmps3
  go_wp2_with fail
  refine (walk_first HV.out HU.out _).mono ?_
  rintro e w1 ⟨rfl, hb1⟩
  have hbx : w1.heap[w.heap.size]? = some (.cells #[.int .i64 z0, .int .i64 z1] 22 (0, 0)) := by rw [hb1.block _ (by simp)]; exact heap_alloc_new w _
  have b0 : w1.cell? ⟨w.heap.size, 0, none⟩ = some (.int .i64 z0) := by rw [Lib.cell_of_heap hbx]; rfl
  have b1 : w1.cell? ⟨w.heap.size, 1, none⟩ = some (.int .i64 z1) := by rw [Lib.cell_of_heap hbx]; rfl
  have hbl := heap_lt hbx
  have HB1 := Lib.hid ((one_b w (.cells #[.int .i64 z0, .int .i64 z1] 22)).trans (hb1.mono (by simp)))
  have hs1 := HB1.out.size
  clear hb1 hbx
  go_wp2_with fail
  refine (HV.out.new nn w1 hn1 (by omega)).mono ?_
  rintro e w2 ⟨g, F, rfl, hd, hF, hb⟩
  have HD := Lib.hid hd; have HF := Lib.hid hF
  have hb12 := (hb.cell (p := ⟨w.heap.size, 1, none⟩) hbl).trans b1
  have hbl2 : w.heap.size < w2.heap.size := by have := hb.size; omega
  have HB2 := Lib.hid (HB1.out.trans (hb.mono hs1))
  have HS1 := Lib.hid (show w.heap.size ≤ w1.heap.size ∧ w1.heap.size ≤ w2.heap.size from ⟨hs1, hb.size⟩)
  clear hd hF hb b0 b1 hbl hs1 HB1
  go_wp2_with fail
  refine (ref6_new nn w2 (by omega) (by omega)).mono ?_
  rintro e w3 ⟨gr, kb, kc, rfl, hg, hk, hr, hb⟩
  have b13 := (hb.cell (p := ⟨w.heap.size, 1, none⟩) hbl2).trans hb12
  have HR := Lib.hid hr
  have HD3 := Lib.hid (HV.out.below HD.out hb)
  have HFL : Hid (∀ k, F k → w1.heap.size ≤ k ∧ k < w2.heap.size) := fun k hk => ⟨HF.out k hk, HV.out.lt HD.out k hk⟩
  have HGR : Hid (w2.heap.size ≤ gr ∧ w2.heap.size ≤ kb ∧ gr < w3.heap.size ∧ kb < w3.heap.size) := ⟨hg, hk, hr.lt, (hr.kr.lt kb rfl).2⟩
  have HB3 := Lib.hid (HB2.out.trans (hb.mono HB2.out.size))
  have HS2 := Lib.hid hb.size
  clear hg hk hr hb hb12 hbl2 HD HF HB2 hw1 hw2 hqi
  cases hop : (Lm.open_ (Sm.new nn) z1).1 with
  | none => as_aux_lemma =>
    obtain ⟨C, hC⟩ : ∃ C, C = (Lm.open_ (Sm.new nn) z1).2.2 := ⟨_, rfl⟩
    have hc0 : (C != 0) = true := by rw [hC]; simpa using Lm.open_none hop
    have hcc : (C != C) = false := by simp
    have HOP := Lib.hid hop; have HC := Lib.hid hC
    clear hop hC
    go_wp2_with fail
    refine (HU.out.openNo z1 HD3.out (dl_new (by omega)) HZI.out HOP.out).mono ?_
    rintro e w4 ⟨rfl, F4, hd4, ho4, hf4⟩
    rw [← HC.out]
    have HR4 := Lib.hid (HR.out.keepO ho4 (fun hf => by have := HFL.out _ hf; have := HGR.out; omega) (fun hf => by have := HFL.out _ hf; have := HGR.out; omega) (fun x e => by cases e))
    have HB4 : Hid (Below w.heap.size w w4) := HB3.out.trans (only_bel ho4 HB3.out.size (fun k hk hp => by have := HFL.out k hp; have := HS1.out; omega))
    clear hd4 ho4 hf4
    go_wp2_with fail
    refine (ref7_open z1 HR4.out (dl_new (by omega)) (Sm.ok_new nn) (fun x e => by cases e) HZI.out).mono ?_
    rintro e w5 hR
    unfold OpR at hR
    rw [HOP.out] at hR
    obtain ⟨ho5, wa5, wc5, hd5, hwa5, rfl⟩ := hR
    rw [← HC.out]
    have HB5 : Hid (Below w.heap.size w w5) := HB4.out.trans (only_bel ho5 HB4.out.size (fun k hk hp => by have := HGR.out; have := HS1.out; rcases hp with rfl | rfl <;> omega))
    have hs5 := HB5.out.size
    clear ho5 hd5 hwa5 HR4 HB4 HR HD3 HFL HGR HB3 HS1 HS2
    go_wp2_with fail
    refine (HU.out.nOpen w5 1 ⟨by omega, by omega⟩).mono ?_
    rintro e w6 ⟨rfl, hb⟩
    have HB6 := Lib.hid (HB5.out.trans (hb.mono hs5)); have hs6 := HB6.out.size
    clear hb
    go_wp2_with fail
    refine (HU.out.nAppend w6).mono ?_
    rintro e w7 ⟨rfl, hb⟩
    have HB7 := Lib.hid (HB6.out.trans (hb.mono hs6)); have hs7 := HB7.out.size
    clear hb
    go_wp2_with fail
    refine (HU.out.nReset w7).mono ?_
    rintro e w8 ⟨rfl, hb⟩
    have HB8 := Lib.hid (HB7.out.trans (hb.mono hs7)); have hs8 := HB8.out.size
    clear hb
    go_wp2_with fail
    refine (HU.out.nHead w8).mono ?_
    rintro e w9 ⟨a9, c9, rfl, hb⟩
    have HB9 := Lib.hid (HB8.out.trans (hb.mono hs8)); have hs9 := HB9.out.size
    clear hb
    go_wp2_with fail
    refine (HU.out.nBatches w9).mono ?_
    rintro e w10 ⟨a10, c10, rfl, hb⟩
    have HB10 := Lib.hid (HB9.out.trans (hb.mono hs9)); have hs10 := HB10.out.size
    clear hb
    go_wp2_with fail
    refine (HU.out.nRoom w10).mono ?_
    rintro e w11 ⟨rfl, hb⟩
    have HB11 := Lib.hid (HB10.out.trans (hb.mono hs10)); have hs11 := HB11.out.size
    clear hb
    go_wp2_with fail
    refine (HU.out.nEpoch w11).mono ?_
    rintro e w12 ⟨rfl, hb⟩
    have HB12 := Lib.hid (HB11.out.trans (hb.mono hs11))
    clear hb
    go_wp2
    go_ret
    exact ⟨rfl, HB12.out⟩
  | some L0 =>
    have HOP := Lib.hid hop
    obtain ⟨d0, hd0⟩ : ∃ d0, d0 = (Lm.open_ (Sm.new nn) z1).2.1 := ⟨_, rfl⟩
    have HLP0 : Hid (Lm.Plp nn 0 d0 L0) := by rw [hd0]; exact Lm.plp_new nn z1 hop
    have HD0 := Lib.hid hd0
    clear hop hd0
    go_wp2_with fail
    refine (HU.out.openOk z1 L0 HD3.out (dl_new (by omega)) HZI.out HOP.out).mono ?_
    rintro e w4 ⟨gl, F4, G4, rfl, hd4, hl4, ho4, hf4, hg4, ha4⟩
    rw [← HD0.out] at hd4
    have HR4 := Lib.hid (HR.out.keepO ho4 (fun hf => by have := HFL.out _ hf; have := HGR.out; omega) (fun hf => by have := HFL.out _ hf; have := HGR.out; omega) (fun x e => by cases e))
    have HB4 : Hid (Below w.heap.size w w4) := HB3.out.trans (only_bel ho4 HB3.out.size (fun k hk hp => by have := HFL.out k hp; have := HS1.out; omega))
    have HLD : Hid (Ld Dev Log w.heap.size g gl d0 L0 F4 G4 w4) := ⟨hd4, hl4, fun k hk => by
      have := HS1.out; have := HS2.out
      rcases hf4 k hk with h | h
      · have := HFL.out k h; omega
      · omega, fun k hk => by have := hg4 k hk; have := HS1.out; have := HS2.out; omega, ha4⟩
    have HAP : Hid (∀ k, Fp gr kb k → ¬ F4 k ∧ ¬ G4 k) := fun k hk => by
      have h1 := HGR.out
      have h2 : w2.heap.size ≤ k ∧ k < w3.heap.size := by rcases hk with rfl | rfl <;> omega
      refine ⟨fun hf => ?_, fun hf => ?_⟩
      · rcases hf4 k hf with h | h
        · have := HFL.out k h; omega
        · omega
      · have := hg4 k hf; omega
    have HS4 := Lib.hid ho4.size
    clear hd4 hl4 ho4 hf4 hg4 ha4
    go_wp2_with fail
    refine (ref7_open z1 HR4.out (dl_new (by omega)) (Sm.ok_new nn) (fun x e => by cases e) HZI.out).mono ?_
    rintro e w5 hR
    unfold OpR at hR
    rw [HOP.out, ← HD0.out] at hR
    obtain ⟨ho5, wa5, wc5, hd5, hwa5, yl, la5, lc5, rfl, hl5, hy5, hla5, hnw5⟩ := hR
    have HP5 := Lib.hid (p4_start HV.out HU.out HLD.out HR4.out (by have := HGR.out; have := HS1.out; exact ⟨by omega, by omega⟩) HAP.out ho5 hd5 hwa5 hl5 hy5 hla5 hnw5 HB4.out.size)
    have HB5 : Hid (Below w.heap.size w w5) := HB4.out.trans (only_bel ho5 HB4.out.size (fun k hk hp => by have := HGR.out; have := HS1.out; rcases hp with rfl | rfl <;> omega))
    clear ho5 hd5 hwa5 hl5 hy5 hla5 hnw5 HLD HR4 HAP HB4 HR HD3 HFL HGR HB3 HS1 HS2 HS4 HOP HD0 b13
    go_upto_block 0 with (fail)
    go_cut [] (fun wx => Hid (Below w.heap.size w wx))
    case rest =>
      go_wp2
      go_ret
      exact ⟨rfl, hcut.out⟩
    case first =>
    go_wp2_with fail
    go_loopw [10, 12, 114] (fun lv yv iv wr => ∃ (j gl yl : Nat) (d : Sm.Dv) (L : Lm.Lg) (F G : Nat → Prop) (wa la : Option Addr) (qc lc : Nat), j ≤ tn ∧ iv = .int .i64 (j : Int) ∧ lv = .pointer (some ⟨gl, 0, none⟩) ∧ yv = .pointer (some ⟨yl, 0, none⟩) ∧ j ≤ 40 ∧ Hid (Lm.Plp nn j d L) ∧ Hid (P4 Dev Log w.heap.size g gl d L F G gr kb kc wa qc yl la lc d L wr) ∧ Hid (Below w.heap.size w wr)) (fun _ _ iv _ => tn - (ixOf iv).toNat)
    case atStart => exact ⟨0, gl, yl, d0, L0, F4, G4, wa5, la5, wc5, lc5, Nat.zero_le _, rfl, rfl, rfl, by omega, HLP0.out, HP5.out, HB5.out⟩
    case round =>
      clear HLP0 HP5 HB5
      obtain ⟨j, gl, yl, d, L, F, G, wa, la, qc, lc, hj, rfl, rfl, rfl, hj40, HLP, HP, HB⟩ := hrel
      have hwr := HB.out.size
      by_cases hlt : j < tn
      case neg =>
        go_wp2
        go_meet
        exact HB
      case pos =>
        obtain ⟨gt, off, ab, nb, cb, av, nt, ct, ha, hx0⟩ := HS.out.2 j (by rw [← HS.out.1]; exact hlt)
        have hbg0 := HBG.out (l[j]'(by rw [← HS.out.1]; exact hlt)) (List.getElem_mem _)
        generalize l[j]'(by rw [← HS.out.1]; exact hlt) = s at hx0 hbg0
        have hx := hx0.keep HB.out
        subst ha
        obtain ⟨sk, si, sb, sts⟩ := s
        have e0 := hx.c0; have e1 := hx.c1; have e2 := hx.c2; have e3 := hx.c3
        dsimp only at e0 e1 e2 e3 hbg0
        have hoff : off + j * 4 + 0 = off + j * 4 := Nat.add_zero _
        have hba := one_b wr (.cells #[.int .i64 sk, .int .i64 si, .slice ab nb cb, .slice av nt ct] 46)
        have HPA := Lib.hid (HP.out.below HV.out HU.out hba)
        have HBA := Lib.hid (HB.out.trans (hba.mono hwr))
        have hqa : (wr.alloc (.cells #[.int .i64 sk, .int .i64 si, .slice ab nb cb, .slice av nt ct] 46)).heap[wr.heap.size]? = some (.cells #[.int .i64 sk, .int .i64 si, .slice ab nb cb, .slice av nt ct] 46 (0, 0)) := heap_alloc_new wr _
        have HQA := Lib.hid hqa
        have HPL := Lib.hid (HP.out.lt HV.out HU.out)
        have HX := Lib.hid hx0
        have hnb : nb = sb.length := by obtain ⟨_, _, e⟩ := hx.b.form; injection e
        have HNB := Lib.hid hnb
        have HBB : Hid ((sb.length : Int) ≤ 140737488355328) := by show _ ≤ _; omega
        clear hba hoff hnb hx hx0 HP HB hqa hbg0
        by_cases h40 : j = 40
        case pos =>
          have q : decide ((40 : Int) ≤ (j : Int)) = true := by simp; omega
          clear h40
          go_wp2
          go_meet
          exact HBA
        case neg =>
        have q40 : decide ((40 : Int) ≤ (j : Int)) = false := by simp; omega
        have hj39 : j < 40 := by omega
        clear h40 hj40
        have hba := HBA.out.size
        go_wp2_with fail
        refine (law_long sk si ab nb cb av nt ct _).mono ?_
        rintro e w4 ⟨rfl, hb⟩
        obtain ⟨Z, hZ⟩ : ∃ Z, Z = Lm.lg nb nt := ⟨_, rfl⟩
        rw [← hZ]
        have HP4 := Lib.hid (HPA.out.below HV.out HU.out hb); have HB4 := Lib.hid (HBA.out.trans (hb.mono hba))
        have hq4 : w4.heap[wr.heap.size]? = some (.cells #[.int .i64 sk, .int .i64 si, .slice ab nb cb, .slice av nt ct] 46 (0, 0)) := by rw [hb.block _ (by simp)]; exact HQA.out
        have k0 : w4.cell? ⟨wr.heap.size, 0, none⟩ = some (.int .i64 sk) := by rw [Lib.cell_of_heap hq4]; rfl
        have k2 : w4.cell? ⟨wr.heap.size, 2, none⟩ = some (.slice ab nb cb) := by rw [Lib.cell_of_heap hq4]; rfl
        have hgO4 := heap_lt hq4
        have HQ4 := Lib.hid hq4
        have hg4 := HB4.out.size
        clear hb hba HPA HBA HQA hq4
        by_cases hz : 1000 < Z
        case pos =>
          have q : decide ((1000 : Int) < Z) = true := by simpa using hz
          clear hz hZ
          go_wp2
          go_meet
          exact HB4
        case neg =>
        have qz : decide ((1000 : Int) < Z) = false := by simpa using hz
        have HBL : Hid (nb ≤ 400 ∨ 65536 < nb) := by
          show _ ∨ _
          rw [hZ] at hz
          unfold Lm.lg at hz
          split at hz <;> omega
        have HNT : Hid (nt ≤ 200) := by
          show _ ≤ _
          rw [hZ] at hz
          unfold Lm.lg at hz
          split at hz <;> omega
        obtain ⟨Un, hU⟩ : ∃ Un : Nat, (Un : Int) = sk % 18446744073709551616 := ⟨(sk % 18446744073709551616).toNat, by omega⟩
        obtain ⟨mm, hmm⟩ : ∃ mm, mm = Un % 6 := ⟨_, rfl⟩
        have hm6 : mm < 6 := by omega
        have hw2 : (Un : Int).tmod 6 = (mm : Int) := by rw [Int.tmod_eq_emod_of_nonneg (by omega)]; omega
        have hw1 : IntKind.u64.wrap sk = (Un : Int) := by rw [IntKind.wrap_u64, hU]
        clear hU hmm hz hZ
        -- the bytes of one's own
        have hba := one_b w4 (.cells #[] 5)
        have HY0 := Lib.hid (show Yt (.slice ab nb cb) sb w from HX.out.b)
        have HBW := Lib.hid (HB4.out.trans (hba.mono hg4))
        have HSR : Hid (Src Try.prog 1 39 (.slice ab nb cb) nb (yc sb) (w4.alloc (.cells #[] 5))) := by
          have h1 := Yt.src (HY0.out.keep HBW.out)
          rw [← HNB.out] at h1; exact h1
        have HOL := Lib.hid (own_nil7 w4 w4.heap.size rfl)
        have hnbI : (nb : Int) ≤ 140737488355328 := by have := HBB.out; have := HNB.out; omega
        clear hba
        go_wp2_with (at_builtin; refine wpList_append_src _ rfl (.tmp 126) (.tmp 128) 39 39 rfl w4.heap.size 5 i0 _ 1 1 Try.underlying39 HI0.out HZ0.out HZ1.out HZ2.out rfl (.slice (some ⟨w4.heap.size, 0, none⟩) 0 0) 0 [] rfl HOL.out _ nb (yc sb) rfl HSR.out ?qa ?qb ?qc ?_)
        case qa => unfold maxLen; omega
        case qb => omega
        case qc => simp
        intro v2 w2 hown hgrow hat
        have hoA : Only (fun k => k = w4.heap.size) (w4.alloc (.cells #[] 5)) w2 := Only.grown (Only.refl _ _) hgrow (fun k e => .inl (by simp [Value.ownBlock] at e; omega))
        have HP2 := Lib.hid ((HP4.out.below HV.out HU.out (one_b w4 (.cells #[] 5))).keepO HV.out HU.out hoA (fun k hk e => by have := HPL.out k hk; omega))
        have HB2 := Lib.hid (HBW.out.grown hgrow (by have := HBW.out.size; exact this) (fun k e => by simp [Value.ownBlock] at e; omega))
        have hq2 : w2.heap[wr.heap.size]? = some (.cells #[.int .i64 sk, .int .i64 si, .slice ab nb cb, .slice av nt ct] 46 (0, 0)) := by
          rw [hoA.block _ (by simp; omega) (by omega), Below.heap_alloc w4 _ _ hgO4]; exact HQ4.out
        have hw2' : w2.ownsRow w4.heap.size 5 1 v2 nb (yc sb) := by simpa using hown
        obtain ⟨a2, c2, hv2⟩ := (Yt.of_own hw2').form
        rw [← HNB.out] at hv2
        subst hv2
        obtain ⟨gO, hgO⟩ : ∃ gO, gO = wr.heap.size := ⟨_, rfl⟩
        obtain ⟨gB, hgB⟩ : ∃ gB, gB = w4.heap.size := ⟨_, rfl⟩
        have HST : Hid (St7 Dev Log w gO gB #[.int .i64 sk, .int .i64 si, .slice ab nb cb, .slice av nt ct] (.slice a2 nb c2) nb sb g gl d L F G gr kb kc wa qc yl la lc d L w2) := ⟨HP2.out, HB2.out, ⟨by rw [hgB]; exact hw2', fun k e hk => by have := (hw2'.lt k e).1; have := HPL.out k hk; omega⟩, by rw [hgO]; exact hq2, fun hk => by have := HPL.out _ hk; omega⟩
        have HGO : Hid (w.heap.size ≤ gB) := by show _ ≤ _; rw [hgB]; exact hg4
        rw [← hgO]
        clear hown hgrow hat hoA HP2 HB2 hq2 hw2' HSR HOL HBW HP4 HB4 HQ4 hgO4 hg4 HPL k0 k2 hgB hwr hgO
        have k0 := st7_c0 HST.out; have k1 := st7_c1 HST.out; have k2 := st7_c2 HST.out; have k3 := st7_c3 HST.out
        have hgl := st7_lt HST.out
        go_upto_block 2 with (fail)
        go_cut [10, 12, 20, 21] (fun lv yv ev fv wx => ∃ (E : Int) (gl yl : Nat) (d : Sm.Dv) (L : Lm.Lg) (F G : Nat → Prop) (wa la : Option Addr) (qc lc : Nat), lv = .pointer (some ⟨gl, 0, none⟩) ∧ yv = .pointer (some ⟨yl, 0, none⟩) ∧ ev = .int .i64 E ∧ fv = .int .i64 E ∧ Hid (Lm.Plp nn (j + 1) d L) ∧ Hid (St7 Dev Log w gO gB #[.int .i64 sk, .int .i64 si, .slice ab nb cb, .slice av nt ct] (.slice a2 nb c2) nb sb g gl d L F G gr kb kc wa qc yl la lc d L wx))
        case first => as_aux_lemma =>
          have hs2 := HST.out.b.size
          have HDL := Lib.hid (HLP.out.v.dl (by omega) (by omega))
          have HSD := Lib.hid (HST.out.below HV.out HU.out (below_drew7 w2))
          have hsd := HSD.out.b.size
          have HYD := Lib.hid (show Yt (.slice a2 nb c2) sb w2.drew from Yt.of_own HSD.out.o.own)
          have HFR := Lib.hid (st7_far HSD.out)
          obtain ⟨S, hS⟩ : ∃ S, S = st sb := ⟨_, rfl⟩
          have HCV : Hid (∀ W, Below w.heap.size w W → (convert 39 9 (.slice ab nb cb)).run Try.prog W = .ok (.string S) W) := fun W hW => by
            rw [hS]; exact Yt.str (HY0.out.keep hW)
          rcases (show mm = 0 ∨ mm = 1 ∨ mm = 2 ∨ mm = 5 ∨ mm = 3 ∨ mm = 4 by omega) with rfl | rfl | rfl | rfl | hm34
          · -- Append
            obtain ⟨L', d', E, hE⟩ : ∃ L' d' E, Lm.append L d sb = (L', d', E) := ⟨_, _, _, rfl⟩
            have HLP2 : Hid (Lm.Plp nn (j + 1) d' L') := by have h := HLP.out.append sb (by have := HBL.out; have := HNB.out; omega); rw [hE] at h; exact h
            have HW1 : Hid (Calls Try.prog 9 #[.pointer (some ⟨gl, 0, none⟩), .slice a2 nb c2] w2.drew fun e w' => e = .returned (.int .i64 E) ∧ ∃ F' G', Hid (St7 Dev Log w gO gB #[.int .i64 sk, .int .i64 si, .slice ab nb cb, .slice av nt ct] (.slice a2 nb c2) nb sb g gl d' L' F' G' gr kb kc wa qc yl la lc d L w')) :=
              (Ld.append HU.out HSD.out.p.p HDL.out HLP.out.k HSD.out.b hsd HYD.out (by have := HBB.out; omega) (fun _ => HFR.out) hE).mono (by
                rintro e w' ⟨rfl, F', G', h1, h2, h3⟩
                exact ⟨rfl, F', G', HSD.out.one h1 h2 h3⟩)
            have HW2 : Hid (∀ F' G' W, St7 Dev Log w gO gB #[.int .i64 sk, .int .i64 si, .slice ab nb cb, .slice av nt ct] (.slice a2 nb c2) nb sb g gl d' L' F' G' gr kb kc wa qc yl la lc d L W → Calls Try.prog 16 #[.pointer (some ⟨yl, 0, none⟩), .string S] W fun e w' => e = .returned (.int .i64 E) ∧ ∃ wa' qc' la' lc', Hid (St7 Dev Log w gO gB #[.int .i64 sk, .int .i64 si, .slice ab nb cb, .slice av nt ct] (.slice a2 nb c2) nb sb g gl d' L' F' G' gr kb kc wa' qc' yl la' lc' d' L' w')) := fun F' G' W hW => by
              rw [hS]
              refine (ref7_appendA sb hW.p.q.y hW.p.q.r hW.p.q.ne hW.p.q.nl hW.p.q.nw HDL.out HLP.out.v.ok HLP.out.k (by have := HBB.out; omega)).mono ?_
              intro e w' hR
              have h := hW.log2 HV.out HU.out hR
              rw [hE] at h
              exact h
            clear hE hS HYD HFR HDL hs2 hsd
            have S0 := Lib.hid (show w2.drew.cell? ⟨gO, 2, none⟩ = some (.slice ab nb cb) ∧ (convert 39 9 (.slice ab nb cb)).run Try.prog w2.drew = .ok (.string S) w2.drew from ⟨st7_c2 HSD.out, HCV.out _ HSD.out.b⟩)
            clear k0 k1 k2 k3 HST
            go_upto_region 32 with (fail)
            go_region_held3 (fun w' => w'.cell? ⟨gO, 2, none⟩ = some (.slice ab nb cb) ∧ (convert 39 9 (.slice ab nb cb)).run Try.prog w' = .ok (.string S) w')
              (first | exact S0.out | exact S6.out | exact S7.out)
              (first
              | (go_at_call 9; refine HW1.out.mono ?_; rintro e w6 ⟨rfl, F6, G6, HS6⟩; have S6 := Lib.hid (show w6.cell? ⟨gO, 2, none⟩ = some (.slice ab nb cb) ∧ (convert 39 9 (.slice ab nb cb)).run Try.prog w6 = .ok (.string S) w6 from ⟨st7_c2 HS6.out, HCV.out _ HS6.out.b⟩))
              | (go_at_call 16; refine (HW2.out _ _ _ HS6.out).mono ?_; rintro e w7 ⟨rfl, wa7, wc7, la7, lc7, HS7⟩; have S7 := Lib.hid (show w7.cell? ⟨gO, 2, none⟩ = some (.slice ab nb cb) ∧ (convert 39 9 (.slice ab nb cb)).run Try.prog w7 = .ok (.string S) w7 from ⟨st7_c2 HS7.out, HCV.out _ HS7.out.b⟩)))
            all_goals
              clear S0 S6 S7 HSD HW1 HW2 HCV
              go_wp2
              go_meet
              exact ⟨E, gl, yl, d', L', F6, G6, wa7, la7, wc7, lc7, rfl, rfl, rfl, rfl, HLP2.out, HS7.out⟩
          · -- Reset
            obtain ⟨L', d', E, hE⟩ : ∃ L' d' E, Lm.reset L d sb = (L', d', E) := ⟨_, _, _, rfl⟩
            have HLP2 : Hid (Lm.Plp nn (j + 1) d' L') := by have h := HLP.out.reset sb; rw [hE] at h; exact h
            have HNN : Hid (L.h.n ≤ N62) := by show _ ≤ _; have := HLP.out.n; unfold N62; omega
            have HW1 : Hid (Calls Try.prog 10 #[.pointer (some ⟨gl, 0, none⟩), .slice a2 nb c2] w2.drew fun e w' => e = .returned (.int .i64 E) ∧ ∃ F' G', Hid (St7 Dev Log w gO gB #[.int .i64 sk, .int .i64 si, .slice ab nb cb, .slice av nt ct] (.slice a2 nb c2) nb sb g gl d' L' F' G' gr kb kc wa qc yl la lc d L w')) :=
              (Ld.reset HU.out HSD.out.p.p HDL.out HLP.out.k HNN.out HSD.out.b hsd HYD.out (by have := HBB.out; omega) (fun _ => HFR.out) hE).mono (by
                rintro e w' ⟨rfl, F', G', h1, h2, h3⟩
                exact ⟨rfl, F', G', HSD.out.one h1 h2 h3⟩)
            have HW2 : Hid (∀ F' G' W, St7 Dev Log w gO gB #[.int .i64 sk, .int .i64 si, .slice ab nb cb, .slice av nt ct] (.slice a2 nb c2) nb sb g gl d' L' F' G' gr kb kc wa qc yl la lc d L W → Calls Try.prog 17 #[.pointer (some ⟨yl, 0, none⟩), .string S] W fun e w' => e = .returned (.int .i64 E) ∧ ∃ wa' qc' la' lc', Hid (St7 Dev Log w gO gB #[.int .i64 sk, .int .i64 si, .slice ab nb cb, .slice av nt ct] (.slice a2 nb c2) nb sb g gl d' L' F' G' gr kb kc wa' qc' yl la' lc' d' L' w')) := fun F' G' W hW => by
              rw [hS]
              refine (ref7_resetA sb hW.p.q.y hW.p.q.r hW.p.q.ne hW.p.q.nl hW.p.q.nw (HDL.out.dw HLP.out.v.ok) (by have := HNN.out; unfold N62 at this; omega) (by have := HLP.out.k.ep; omega) (by have := HBB.out; omega)).mono ?_
              intro e w' hR
              have h := hW.log2 HV.out HU.out hR
              rw [hE] at h
              exact h
            clear hE hS HYD HFR HDL hs2 hsd
            have S0 := Lib.hid (show w2.drew.cell? ⟨gO, 2, none⟩ = some (.slice ab nb cb) ∧ (convert 39 9 (.slice ab nb cb)).run Try.prog w2.drew = .ok (.string S) w2.drew from ⟨st7_c2 HSD.out, HCV.out _ HSD.out.b⟩)
            clear k0 k1 k2 k3 HST
            go_upto_region 34 with (fail)
            go_region_held3 (fun w' => w'.cell? ⟨gO, 2, none⟩ = some (.slice ab nb cb) ∧ (convert 39 9 (.slice ab nb cb)).run Try.prog w' = .ok (.string S) w')
              (first | exact S0.out | exact S6.out | exact S7.out)
              (first
              | (go_at_call 10; refine HW1.out.mono ?_; rintro e w6 ⟨rfl, F6, G6, HS6⟩; have S6 := Lib.hid (show w6.cell? ⟨gO, 2, none⟩ = some (.slice ab nb cb) ∧ (convert 39 9 (.slice ab nb cb)).run Try.prog w6 = .ok (.string S) w6 from ⟨st7_c2 HS6.out, HCV.out _ HS6.out.b⟩))
              | (go_at_call 17; refine (HW2.out _ _ _ HS6.out).mono ?_; rintro e w7 ⟨rfl, wa7, wc7, la7, lc7, HS7⟩; have S7 := Lib.hid (show w7.cell? ⟨gO, 2, none⟩ = some (.slice ab nb cb) ∧ (convert 39 9 (.slice ab nb cb)).run Try.prog w7 = .ok (.string S) w7 from ⟨st7_c2 HS7.out, HCV.out _ HS7.out.b⟩)))
            all_goals
              clear S0 S6 S7 HSD HW1 HW2 HCV
              go_wp2
              go_meet
              exact ⟨E, gl, yl, d', L', F6, G6, wa7, la7, wc7, lc7, rfl, rfl, rfl, rfl, HLP2.out, HS7.out⟩
          · -- the device is bound
            have HII := Lib.hid HX.out.ii
            have HLP2 := Lib.hid (HLP.out.bound si HII.out.2)
            clear HSD HYD HFR HCV hS hsd
            go_wp2_with fail
            refine (Ld.limit si HV.out HU.out HST.out.p.p HII.out HST.out.b hs2).mono ?_
            rintro e w6 ⟨rfl, F6, h1, h2, h3⟩
            have HS6 := HST.out.one h1 h2 h3
            have k16 := st7_c1 HS6.out
            clear h1 h2 h3 k0 k1 k2 k3 HST hgl hs2
            go_wp2_with fail
            refine (ref6_bound gr kb kc qc wa d si _ HS6.out.p.q.r).mono ?_
            rintro e w7 ⟨rfl, hr, ho⟩
            have HS7 := HS6.out.dev2 HV.out HU.out (ho.mono (fun k _ e => .inl e)) hr (fun x e => .inl e)
            clear ho hr HS6 k16
            go_wp2
            go_meet
            exact ⟨0, gl, yl, _, L, F6, G, wa, la, qc, lc, rfl, rfl, rfl, rfl, HLP2.out, HS7.out⟩
          · -- another hand writes
            obtain ⟨d', E, hE⟩ : ∃ d' E, Sm.write d si sb = (d', E) := ⟨_, _, rfl⟩
            have HLP2 : Hid (Lm.Plp nn (j + 1) d' L) := by have h := HLP.out.write si sb; rw [hE] at h; exact h
            have HLM := Lib.hid (dl_lim HDL.out)
            have HW1 : Hid (Calls Try.prog 20 #[.pointer (some ⟨g, 0, none⟩), .int .i64 si, .slice a2 nb c2] w2.drew fun e w' => e = .returned (.int .i64 E) ∧ ∃ F', Hid (St7 Dev Log w gO gB #[.int .i64 sk, .int .i64 si, .slice ab nb cb, .slice av nt ct] (.slice a2 nb c2) nb sb g gl d' L F' G gr kb kc wa qc yl la lc d L w')) :=
              (HWB.out _ _ _ _ si a2 nb c2 sb HSD.out.p.p.d HLM.out HYD.out (fun _ x e => (HFR.out x e).1)).mono (by
                rintro e w' ⟨rfl, hdid⟩
                rw [hE] at hdid ⊢
                obtain ⟨F', h1, h2, h3⟩ := HSD.out.p.p.dev HU.out hdid HSD.out.b hsd
                exact ⟨rfl, F', HSD.out.one h1 h2 h3⟩)
            have HW2 : Hid (∀ F' (_ : Unit) W, St7 Dev Log w gO gB #[.int .i64 sk, .int .i64 si, .slice ab nb cb, .slice av nt ct] (.slice a2 nb c2) nb sb g gl d' L F' G gr kb kc wa qc yl la lc d L W → Calls Try.prog 21 #[.pointer (some ⟨gr, 0, none⟩), .int .i64 si, .string S] W fun e w' => e = .returned (.int .i64 E) ∧ ∃ wa' qc', Hid (St7 Dev Log w gO gB #[.int .i64 sk, .int .i64 si, .slice ab nb cb, .slice av nt ct] (.slice a2 nb c2) nb sb g gl d' L F' G gr kb kc wa' qc' yl la lc d' L w')) := fun F' _ W hW => by
              rw [hS]
              refine (ref6_writeA gr kb kc qc wa d si sb W hW.p.q.r HLM.out.w (by have := HBB.out; omega) ⟨HLM.out.c0, HLM.out.c1⟩ ⟨HLM.out.l0, HLM.out.l1⟩).mono ?_
              rintro e w' ⟨rfl, ho, wa', qc', hr, hwa⟩
              rw [hE] at hr ⊢
              exact ⟨rfl, wa', qc', hW.dev2 HV.out HU.out (ho.mono (fun k _ e => .inl e)) hr hwa⟩
            clear hE hS HYD HFR HDL hs2 hsd
            have S0 := Lib.hid (show w2.drew.cell? ⟨gO, 2, none⟩ = some (.slice ab nb cb) ∧ (convert 39 9 (.slice ab nb cb)).run Try.prog w2.drew = .ok (.string S) w2.drew ∧ w2.drew.cell? ⟨gO, 1, none⟩ = some (.int .i64 si) from ⟨st7_c2 HSD.out, HCV.out _ HSD.out.b, st7_c1 HSD.out⟩)
            clear k0 k1 k2 k3 HST
            go_upto_region 39 with (fail)
            go_region_held3 (fun w' => w'.cell? ⟨gO, 2, none⟩ = some (.slice ab nb cb) ∧ (convert 39 9 (.slice ab nb cb)).run Try.prog w' = .ok (.string S) w' ∧ w'.cell? ⟨gO, 1, none⟩ = some (.int .i64 si))
              (first | exact S0.out | exact S6.out | exact S7.out)
              (first
              | (go_at_call 20; refine HW1.out.mono ?_; rintro e w6 ⟨rfl, F6, HS6⟩; have S6 := Lib.hid (show w6.cell? ⟨gO, 2, none⟩ = some (.slice ab nb cb) ∧ (convert 39 9 (.slice ab nb cb)).run Try.prog w6 = .ok (.string S) w6 ∧ w6.cell? ⟨gO, 1, none⟩ = some (.int .i64 si) from ⟨st7_c2 HS6.out, HCV.out _ HS6.out.b, st7_c1 HS6.out⟩))
              | (go_at_call 21; refine (HW2.out _ () _ HS6.out).mono ?_; rintro e w7 ⟨rfl, wa7, wc7, HS7⟩; have S7 := Lib.hid (show w7.cell? ⟨gO, 2, none⟩ = some (.slice ab nb cb) ∧ (convert 39 9 (.slice ab nb cb)).run Try.prog w7 = .ok (.string S) w7 ∧ w7.cell? ⟨gO, 1, none⟩ = some (.int .i64 si) from ⟨st7_c2 HS7.out, HCV.out _ HS7.out.b, st7_c1 HS7.out⟩)))
            all_goals
              clear S0 S6 S7 HSD HW1 HW2 HCV
              go_wp2
              go_meet
              exact ⟨E, gl, yl, d', L, F6, G, wa7, la, wc7, lc, rfl, rfl, rfl, rfl, HLP2.out, HS7.out⟩
          · -- a crash or none, and Open
            clear HSD HYD HFR HCV hS hsd
            have hm3 : 3 ≤ mm := by omega
            have HT0 := Lib.hid (show It (.slice av nt ct) sts w from HX.out.t)
            have HTL : Hid (sts.length ≤ 1000) := by
              obtain ⟨_, _, e⟩ := HT0.out.form
              injection e with _ e2 _
              show _ ≤ _; have := HNT.out; omega
            have HFT : Hid (0 < sts.length → ∀ x, av = some x → x.block < w.heap.size) := it_far HT0.out
            go_upto_if 138 with (fail)
            go_cut [] (fun wx => ∃ (d : Sm.Dv) (F : Nat → Prop) (wa : Option Addr) (qc : Nat), Hid (Lm.Plp nn j d L) ∧ Hid (St7 Dev Log w gO gB #[.int .i64 sk, .int .i64 si, .slice ab nb cb, .slice av nt ct] (.slice a2 nb c2) nb sb g gl d L F G gr kb kc wa qc yl la lc d L wx))
            case first =>
              rcases (show mm = 3 ∨ mm = 4 by omega) with rfl | rfl
              · go_wp2_with fail
                refine (Ld.crash av nt ct sts HV.out HU.out HST.out.p.p (dl_lim HDL.out).w (HT0.out.keep HST.out.b) HTL.out (fun h0 x e hf => by have := HFT.out h0 x e; have := HST.out.p.p.of _ hf; omega) HST.out.b hs2).mono ?_
                rintro e w6 ⟨rfl, F6, h1, h2, h3⟩
                have HS6 := HST.out.one h1 h2 h3
                have k36 := st7_c3 HS6.out
                have HLP2 := Lib.hid (HLP.out.crash sts)
                clear h1 h2 h3 k0 k1 k2 k3 HST hgl hs2
                go_wp2_with fail
                refine (ref6_crash gr kb kc qc wa d av nt ct sts _ HS6.out.p.q.r HLP.out.v.ok (dl_lim HDL.out).w (HT0.out.keep HS6.out.b) (fun h0 x e => by have := HFT.out h0 x e; have h1 := (HS6.out.p.q.o gr (.inl rfl)).1; have h2 := (HS6.out.p.q.o kb (.inr (.inl rfl))).1; exact ⟨by omega, by omega⟩)).mono ?_
                rintro e w7 ⟨rfl, ho, wa', qc', hr, hwa⟩
                have HS7 := HS6.out.dev2 HV.out HU.out ho hr (wa_old7 hwa)
                clear ho hr hwa HS6 k36
                go_wp2
                go_meet
                exact ⟨_, F6, wa', qc', HLP2.out, HS7.out⟩
              · clear k1 k2 k3
                go_wp2
                go_meet
                exact ⟨d, F, wa, qc, HLP.out, HST.out⟩
            case rest =>
              clear HLP HST k0 k1 k2 k3 hgl hs2 HDL
              obtain ⟨d, F, wa, qc, HLP, HST⟩ := hcut
              have hs2 := HST.out.b.size
              have HDL := Lib.hid (HLP.out.v.dl (by omega) (by omega))
              cases hop : (Lm.open_ d z1).1 with
              | none =>
                obtain ⟨d', hd'⟩ : ∃ d', d' = (Lm.open_ d z1).2.1 := ⟨_, rfl⟩
                obtain ⟨C, hC⟩ : ∃ C, C = (Lm.open_ d z1).2.2 := ⟨_, rfl⟩
                have hc0 : (C == 0) = false := by rw [hC]; simpa using Lm.open_none hop
                have hc1 : (C != 0) = true := by rw [hC]; simpa using Lm.open_none hop
                have hcc : (C != C) = false := by simp
                have HOPE : Hid (Lm.open_ d z1 = (none, d', C)) := by show _ = _; rw [hd', hC, ← hop]
                have HLP2 : Hid (Lm.Plp nn (j + 1) d' L) := by rw [hd']; exact HLP.out.openNo z1
                have HOP := Lib.hid hop; have HD' := Lib.hid hd'; have HC := Lib.hid hC
                clear hop hd' hC
                go_wp2_with fail
                refine (Ld.openNo HV.out HU.out HST.out.p.p HDL.out HZI.out HST.out.b hs2 HOPE.out).mono ?_
                rintro e w6 ⟨rfl, F6, h1, h2, h3⟩
                have HS6 := HST.out.one h1 h2 h3
                clear h1 h2 h3 HST hs2
                go_wp2_with fail
                refine (ref7_open z1 HS6.out.p.q.r HDL.out HLP.out.v.ok (fun x e => (HS6.out.p.q.o x.block (.inr (.inr (.inl ⟨x, e, rfl⟩)))).2) HZI.out).mono ?_
                intro e w7 hR
                obtain ⟨he, wa7, wc7, HS7⟩ := HS6.out.open2No HV.out HU.out hR HOP.out
                subst he
                rw [← HC.out]
                rw [← HD'.out] at HS7
                clear hR HS6
                go_wp2
                go_meet
                exact ⟨0, gl, yl, d', L, F6, G, wa7, la, wc7, lc, rfl, rfl, rfl, rfl, HLP2.out, HS7.out⟩
              | some L' =>
                obtain ⟨d', hd'⟩ : ∃ d', d' = (Lm.open_ d z1).2.1 := ⟨_, rfl⟩
                have HOPE : Hid (Lm.open_ d z1 = (some L', d', 0)) := by show _ = _; rw [hd', ← Lm.open_some hop, ← hop]
                have HLP2 : Hid (Lm.Plp nn (j + 1) d' L') := by rw [hd']; exact HLP.out.openOk z1 hop
                have HOP := Lib.hid hop; have HD' := Lib.hid hd'
                clear hop hd'
                go_wp2_with fail
                refine (Ld.open HV.out HU.out HST.out.p.p HDL.out HZI.out HST.out.b hs2 HOPE.out).mono ?_
                rintro e w6 ⟨gl6, F6, G6, rfl, h1, h2, h3, _⟩
                have HS6 := HST.out.one h1 h2 h3
                clear h1 h2 h3 HST hs2
                go_wp2_with fail
                refine (ref7_open z1 HS6.out.p.q.r HDL.out HLP.out.v.ok (fun x e => (HS6.out.p.q.o x.block (.inr (.inr (.inl ⟨x, e, rfl⟩)))).2) HZI.out).mono ?_
                intro e w7 hR
                obtain ⟨yl7, he, wa7, wc7, la7, lc7, HS7⟩ := HS6.out.open2 HV.out HU.out hR HOP.out
                subst he
                rw [← HD'.out] at HS7
                clear hR HS6
                go_wp2
                go_meet
                exact ⟨0, gl6, yl7, d', L', F6, G6, wa7, la7, wc7, lc7, rfl, rfl, rfl, rfl, HLP2.out, HS7.out⟩
        case rest => as_aux_lemma =>
          clear HLP HST k0 k1 k2 k3 hgl hw1 hw2
          obtain ⟨E, gl, yl, d, L, F, G, wa, la, qc, lc, rfl, rfl, rfl, rfl, HLP, HST⟩ := hcut
          have HRW := Lib.hid (Ow7.rw HST.out.o)
          have HPX := Lib.hid HST.out.p; have HBX := Lib.hid HST.out.b
          have HJ : Hid (j + 1 ≤ tn ∧ j + 1 ≤ 40) := ⟨by omega, by omega⟩
          clear HST q40 qz HBL HNT HX HY0 HBB hnbI e0 e1 e2 e3
          go_upto_region 40 with (fail)
          go_upto_block 3 with (fail)
          go_cut [] (fun wx => Hid (P4 Dev Log w.heap.size g gl d L F G gr kb kc wa qc yl la lc d L wx) ∧ Hid (Below w.heap.size w wx))
          case first => as_aux_lemma =>
            go_wp2_with fail
            go_loopw [219] (fun kv wx => ∃ k : Nat, k ≤ nb ∧ kv = .int .i64 (k : Int) ∧ Hid (P4 Dev Log w.heap.size g gl d L F G gr kb kc wa qc yl la lc d L wx) ∧ Hid (Below w.heap.size w wx) ∧ Hid (Rw7 gB (Pf F G gr kb wa yl la) (.slice a2 nb c2) nb wx)) (fun kv _ => nb - (ixOf kv).toNat)
            case atStart => exact ⟨0, by omega, rfl, HPX.out, HBX.out, HRW.out⟩
            case round =>
              clear HPX HBX HRW
              obtain ⟨k, hk, rfl, HPK, HBK, HRK⟩ := hrel
              have hsk := HBK.out.size
              have hnbm := HRK.out.max
              by_cases hkn : k < nb
              · obtain ⟨go, y, ha2, hnc, hcy, hfy, hly, hBy⟩ := Rw7.cell HRK.out hkn
                subst ha2
                have HR2 : Hid (∀ y, Rw7 gB (Pf F G gr kb wa yl la) (.slice (some ⟨go, 0, none⟩) nb c2) nb (wr.setCell ⟨go, k, none⟩ (.int .u8 y))) := fun y => Rw7.set HRK.out k y
                have HON : Hid (∀ y, Only (fun i => i = go) wr (wr.setCell ⟨go, k, none⟩ (.int .u8 y))) := fun y => only_cell wr go k _
                have HAP := Lib.hid (HRK.out.ap go rfl)
                have HP2 : Hid (∀ y, P4 Dev Log w.heap.size g gl d L F G gr kb kc wa qc yl la lc d L (wr.setCell ⟨go, k, none⟩ (.int .u8 y))) := fun y => HPK.out.keepO HV.out HU.out (HON.out y) (fun i hi e => by subst e; exact HAP.out hi)
                have HB2 : Hid (∀ y, Below w.heap.size w (wr.setCell ⟨go, k, none⟩ (.int .u8 y))) := fun y => HBK.out.trans (only_bel (HON.out y) hsk (fun i hi e => by have := HGO.out; omega))
                clear HPK HBK HRK HON HAP hBy
                go_wp2
                go_roundw
                case rel => exact ⟨k + 1, by omega, by go_num, HP2.out _, HB2.out _, HR2.out _⟩
                case measure => simp [ixOf]; omega
              · have hkk : (nb : Int) ≤ (k : Int) := by omega
                clear HRK hkn hnbm
                go_wp2
                go_meet
                exact ⟨HPK, HBK⟩
          case rest => as_aux_lemma =>
            clear HPX HBX HRW HGO
            obtain ⟨HP, HB⟩ := hcut
            obtain ⟨W1, rfl⟩ : ∃ W1, W1 = wc := ⟨wc, rfl⟩
            have hs1 := HB.out.size
            obtain ⟨FR, hFR⟩ : ∃ FR : Nat, FR = L.frames := ⟨_, rfl⟩
            obtain ⟨AT, hAT⟩ : ∃ AT : Nat, AT = L.at_ := ⟨_, rfl⟩
            obtain ⟨dn, hdn⟩ : ∃ dn, dn = L.down := ⟨_, rfl⟩
            obtain ⟨RM, hRM⟩ : ∃ RM : Int, RM = (if L.down = true then 0 else (L.frames : Int) - (L.at_ : Int)) := ⟨_, rfl⟩
            have c1 : W1.cell? ⟨yl, 1, none⟩ = some (.int .i64 (FR : Int)) := by rw [hFR]; exact HP.out.q.y.c1
            have c7 : W1.cell? ⟨yl, 7, none⟩ = some (.int .i64 (AT : Int)) := by rw [hAT]; exact HP.out.q.y.c7
            have c8 : W1.cell? ⟨yl, 8, none⟩ = some (.bool dn) := by rw [hdn]; exact HP.out.q.y.c8
            have hyl := HP.out.q.y.lt
            have hAF : AT ≤ FR := by rw [hAT, hFR]; exact HLP.out.k.at_
            have hF20 : FR ≤ 20 := by rw [hFR]; have := HLP.out.k.f1; have := HLP.out.v.k; omega
            have HRM : Hid (RM = if dn = true then 0 else (FR : Int) - (AT : Int)) := by show _ = _; rw [hRM, hdn, hFR, hAT]
            have HRML := Lib.hid hRM
            clear hFR hAT hdn hRM
            go_upto_region 45 with (fail)
            go_quiet (fail)
            go_upto_if 241 with (fail)
            go_cut [27] (fun rv wx => rv = .int .i64 RM ∧ wx = W1.drewN nq)
            case first =>
              cases dn with
              | true =>
                go_wp2
                go_meet
                exact ⟨by rw [HRM.out]; rfl, rfl⟩
              | false =>
                go_wp2
                go_meet
                exact ⟨by rw [HRM.out]; rfl, rfl⟩
            case rest =>
              obtain ⟨rfl, rfl⟩ := hcut
              have HP2 := Lib.hid (HP.out.below HV.out HU.out (below_dn7 W1 nq))
              have HB2 := Lib.hid (HB.out.trans ((below_dn7 W1 nq).mono hs1))
              obtain ⟨W2, hW2⟩ : ∃ W2, W2 = W1.drewN nq := ⟨_, rfl⟩
              rw [← hW2] at HP2 HB2 ⊢
              clear hW2 c1 c7 c8 hyl hAF hF20 HRM HP HB hs1
              obtain ⟨N, hN⟩ : ∃ N, N = L.l.length := ⟨_, rfl⟩
              obtain ⟨BS, hBS⟩ : ∃ BS, BS = st L.h.body := ⟨_, rfl⟩
              obtain ⟨EP, hEP⟩ : ∃ EP : Int, EP = (L.h.epoch : Int) := ⟨_, rfl⟩
              obtain ⟨CL, hCL⟩ : ∃ CL, CL = d.calls := ⟨_, rfl⟩
              have HEQ : Hid (N = L.l.length ∧ BS = st L.h.body ∧ EP = (L.h.epoch : Int) ∧ CL = d.calls) := ⟨hN, hBS, hEP, hCL⟩
              have HK20 : Hid (d.kept.length ≤ 200 ∧ L.l.length ≤ 1000 ∧ d.ws.length ≤ 1000) := by
                have h1 := HLP.out.v.k; have h2 := HLP.out.v.w; have h3 := HLP.out.k.l; have h4 := HLP.out.k.at_; have h5 := HLP.out.k.f1
                exact ⟨by omega, by omega, by omega⟩
              have S0 : Hid (Rst Dev Log w g gl d L F G gr kb kc wa qc yl la lc N BS EP CL W2.drew) := Rst.of (HP2.out.below HV.out HU.out (below_drew7 W2)) (HB2.out.trans ((below_drew7 W2).mono HB2.out.size)) hN hBS hEP hCL
              have HBA : Hid (∀ W, Rst Dev Log w g gl d L F G gr kb kc wa qc yl la lc N BS EP CL W → Calls Try.prog 12 #[.pointer (some ⟨gl, 0, none⟩)] W fun e w' => ∃ a n c, e = .returned (.slice a n c) ∧ Hid (Bs W.heap.size a n c L.l w') ∧ Hid (Rst Dev Log w g gl d L F G gr kb kc wa qc yl la lc N BS EP CL w')) := fun W hW => by
                refine (HU.out.batches hW.2.2.2.2.out.1.p.l HLP.out.k HK20.out.1).mono ?_
                rintro e w' ⟨a, n, c, rfl, hbs, hb⟩
                exact ⟨a, n, c, rfl, hbs, hW.below HV.out HU.out hb HEQ.out⟩
              have HSM : Hid (∀ B a n c W, Hid (Bs B a n c L.l W) → Rst Dev Log w g gl d L F G gr kb kc wa qc yl la lc N BS EP CL W → Calls Try.prog 24 #[.slice a n c, .slice la N lc] W fun e w' => e = .returned (.bool true) ∧ Hid (Rst Dev Log w g gl d L F G gr kb kc wa qc yl la lc N BS EP CL w')) := fun B a n c W hbs hW => by
                have hls := hW.2.2.2.2.out.1.q.y.ls
                rw [← hN] at hls
                refine (ref7_same B a n c L.l 0 la N lc L.l W hbs.out (Ss.of_own hls) HK20.out.2.1 HK20.out.2.1).mono ?_
                rintro e w' ⟨rfl, hb⟩
                rw [decide_eq_true rfl]
                exact ⟨rfl, hW.below HV.out HU.out hb HEQ.out⟩
              have HHE : Hid (∀ W, Rst Dev Log w g gl d L F G gr kb kc wa qc yl la lc N BS EP CL W → Calls Try.prog 11 #[.pointer (some ⟨gl, 0, none⟩)] W fun e w' => ∃ a n c, e = .returned (.slice a n c) ∧ (convert 39 9 (.slice a n c)).run Try.prog w' = .ok (.string BS) w' ∧ Hid (Rst Dev Log w g gl d L F G gr kb kc wa qc yl la lc N BS EP CL w')) := fun W hW => by
                refine (HU.out.head hW.2.2.2.2.out.1.p.l HLP.out.k).mono ?_
                rintro e w' ⟨a, n, c, rfl, hyt, hb⟩
                exact ⟨a, n, c, rfl, by rw [hBS]; exact Yt.str hyt.2.1, hW.below HV.out HU.out hb HEQ.out⟩
              have HEPO : Hid (∀ W, Rst Dev Log w g gl d L F G gr kb kc wa qc yl la lc N BS EP CL W → Calls Try.prog 14 #[.pointer (some ⟨gl, 0, none⟩)] W fun e w' => e = .returned (.int .i64 EP) ∧ Hid (Rst Dev Log w g gl d L F G gr kb kc wa qc yl la lc N BS EP CL w')) := fun W hW => by
                refine (HU.out.epoch hW.2.2.2.2.out.1.p.l HLP.out.k).mono ?_
                rintro e w' ⟨rfl, hb⟩
                exact ⟨by rw [hEP], hW.below HV.out HU.out hb HEQ.out⟩
              have HROO : Hid (∀ W, Rst Dev Log w g gl d L F G gr kb kc wa qc yl la lc N BS EP CL W → Calls Try.prog 13 #[.pointer (some ⟨gl, 0, none⟩)] W fun e w' => e = .returned (.int .i64 RM) ∧ Hid (Rst Dev Log w g gl d L F G gr kb kc wa qc yl la lc N BS EP CL w')) := fun W hW => by
                refine (HU.out.room hW.2.2.2.2.out.1.p.l HLP.out.k).mono ?_
                rintro e w' ⟨rfl, hb⟩
                exact ⟨by rw [HRML.out], hW.below HV.out HU.out hb HEQ.out⟩
              have HCAL : Hid (∀ W, Rst Dev Log w g gl d L F G gr kb kc wa qc yl la lc N BS EP CL W → Calls Try.prog 25 #[.pointer (some ⟨g, 0, none⟩)] W fun e w' => e = .returned (.int .i64 CL) ∧ Hid (Rst Dev Log w g gl d L F G gr kb kc wa qc yl la lc N BS EP CL w')) := fun W hW => by
                refine (HV.out.calls hW.2.2.2.2.out.1.p.d).mono ?_
                rintro e w' ⟨rfl, hb⟩
                exact ⟨by rw [hCL], hW.below HV.out HU.out hb HEQ.out⟩
              have hEE : (E != E) = false := by simp
              have hBB : (BS.toList != BS.toList) = false := by simp
              have hBB2 : (BS.toList == BS.toList) = true := by simp
              have hPP : (EP != EP) = false := by simp
              have hRR : (RM != RM) = false := by simp
              have hCC : (CL != CL) = false := by simp
              clear hN hBS hEP hCL HP2 HB2 HEQ HRML
              go_upto_region 48 with (fail)
              go_region_held_law (fun w' => w'.cell? ⟨yl, 6, none⟩ = some (.slice la N lc) ∧ w'.cell? ⟨yl, 5, none⟩ = some (.string BS) ∧ w'.cell? ⟨yl, 3, none⟩ = some (.int .i64 EP) ∧ w'.cell? ⟨gr, 3, none⟩ = some (.int .i64 CL) ∧ Hid (P4 Dev Log w.heap.size g gl d L F G gr kb kc wa qc yl la lc d L w' ∧ Below w.heap.size w w'))
                (first | exact S0.out | exact S5.out | exact S6.out | exact S7.out | exact S8.out | exact S9.out | exact S10.out)
                (first
                | (go_at_call 12; refine (HBA.out _ (by assumption)).mono ?_; rintro e w5 ⟨a5, n5, c5, rfl, HBS5, S5⟩)
                | (go_at_call 24; refine (HSM.out _ _ _ _ _ HBS5 S5.out).mono ?_; rintro e w6 ⟨rfl, S6⟩)
                | (go_at_call 11; refine (HHE.out _ S6.out).mono ?_; rintro e w7 ⟨a7, n7, c7, rfl, hcv7, S7⟩)
                | (go_at_call 14; refine (HEPO.out _ S7.out).mono ?_; rintro e w8 ⟨rfl, S8⟩)
                | (go_at_call 13; refine (HROO.out _ S8.out).mono ?_; rintro e w9 ⟨rfl, S9⟩)
                | (go_at_call 25; refine (HCAL.out _ S9.out).mono ?_; rintro e w10 ⟨rfl, S10⟩))
              all_goals
                have HP3 := Lib.hid S10.out.2.2.2.2.out
                clear S0 S5 S6 S7 S8 S9 S10 HBA HSM HHE HEPO HROO HCAL HBS5 hcv7
                go_wp2_with fail
                go_loopw [292] (fun kv wx => ∃ k : Nat, k ≤ nn ∧ kv = .int .i64 (k : Int) ∧ Hid (P4 Dev Log w.heap.size g gl d L F G gr kb kc wa qc yl la lc d L wx ∧ Below w.heap.size w wx)) (fun kv _ => nn - (ixOf kv).toNat)
                case atStart => exact ⟨0, by omega, rfl, HP3.out⟩
                case round =>
                  clear HP3
                  obtain ⟨k, hk, rfl, HPX⟩ := hrel
                  have hsx := HPX.out.2.size
                  by_cases hkn : k < nn
                  · have hkI : (k : Int) < (nn : Int) := by omega
                    go_wp2_with fail
                    refine (HV.out.read (k : Int) HPX.out.1.p.d HK20.out.2.2).mono ?_
                    rintro e w6 ⟨a6, c6, n6, rfl, hn6, ho6, hb⟩
                    have HP6 : Hid (P4 Dev Log w.heap.size g gl d L F G gr kb kc wa qc yl la lc d L w6 ∧ Below w.heap.size w w6) := ⟨HPX.out.1.below HV.out HU.out hb, HPX.out.2.trans (hb.mono hsx)⟩
                    have hs6 := HP6.out.2.size
                    have HO6 := Lib.hid ho6
                    clear hb HPX hsx ho6 hn6
                    go_wp2_with fail
                    refine (ref6_read gr kb kc qc wa d (k : Int) _ HP6.out.1.q.r HK20.out.2.2).mono ?_
                    rintro e w7 ⟨rfl, hb⟩
                    have HP7 : Hid (P4 Dev Log w.heap.size g gl d L F G gr kb kc wa qc yl la lc d L w7 ∧ Below w.heap.size w w7) := ⟨HP6.out.1.below HV.out HU.out hb, HP6.out.2.trans (hb.mono hs6)⟩
                    have kx := Yt.str ((Yt.of_own HO6.out).keep hb)
                    rw [bstr_st7] at kx
                    obtain ⟨S, hS⟩ : ∃ S, S = st (Sm.read d (k : Int)).1 := ⟨_, rfl⟩
                    obtain ⟨E2, hE2⟩ : ∃ E2, E2 = (Sm.read d (k : Int)).2 := ⟨_, rfl⟩
                    rw [← hS] at kx ⊢
                    rw [← hE2]
                    have hSS : (S.toList == S.toList) = true := by simp
                    have hSN : (S.toList != S.toList) = false := by simp
                    clear hb HP6 hs6 HO6 hS hE2
                    go_wp2
                    go_roundw
                    case rel => exact ⟨k + 1, by omega, by go_num, HP7.out⟩
                    case measure => simp [ixOf]; omega
                  · have hkk : (nn : Int) ≤ (k : Int) := by omega
                    clear hkn hk
                    go_wp2
                    go_roundw
                    case rel => exact ⟨j + 1, gl, yl, d, L, F, G, wa, la, qc, lc, HJ.out.1, by go_num, rfl, rfl, HJ.out.2, HLP.out, HPX.out.1, HPX.out.2⟩
                    case measure => simp [ixOf]; omega
end Go.Proofs.Ytofbignggadkiaa
