/- Package log: Reset. -/
import Derived.Test.YtofbignggadkiaaLogKh
namespace Go.Proofs.Ytofbignggadkiaa
open Go.RowKit

set_option maxHeartbeats 4000000 in
set_option maxRecDepth 100000 in
theorem log_reset {g gl : Nat} {d : Sm.Dv} {L : Lm.Lg} {F G : Nat → Prop} {W : World} (a : Option Addr) (n c : Nat) (b : List UInt8) (hd : DevK g d F W) (hl : LogK gl g L G W) (hap : ∀ k, F k → ¬ G k) (hD : Dl d) (hL : Lok L d) (hN : L.h.n ≤ N62) (hy : Yt (.slice a n c) b W) (hb : (b.length : Int) ≤ 9223372036854775807) (hx : 0 < b.length → ∀ x, a = some x → ¬ F x.block ∧ ¬ G x.block) :
    Calls Try.prog 10 #[.pointer (some ⟨gl, 0, none⟩), .slice a n c] W fun e w' => e = .returned (.int .i64 (Lm.reset L d b).2.2) ∧ DidL DevK LogK g gl F G (Lm.reset L d b).1 (Lm.reset L d b).2.1 W w' := by
  obtain ⟨ha, hc, ba, bc, vs, Y, h, rfl⟩ := hl
  have HSELF : Hid (∀ w', Below W.heap.size W w' → DidL DevK LogK g gl F (Gk gl ba Y) L d W w') := fun w' hb => didl_self hd ⟨ha, hc, ba, bc, vs, Y, h, rfl⟩ hap hb ⟨ha, hc, ba, bc, vs, Y, h.below hb, rfl⟩
  have hnb : n = b.length := by obtain ⟨_, _, e⟩ := hy.form; injection e
  have c8 := h.c8; have c2 := h.c2; have c3 := h.c3; have c4 := h.c4; have c5 := h.c5
  have hgl := h.lt gl (.inl rfl)
  obtain ⟨RA, hRA⟩ : ∃ RA, RA = Lm.reset L d b := ⟨_, rfl⟩
  rw [← hRA]
  have hn0 : (n : Int) ≤ 9223372036854775807 := by omega
  have HNB := Lib.hid hnb
  by_cases hdn : L.down = true
  case pos =>
    have hop : Hid (RA = (L, d, 60)) := by show _ = _; rw [hRA]; unfold Lm.reset; rw [if_pos hdn]
    rw [hdn] at c8
    clear h hd hap hD hL hN hy hb hx hnb hRA hdn c2 c3 c4 c5
    go_enter Try.func10, Try.ntmps10
    go_wp2
    go_ret
    rw [hop.out]
    exact ⟨rfl, HSELF.out _ (Below.refl _ _)⟩
  case neg =>
  replace hdn : L.down = false := by simpa using hdn
  rw [hdn] at c8
  by_cases hbig : (32 : Int) < (n : Int)
  case pos =>
    have hop : Hid (RA = (L, d, 2)) := by show _ = _; rw [hRA]; unfold Lm.reset; rw [hdn, if_neg (by decide), if_pos (by omega)]
    clear h hd hap hD hL hN hy hb hx hnb hRA hdn c2 c3 c4 c5
    go_enter Try.func10, Try.ntmps10
    go_wp2
    go_ret
    rw [hop.out]
    exact ⟨rfl, HSELF.out _ (Below.refl _ _)⟩
  case neg =>
  have hN' : L.h.n ≤ 4611686018427388904 := hN
  have hep := hL.ep; have hba := hL.ba
  obtain ⟨nI, hnI⟩ : ∃ nI : Int, nI = (L.h.n : Int) := ⟨_, rfl⟩
  obtain ⟨eI, heI⟩ : ∃ eI : Int, eI = (L.h.epoch : Int) := ⟨_, rfl⟩
  obtain ⟨bI, hbI⟩ : ∃ bI : Int, bI = (L.h.base : Int) := ⟨_, rfl⟩
  obtain ⟨mI, hmI⟩ : ∃ mI : Nat, mI = L.h.body.length := ⟨_, rfl⟩
  obtain ⟨n1, hn1'⟩ : ∃ n1 : Int, n1 = nI + 1 := ⟨_, rfl⟩
  obtain ⟨e1, he1'⟩ : ∃ e1 : Int, e1 = eI + 1 := ⟨_, rfl⟩
  rw [← hnI] at c2; rw [← heI] at c3; rw [← hbI] at c4; rw [← hmI] at c5
  have HNX : Hid (∀ (w : World), Calls Try.prog 32 #[.agg #[.int .i64 nI, .int .i64 eI, .int .i64 bI, .slice ha mI hc]] w fun e w' => e = .returned (.agg #[.int .i64 n1, .int .i64 e1, .int .i64 bI, .slice ha mI hc]) ∧ Below w.heap.size w w') := fun w => by
    have := log_next nI eI bI ha mI hc w (by omega) (by omega)
    rw [hn1', he1']; exact this
  have hbnd : e1 ≤ 4294967296 := by omega
  have he10 : 0 ≤ e1 := by omega
  by_cases hover : 4294967295 < e1
  case pos =>
    have hop : Hid (RA = (L, d, 70)) := by
      have hx70 : Lm.next (Lm.fresh L b) d = (d, 70) := by unfold Lm.next; rw [if_pos (by show 4294967295 < L.h.epoch + 1; omega)]
      show _ = _; rw [hRA]; unfold Lm.reset; rw [hdn, if_neg (by decide), if_neg (by omega), if_pos ⟨by rw [hx70], by omega⟩]
    clear h hd hap hD hL hN hN' hy hb hx hnb hRA hdn hep hba hnI heI hbI hmI hn1' he1' hbnd he10
    go_enter Try.func10, Try.ntmps10
    go_wp2_with fail
    refine (HNX.out _).mono ?_
    rintro e w1 ⟨rfl, hb1⟩
    have HB1 := Lib.hid hb1
    clear hb1
    go_wp2
    go_ret
    rw [hop.out]
    exact ⟨rfl, HSELF.out _ (HB1.out.alloc HB1.out.size _)⟩
  case neg =>
  have HOPE : Hid ((Lm.next (Lm.fresh L b) d).2 ≠ 0 → RA = ({ L with down := true }, (Lm.next (Lm.fresh L b) d).1, (Lm.next (Lm.fresh L b) d).2)) := fun hne => by
    rw [hRA]; unfold Lm.reset; rw [hdn, if_neg (by decide), if_neg (by omega), if_neg (fun h => by have := h.2; omega), if_pos hne]
  have HOPY : Hid ((Lm.next (Lm.fresh L b) d).2 = 0 → RA = ({ L with h := Lm.fresh L b, l := [], at_ := 0 }, (Lm.next (Lm.fresh L b) d).1, 0)) := fun h0 => by
    rw [hRA]; unfold Lm.reset; rw [hdn, if_neg (by decide), if_neg (by omega), if_neg (fun h => by have := h.2; omega), if_neg (by rw [h0]; exact fun h => h rfl)]
  obtain ⟨PC, hPC⟩ : ∃ PC, PC = (Lm.next (Lm.fresh L b) d).2 := ⟨_, rfl⟩
  obtain ⟨PD, hPD⟩ : ∃ PD, PD = (Lm.next (Lm.fresh L b) d).1 := ⟨_, rfl⟩
  have HWH : Hid (∀ (w : World) (a2 : Option Addr) (c2 : Nat), Below W.heap.size W w → Ytb W.heap.size a2 n c2 b w →
      Calls Try.prog 33 #[.pointer (some ⟨gl, 0, none⟩), .agg #[.int .i64 n1, .int .i64 e1, .int .i64 e1, .slice a2 n c2]] w fun e w' => e = .returned (.int .i64 PC) ∧
        ∃ F', DevK g PD F' w' ∧ Only (fun k => F k ∨ k = gl) w w' ∧ (∀ k, F' k → F k ∨ w.heap.size ≤ k) ∧ (PC = 0 → Lk gl g a2 c2 ba bc vs (Yh Y n a2) { L with h := Lm.fresh L b } w') ∧ (PC ≠ 0 → Lk gl g ha hc ba bc vs Y L w')) := fun w a2 c2 hbw hyt => by
    have h2 := log_writeHead (Lm.fresh L b) a2 n c2 (h.below hbw) (secCon.below hd hbw) hap hD.w hD.c0 hD.c1 hD.l0 hD.l1 (by show L.h.n + 1 ≤ N62 + 1; omega) (by show L.h.epoch + 1 ≤ _; omega) (by show L.h.epoch + 1 ≤ _; omega) (by show b.length ≤ 32; omega) hyt.2.1 (fun h0 x e => by
      have hx2 := hyt.2.2 h0 x e
      exact ⟨hx2.2, fun hk => by have := secCon.lt hd _ hk; omega, by omega, fun y e2 e3 => by have := h.lt y.block (.inr (.inl ⟨y, e2, rfl⟩)); omega⟩)
    unfold hdK at h2
    rw [show ((Lm.fresh L b).n : Int) = n1 by show ((L.h.n + 1 : Nat) : Int) = n1; omega, show ((Lm.fresh L b).epoch : Int) = e1 by show ((L.h.epoch + 1 : Nat) : Int) = e1; omega, show ((Lm.fresh L b).base : Int) = e1 by show ((L.h.epoch + 1 : Nat) : Int) = e1; omega, ← hPC, ← hPD, show (Lm.fresh L b).body.length = n from hnb.symm] at h2
    exact h2
  rw [← hPC, ← hPD] at HOPE HOPY
  have HL := Lib.hid h; have HD := Lib.hid hd; have HAP := Lib.hid hap
  have HCL : Hid (∀ w, Below W.heap.size W w → Calls Try.prog 39 #[.slice a n c] w fun e w' => ∃ a' n' c', e = .returned (.slice a' n' c') ∧ Ytb w.heap.size a' n' c' b w' ∧ Below w.heap.size w w') := fun w hb => log_clone a n c b w (hy.keep hb) (by omega)
  clear h hd hap hD hL hN hN' hy hb hx hnb hRA hdn hep hba hnI heI hbI hmI hn1' he1' hPC hPD
  go_enter Try.func10, Try.ntmps10
  go_wp2_with fail
  refine (HNX.out _).mono ?_
  rintro e w1 ⟨rfl, hb1⟩
  have HB1 := Lib.hid hb1
  clear hb1
  go_upto_region 10 with (fail)
  obtain ⟨p, hp⟩ : ∃ p, p = w1.heap.size := ⟨_, rfl⟩
  obtain ⟨w2, hw2⟩ : ∃ w2, w2 = w1.alloc (.cells #[.int .i64 n1, .int .i64 e1, .int .i64 bI, .slice ha mI hc] 74) := ⟨_, rfl⟩
  have HP2 : Hid (w2.heap[p]? = some (.cells #[.int .i64 n1, .int .i64 e1, .int .i64 bI, .slice ha mI hc] 74 (0, 0))) := by show _ = _; rw [hw2, hp]; exact heap_alloc_new _ _
  have HB2 : Hid (Below W.heap.size W w2) := by rw [hw2]; exact HB1.out.alloc HB1.out.size _
  have HPW : Hid (W.heap.size ≤ p) := by rw [hp]; exact HB1.out.size
  rw [← hw2, ← hp]
  clear hw2 hp HB1 HNX
  have p1 : w2.cell? ⟨p, 1, none⟩ = some (.int .i64 e1) := by rw [Lib.cell_of_heap HP2.out]; rfl
  refine wp_region_noPanic ?_
  refine wp_region_held_drew (S := fun w' => w'.cell? ⟨p, 1, none⟩ = some (.int .i64 e1)) (by kernel_rfl) p1 (fun _ => ?_)
  refine wpAnyH_take (i := 0) (v := ?v1) rfl (by kernel_rfl) (by kernel_rfl) (by kernel_rfl) (fun _ _ _ h => h) (Or.inl ⟨by rfl, ?hy1⟩) p1 ?rest1
  case hy1 => (intro w' hSw; go_simp; with_reducible rfl)
  try simp only [Act.put, List.getElem_toArray, List.getElem_cons_zero, List.setIfInBounds_toArray, List.set_cons_zero, List.set_cons_succ]
  refine wpAnyH_take (i := 1) (v := ?v2) rfl (by kernel_rfl) (by kernel_rfl) (by kernel_rfl) (fun _ _ _ h => h) (Or.inl ⟨by rfl, ?hy2⟩) p1 ?rest2
  case hy2 => (intro w' hSw; go_simp; with_reducible rfl)
  try simp only [Act.put, List.getElem_toArray, List.getElem_cons_succ, List.getElem_cons_zero, List.setIfInBounds_toArray, List.set_cons_zero, List.set_cons_succ]
  refine wpAnyH_take (i := 2) (v := ?v3) rfl (by kernel_rfl) (by kernel_rfl) (by kernel_rfl) (fun _ _ _ h => h) (Or.inl ⟨by rfl, ?hy3⟩) p1 ?rest3
  case hy3 => (intro w' hSw; go_simp; with_reducible rfl)
  try simp only [Act.put, List.getElem_toArray, List.getElem_cons_succ, List.getElem_cons_zero, List.setIfInBounds_toArray, List.set_cons_zero, List.set_cons_succ]
  refine wpAnyH_take (i := 4) (v := ?v4) rfl (by kernel_rfl) (by kernel_rfl) (by kernel_rfl) (fun _ _ _ h => h) (Or.inl ⟨by rfl, ?hy4⟩) p1 ?rest4
  case hy4 => (intro w' hSw; go_simp; with_reducible rfl)
  try simp only [Act.put, List.getElem_toArray, List.getElem_cons_succ, List.getElem_cons_zero, List.setIfInBounds_toArray, List.set_cons_zero, List.set_cons_succ]
  refine wpAnyH_ready (rs := [3]) (by kernel_rfl) (by simp) ?_
  refine AllReadyH.cons rfl (fun K hK => ?_) AllReadyH.nil
  go_simp
  go_wp2_with (go_at_call 39; refine (HCL.out _ (HB2.out.trans ((below_drew0 w2).mono HB2.out.size))).mono ?_; rintro e w3 ⟨a2, n2, cc2, rfl, hyt2, hb3⟩)
  have HB3 : Hid (Below w2.heap.size w2 w3) := (below_drew0 _ : Below w2.heap.size w2 w2.drew).trans hb3
  have hn2 : n2 = n := by rw [hyt2.1, HNB.out]
  subst hn2
  have HYT3 : Hid (Ytb w2.heap.size a2 n2 cc2 b w3) := hyt2
  have HP3 : Hid (w3.heap[p]? = some (.cells #[.int .i64 n1, .int .i64 e1, .int .i64 bI, .slice ha mI hc] 74 (0, 0))) := (HB3.out.block p (heap_lt HP2.out)).trans HP2.out
  have q1 : w3.cell? ⟨p, 1, none⟩ = some (.int .i64 e1) := by rw [Lib.cell_of_heap HP3.out]; rfl
  have q2 : w3.cell? ⟨p, 2, none⟩ = some (.int .i64 bI) := by rw [Lib.cell_of_heap HP3.out]; rfl
  have q3 : w3.cell? ⟨p, 3, none⟩ = some (.slice ha mI hc) := by rw [Lib.cell_of_heap HP3.out]; rfl
  have qf := fun o => Lib.frozen_of_heap HP3.out o
  clear hyt2 hb3
  refine hK.out _ _ q1 (fun _ => ?_)
  clear hK K
  try simp only [Act.put, List.getElem_toArray, List.getElem_cons_succ, List.getElem_cons_zero, List.setIfInBounds_toArray, List.set_cons_zero, List.set_cons_succ]
  refine wpAnyH_ready (rs := [5]) (by kernel_rfl) (by simp) ?_
  refine AllReadyH.cons rfl (fun K hK => ?_) AllReadyH.nil
  go_simp
  have r1 : (w3.setCell ⟨p, 2, none⟩ (.int .i64 e1)).cell? ⟨p, 1, none⟩ = some (.int .i64 e1) := cs_off q1 (by decide)
  have r3 : (w3.setCell ⟨p, 2, none⟩ (.int .i64 e1)).cell? ⟨p, 3, none⟩ = some (.slice ha mI hc) := cs_off q3 (by decide)
  refine hK.out _ _ r1 (fun _ => ?_)
  clear hK K
  try simp only [Act.put, List.getElem_toArray, List.getElem_cons_succ, List.getElem_cons_zero, List.setIfInBounds_toArray, List.set_cons_zero, List.set_cons_succ]
  refine wpAnyH_take (i := 6) (v := ?v5) rfl (by kernel_rfl) (by kernel_rfl) (by kernel_rfl) (fun _ _ _ h => h) (Or.inl ⟨by rfl, ?hy5⟩) r1 ?rest5
  case hy5 => (intro w' hSw; go_simp; with_reducible rfl)
  try simp only [Act.put, List.getElem_toArray, List.getElem_cons_succ, List.getElem_cons_zero, List.setIfInBounds_toArray, List.set_cons_zero, List.set_cons_succ]
  refine wpAnyH_ready (rs := [7]) (by kernel_rfl) (by simp) ?_
  refine AllReadyH.cons rfl (fun K hK => ?_) AllReadyH.nil
  go_simp
  have s1 : ((w3.setCell ⟨p, 2, none⟩ (.int .i64 e1)).setCell ⟨p, 3, none⟩ (.slice a2 n2 cc2)).cell? ⟨p, 1, none⟩ = some (.int .i64 e1) := cs_off r1 (by decide)
  refine hK.out _ _ s1 (fun _ => ?_)
  clear hK K
  try simp only [Act.put, List.getElem_toArray, List.getElem_cons_succ, List.getElem_cons_zero, List.setIfInBounds_toArray, List.set_cons_zero, List.set_cons_succ]
  refine wpAnyH_done (by kernel_rfl) ?_ _
  refine NoPanic.normal ?_
  obtain ⟨w4, hw4⟩ : ∃ w4, w4 = (w3.setCell ⟨p, 2, none⟩ (.int .i64 e1)).setCell ⟨p, 3, none⟩ (.slice a2 n2 cc2) := ⟨_, rfl⟩
  have HO4 : Hid (Only (fun k => k = p) w3 w4) := by rw [hw4]; exact (only_cell _ _ _ _).trans (only_cell _ _ _ _)
  have hp4 : w4.heap[p]? = some (.cells #[.int .i64 n1, .int .i64 e1, .int .i64 e1, .slice a2 n2 cc2] 74 (0, 0)) := by
    rw [hw4, heap_setCell_same _ _ _ _ _ _ (heap_setCell_same _ _ _ _ _ _ HP3.out)]; rfl
  have HB4 : Hid (Below W.heap.size W w4) := HB2.out.trans (only_bel ((only_of HB3.out).mono (q := fun k => W.heap.size ≤ k) (fun k hk e => by have := HB2.out.size; omega) |>.trans (HO4.out.mono (fun k _ e => by subst e; exact HPW.out))) HB2.out.size (fun k hk hp => by omega))
  have HYT4 : Hid (Ytb W.heap.size a2 n2 cc2 b w4) := by
    refine ⟨HYT3.out.1, HYT3.out.2.1.keepO HO4.out (fun h0 x e e2 => by have := HYT3.out.2.2 h0 x e; have := heap_lt HP2.out; omega), fun h0 x e => ?_⟩
    have h1 := HYT3.out.2.2 h0 x e; have h2 := HB2.out.size; have h3 := HO4.out.size
    exact ⟨by omega, by omega⟩
  rw [← hw4]
  have o0 : w4.cell? ⟨p, 0, none⟩ = some (.int .i64 n1) := by rw [Lib.cell_of_heap hp4]; rfl
  have o1 : w4.cell? ⟨p, 1, none⟩ = some (.int .i64 e1) := by rw [Lib.cell_of_heap hp4]; rfl
  have o2 : w4.cell? ⟨p, 2, none⟩ = some (.int .i64 e1) := by rw [Lib.cell_of_heap hp4]; rfl
  have o3 : w4.cell? ⟨p, 3, none⟩ = some (.slice a2 n2 cc2) := by rw [Lib.cell_of_heap hp4]; rfl
  have hp4l := heap_lt hp4
  clear hw4 hp4 q1 q2 q3 qf r1 r3 s1 p1 HP2 HP3 HB2 HB3 HO4 HYT3 HCL c2 c3 c4 c5
  go_wp2_with fail
  refine (HWH.out w4 a2 cc2 HB4.out HYT4.out).mono ?_
  rintro e w5 ⟨rfl, F5, hd5, ho5, hf5, hly, hln⟩
  have HD5 := Lib.hid hd5
  have HF5 : Hid (∀ k, F5 k → F k ∨ W.heap.size ≤ k) := fun k hk => by
    rcases hf5 k hk with h | h
    · exact .inl h
    · have := HB4.out.size; exact .inr (by omega)
  have HO5 : Hid (Only (fun k => F k ∨ Gk gl ba Y k) W w5) := ((only_of HB4.out).mono (q := fun k => F k ∨ Gk gl ba Y k) (fun k hk e => absurd hk (by omega))).trans' ho5 (fun k hk => by
    rcases hk with h | h
    · exact .inl (.inl h)
    · exact .inl (.inr (.inl h)))
  have HAP5 : Hid (∀ k, F5 k → ¬ Gk gl ba Y k) := fun k hk hg => by
    rcases HF5.out k hk with h | h
    · exact HAP.out k h hg
    · have := HL.out.lt k hg; omega
  have HYA : Hid (0 < n2 → ∀ x, a2 = some x → W.heap.size ≤ x.block ∧ ¬ F5 x.block) := fun h0 x e => by
    have hx4 := HYT4.out.2.2 (by rw [← HYT4.out.1]; exact h0) x e
    refine ⟨hx4.1, fun hk => ?_⟩
    rcases hf5 _ hk with h | h
    · have := secCon.lt HD.out _ h; omega
    · omega
  clear hd5 ho5 hf5 o0 o1 o2 o3 hp4l
  by_cases hz : PC = 0
  case neg =>
    have q1 : (PC != 0) = true := by simp [hz]
    have hop := Lib.hid (HOPE.out hz)
    have hl5 := hln hz
    have c8' := hl5.c8; have fz := hl5.fz; have hgl5 := hl5.lt gl (.inl rfl)
    have HL5 := Lib.hid hl5
    clear HOPE HOPY hly hln hl5
    go_wp2
    go_ret
    rw [hop.out]
    have hset := HL5.out.setDown true
    have hoc := only_cell w5 gl 8 (.bool true)
    exact ⟨rfl, F5, Gk gl ba Y, secCon.keep HD5.out hoc (fun k hk e => HAP5.out k hk (.inl e)), ⟨ha, hc, ba, bc, vs, Y, hset, rfl⟩, HO5.out.trans (hoc.mono (fun k _ e => .inr (.inl e))), HF5.out, fun k h => .inl h, HAP5.out⟩
  case pos =>
    have hop := Lib.hid (HOPY.out hz)
    have hl5 := hly hz
    subst hz
    have c6' := hl5.c6; have c7' := hl5.c7; have fz := hl5.fz; have hgl5 := hl5.lt gl (.inl rfl)
    obtain ⟨A7, hA7⟩ : ∃ A7 : Int, A7 = (L.at_ : Int) := ⟨_, rfl⟩
    obtain ⟨N6, hN6⟩ : ∃ N6, N6 = L.l.length := ⟨_, rfl⟩
    replace c6' : w5.cell? ⟨gl, 6, none⟩ = some (.slice ba N6 bc) := by rw [hN6]; exact c6'
    replace c7' : w5.cell? ⟨gl, 7, none⟩ = some (.int .i64 A7) := by rw [hA7]; exact c7'
    have HL5 := Lib.hid hl5
    clear HOPE HOPY hly hln hl5 hA7 hN6
    go_wp2
    go_ret
    rw [hop.out]
    have hset := (HL5.out.setNil).setAt 0
    have hoc := (only_cell w5 gl 6 (.slice none 0 0)).trans (only_cell _ gl 7 (.int .i64 ((0 : Nat) : Int)))
    refine ⟨rfl, F5, _, secCon.keep HD5.out hoc (fun k hk e => HAP5.out k hk (.inl e)), ⟨a2, cc2, none, 0, [], _, hset, rfl⟩, HO5.out.trans (hoc.mono (fun k _ e => .inr (.inl e))), HF5.out, fun k hk => ?_, fun k hk hg => ?_⟩
    · rcases hk with hk | ⟨x, e, _⟩ | hk | ⟨h0, x, e, hk⟩
      · exact .inl (.inl hk)
      · cases e
      · exact .inl (.inr (.inr hk))
      · exact .inr (hk ▸ (HYA.out h0 x e).1)
    · rcases hg with hg | ⟨x, e, _⟩ | hg | ⟨h0, x, e, hg⟩
      · exact HAP5.out k hk (.inl hg)
      · cases e
      · exact HAP5.out k hk (.inr (.inr hg))
      · exact (HYA.out h0 x e).2 (hg ▸ hk)
end Go.Proofs.Ytofbignggadkiaa
