/- Package log: Append. -/
import Derived.Test.YtofbignggadkiaaLogKg
namespace Go.Proofs.Ytofbignggadkiaa
open Go.RowKit

theorem didl_self {g gl : Nat} {F G : Nat → Prop} {L : Lm.Lg} {d : Sm.Dv} {W w' : World} (hd : DevK g d F W) (_hl : LogK gl g L G W) (hap : ∀ k, F k → ¬ G k) (hb : Below W.heap.size W w') (hk : LogK gl g L G w') : DidL DevK LogK g gl F G L d W w' :=
  ⟨F, G, secCon.below hd hb, hk, (only_of hb).mono (fun k hk e => absurd hk (by omega)), fun k h => .inl h, fun k h => .inl h, hap⟩
set_option maxHeartbeats 4000000 in
set_option maxRecDepth 100000 in
theorem log_append {g gl : Nat} {d : Sm.Dv} {L : Lm.Lg} {F G : Nat → Prop} {W : World} (a : Option Addr) (n c : Nat) (b : List UInt8) (hd : DevK g d F W) (hl : LogK gl g L G W) (hap : ∀ k, F k → ¬ G k) (hD : Dl d) (hL : Lok L d) (hy : Yt (.slice a n c) b W) (hb : (b.length : Int) ≤ 9223372036854775807) (hx : 0 < b.length → ∀ x, a = some x → ¬ F x.block ∧ ¬ G x.block) :
    Calls Try.prog 9 #[.pointer (some ⟨gl, 0, none⟩), .slice a n c] W fun e w' => e = .returned (.int .i64 (Lm.append L d b).2.2) ∧ DidL DevK LogK g gl F G (Lm.append L d b).1 (Lm.append L d b).2.1 W w' := by
  obtain ⟨ha, hc, ba, bc, vs, Y, h, rfl⟩ := hl
  have HSELF : Hid (∀ w', Below W.heap.size W w' → DidL DevK LogK g gl F (Gk gl ba Y) L d W w') := fun w' hb => didl_self hd ⟨ha, hc, ba, bc, vs, Y, h, rfl⟩ hap hb ⟨ha, hc, ba, bc, vs, Y, h.below hb, rfl⟩
  have hnb : n = b.length := by obtain ⟨_, _, e⟩ := hy.form; injection e
  have c8 := h.c8; have c7 := h.c7; have c6 := h.c6
  have hgl := h.lt gl (.inl rfl)
  obtain ⟨RA, hRA⟩ : ∃ RA, RA = Lm.append L d b := ⟨_, rfl⟩
  rw [← hRA]
  have hn0 : (n : Int) ≤ 9223372036854775807 := by omega
  have HNB := Lib.hid hnb
  by_cases hdn : L.down = true
  case pos =>
    have hop : Hid (RA = (L, d, 60)) := by show _ = _; rw [hRA]; unfold Lm.append; rw [if_pos hdn]
    rw [hdn] at c8
    clear h hd hap hD hL hy hb hx hnb hRA hdn c6 c7
    go_enter Try.func9, Try.ntmps9
    go_wp2
    go_ret
    rw [hop.out]
    exact ⟨rfl, HSELF.out _ (Below.refl _ _)⟩
  case neg =>
  replace hdn : L.down = false := by simpa using hdn
  rw [hdn] at c8
  by_cases hbig : (65536 : Int) < (n : Int)
  case pos =>
    have hop : Hid (RA = (L, d, 2)) := by show _ = _; rw [hRA]; unfold Lm.append; rw [hdn, if_neg (by decide), if_pos (by omega)]
    clear h hd hap hD hL hy hb hx hnb hRA hdn c6 c7
    go_enter Try.func9, Try.ntmps9
    go_wp2
    go_ret
    rw [hop.out]
    exact ⟨rfl, HSELF.out _ (Below.refl _ _)⟩
  case neg =>
  have hple := Lm.parts_len b
  rw [← hnb] at hple
  obtain ⟨q, hq⟩ : ∃ q, q = (Lm.parts b).length := ⟨_, rfl⟩
  have HFO : Hid (∀ w, Calls Try.prog 37 #[.slice a n c] w fun e w' => e = .returned (.int .i64 (q : Int)) ∧ w = w') := fun w => by
    have := log_framesOf a n c w (by omega)
    rw [← hple, ← hq] at this; exact this
  obtain ⟨R, hR⟩ : ∃ R : Int, R = (L.frames : Int) - (L.at_ : Int) := ⟨_, rfl⟩
  have hf1 := hL.f1; have hat := hL.at_; have hk200 := hD.k
  have HRO : Hid (Calls Try.prog 13 #[.pointer (some ⟨gl, 0, none⟩)] W fun e w' => e = .returned (.int .i64 R) ∧ ∃ k, w' = W.drewN k) := by
    have := log_room h (by omega) (by omega)
    rw [hdn, if_neg (by decide), ← hR] at this; exact this
  by_cases hroom : R < (q : Int)
  case pos =>
    have hop : Hid (RA = (L, d, 70)) := by show _ = _; rw [hRA]; unfold Lm.append; rw [hdn, if_neg (by decide), if_neg (by omega), if_pos (by omega)]
    clear h hd hap hD hL hy hb hx hnb hRA hdn c6 c7 hf1 hat hk200 hple hq hR
    go_enter Try.func9, Try.ntmps9
    go_wp2_with fail
    refine (HFO.out _).mono ?_
    rintro e w1 ⟨rfl, rfl⟩
    go_wp2_with fail
    refine HRO.out.mono ?_
    rintro e w1 ⟨rfl, k, rfl⟩
    go_wp2
    go_ret
    rw [hop.out]
    exact ⟨rfl, HSELF.out _ (below_drewN _ _)⟩
  case neg =>
  have hqr : L.at_ + q ≤ L.frames := by omega
  obtain ⟨PD, hPD⟩ : ∃ PD, PD = (Lm.putF L.h.epoch (Lm.parts b) L.at_ d).1 := ⟨_, rfl⟩
  obtain ⟨PC, hPC⟩ : ∃ PC, PC = (Lm.putF L.h.epoch (Lm.parts b) L.at_ d).2 := ⟨_, rfl⟩
  have hap0 : ¬ F gl := fun hk => hap gl hk (.inl rfl)
  have HWB : Hid (∀ k, Calls Try.prog 38 #[.pointer (some ⟨gl, 0, none⟩), .slice a n c] (W.drewN k) fun e w' => e = .returned (.int .i64 PC) ∧ Did DevK g F PD (W.drewN k) w') := fun k => by
    have hbk : Below W.heap.size W (W.drewN k) := below_drewN _ _
    have := log_writeBatch a n c b (h.below hbk) (secCon.below hd hbk) hap0 hD hL (hy.keep hbk) (by omega) (fun h0 x e => (hx h0 x e).1) (by rw [← hq]; exact hqr)
    rw [← hPD, ← hPC] at this; exact this
  have HOPN : Hid (PC ≠ 0 → RA = ({ L with down := true }, PD, PC)) := fun hne => by
    rw [hRA]; unfold Lm.append; rw [hdn, if_neg (by decide), if_neg (by omega), if_neg (by omega), ← hPC, if_pos hne, ← hPD]
  have HOPY : Hid (PC = 0 → RA = ({ L with at_ := L.at_ + q, l := L.l ++ [b] }, PD, 0)) := fun h0 => by
    rw [hRA]; unfold Lm.append; rw [hdn, if_neg (by decide), if_neg (by omega), if_neg (by omega), ← hPC, if_neg (by rw [h0]; exact fun h => h rfl), ← hPD, ← hq]
  have HL := Lib.hid h; have HD := Lib.hid hd; have HAP := Lib.hid hap; have HY := Lib.hid hy; have HX := Lib.hid hx
  have hll := hL.l
  obtain ⟨at_, hate⟩ : ∃ at_ : Int, at_ = (L.at_ : Int) := ⟨_, rfl⟩
  have HATE := Lib.hid hate
  obtain ⟨ll, hlle⟩ : ∃ ll, ll = L.l.length := ⟨_, rfl⟩
  have HLLE := Lib.hid hlle
  have hll2 : ll ≤ 200 := by omega
  have hq2 : (q : Int) ≤ 200 := by omega
  have hat2 : 0 ≤ at_ ∧ at_ ≤ 200 := by omega
  have HNB2 := Lib.hid (show n ≤ 65536 by omega)
  clear h hd hap hD hL hy hb hx hnb hRA hdn c6 c7 hf1 hat hk200 hple hq hR hqr hPD hPC hap0 hll hate hlle
  go_enter Try.func9, Try.ntmps9
  go_wp2_with fail
  refine (HFO.out _).mono ?_
  rintro e w1 ⟨rfl, rfl⟩
  go_wp2_with fail
  refine HRO.out.mono ?_
  rintro e w1 ⟨rfl, kk, rfl⟩
  go_wp2_with fail
  refine (HWB.out kk).mono ?_
  rintro e w1 ⟨rfl, F1, hd1, ho1, hf1⟩
  have HD1 := Lib.hid hd1
  have HO1 : Hid (Only F W w1) := ⟨ho1.os, ho1.tape, ho1.output, ho1.size, ho1.block⟩
  have HF1 : Hid (∀ k, F1 k → F k ∨ W.heap.size ≤ k) := hf1
  have HL1 : Hid (Lk gl g ha hc ba bc vs Y L w1) := HL.out.keepO HO1.out (fun k hk hp => HAP.out k hp hk)
  have HAP1 : Hid (∀ k, F1 k → ¬ Gk gl ba Y k) := fun k hk hg => by
    rcases HF1.out k hk with h | h
    · exact HAP.out k h hg
    · have := HL.out.lt k hg; omega
  have c8 := HL1.out.c8; have fz := HL1.out.fz
  have hgl1 := HL1.out.lt gl (.inl rfl)
  clear hd1 ho1 hf1 HWB HRO hgl
  by_cases hz : PC = 0
  case neg =>
    have q1 : (PC != 0) = true := by simp [hz]
    have hop := Lib.hid (HOPN.out hz)
    clear HOPN HOPY
    go_wp2
    go_ret
    rw [hop.out]
    have hset := HL1.out.setDown true
    have hoc := only_cell w1 gl 8 (.bool true)
    exact ⟨rfl, F1, Gk gl ba Y, secCon.keep HD1.out hoc (fun k hk e => HAP1.out k hk (.inl e)), ⟨ha, hc, ba, bc, vs, Y, hset, rfl⟩, (HO1.out.mono (fun k _ e => .inl e)).trans (hoc.mono (fun k _ e => .inr (.inl e))), HF1.out, fun k h => .inl h, HAP1.out⟩
  case pos =>
    have hop := Lib.hid (HOPY.out hz)
    subst hz
    clear HOPN HOPY
    have c6 := HL1.out.c6
    rw [← HLLE.out] at c6
    have HY1 : Hid (Yt (.slice a n c) b w1) := HY.out.keepO HO1.out (fun h0 x e => (HX.out h0 x e).1)
    have HCL : Hid (∀ w, Below w1.heap.size w1 w → Calls Try.prog 39 #[.slice a n c] w fun e w' => ∃ a' n' c', e = .returned (.slice a' n' c') ∧ Ytb w.heap.size a' n' c' b w' ∧ Below w.heap.size w w') := fun w hb => log_clone a n c b w (HY1.out.keep hb) (by have := HNB.out; have := HNB2.out; omega)
    have HC6 := Lib.hid c6
    clear c8
    go_upto_region 13 with (fail)
    go_cut [] (fun wx => Hid (∃ a2 c2 ba2 bc2, Lk gl g ha hc ba2 bc2 (vs ++ [.slice a2 n c2]) (Yh Y n a2) { L with l := L.l ++ [b] } wx ∧ Only (fun k => k = gl ∨ ∃ x, ba = some x ∧ x.block = k) w1 wx ∧ (∀ x, ba2 = some x → (∃ y, ba = some y ∧ y.block = x.block) ∨ w1.heap.size ≤ x.block) ∧ (0 < n → ∀ x, a2 = some x → w1.heap.size ≤ x.block)))
    case first =>
      refine wp_region_noPanic ?_
      refine wp_region_held_drew (S := fun _ => True) (by kernel_rfl) trivial (fun _ => ?_)
      refine wpAnyH_take (i := 0) (v := ?v1) rfl (by kernel_rfl) (by kernel_rfl) (by kernel_rfl) (fun _ _ _ h => h) (Or.inl ⟨by rfl, ?hy1⟩) trivial ?rest1
      case hy1 => (intro w' hSw; go_simp; with_reducible rfl)
      try simp only [Act.put, List.getElem_toArray, List.getElem_cons_zero, List.setIfInBounds_toArray, List.set_cons_zero, List.set_cons_succ]
      refine wpAnyH_take (i := 1) (v := ?v2) rfl (by kernel_rfl) (by kernel_rfl) (by kernel_rfl) (fun _ _ _ h => h) (Or.inl ⟨by rfl, ?hy2⟩) trivial ?rest2
      case hy2 => (intro w' hSw; go_simp; with_reducible rfl)
      try simp only [Act.put, List.getElem_toArray, List.getElem_cons_succ, List.getElem_cons_zero, List.setIfInBounds_toArray, List.set_cons_zero, List.set_cons_succ]
      refine wpAnyH_take (i := 2) (v := ?v3) rfl (by kernel_rfl) (by kernel_rfl) (by kernel_rfl) (fun _ _ _ h => h) (Or.inl ⟨by rfl, ?hy3⟩) trivial ?rest3
      case hy3 => (intro w' hSw; go_simp; with_reducible rfl)
      try simp only [Act.put, List.getElem_toArray, List.getElem_cons_succ, List.getElem_cons_zero, List.setIfInBounds_toArray, List.set_cons_zero, List.set_cons_succ]
      refine wpAnyH_take (i := 3) (v := ?v4) rfl (by kernel_rfl) (by kernel_rfl) (by kernel_rfl) (fun _ _ _ h => h) (Or.inl ⟨by rfl, ?hy4⟩) trivial ?rest4
      case hy4 => (intro w' hSw; go_simp; with_reducible rfl)
      try simp only [Act.put, List.getElem_toArray, List.getElem_cons_succ, List.getElem_cons_zero, List.setIfInBounds_toArray, List.set_cons_zero, List.set_cons_succ]
      refine wpAnyH_take (i := 5) (v := ?v5) rfl (by kernel_rfl) (by kernel_rfl) (by kernel_rfl) (fun _ _ _ h => h) (Or.inl ⟨by rfl, ?hy5⟩) trivial ?rest5
      case hy5 => (intro w' hSw; go_simp; with_reducible rfl)
      try simp only [Act.put, List.getElem_toArray, List.getElem_cons_succ, List.getElem_cons_zero, List.setIfInBounds_toArray, List.set_cons_zero, List.set_cons_succ]
      refine wpAnyH_ready (rs := [4, 6]) (by kernel_rfl) (by simp) ?_
      refine AllReadyH.cons rfl (fun K hK => ?_) ?_
      · skip
        go_simp
        refine hK.out _ _ trivial (fun _ => ?_)
        clear hK K
        try simp only [Act.put, List.getElem_toArray, List.getElem_cons_succ, List.getElem_cons_zero, List.setIfInBounds_toArray, List.set_cons_zero, List.set_cons_succ]
        refine wpAnyH_ready (rs := [6]) (by kernel_rfl) (by simp) ?_
        refine AllReadyH.cons rfl (fun K hK => ?_) AllReadyH.nil
        go_simp
        go_wp2_with (go_at_call 39; refine (HCL.out _ (below_drew0 _)).mono ?_; rintro e w2 ⟨a2, n2, c2, rfl, hyt2, hb2⟩)
        have HB2 : Hid (Below w1.heap.size w1 w2) := (below_drew0 _ : Below w1.heap.size w1 w1.drew).trans hb2
        have HYT2 : Hid (Ytb w1.heap.size a2 n2 c2 b w2) := hyt2
        have hn2 : n2 = n := by rw [HYT2.out.1, HNB.out]
        subst hn2
        have d6 : w2.cell? ⟨gl, 6, none⟩ = some (.slice ba ll bc) := (HB2.out.cell (p := ⟨gl, 6, none⟩) hgl1).trans c6
        clear hyt2 hb2
        refine hK.out _ _ trivial (fun _ => ?_)
        clear hK K
        try simp only [Act.put, List.getElem_toArray, List.getElem_cons_succ, List.getElem_cons_zero, List.setIfInBounds_toArray, List.set_cons_zero, List.set_cons_succ]
        refine wpAnyH_ready (rs := [7]) (by kernel_rfl) (by simp) ?_
        refine AllReadyH.cons rfl (fun K hK => ?_) AllReadyH.nil
        have hrb : ∀ w, (Instr.buildSlice 41 1 #[(0, .slice a2 n2 c2)]).run Try.prog w = .ok (.slice (some ⟨w.heap.size, 0, none⟩) 1 1) (w.alloc (.cells #[.slice a2 n2 c2] 39)) := fun w => run_rowB a2 n2 c2 w
        go_simp
        have HL3 : Hid (Lk gl g ha hc ba bc vs Y L (w2.alloc (.cells #[.slice a2 n2 c2] 39))) := HL1.out.below (HB2.out.alloc HB2.out.size _)
        have d7 : (w2.alloc (.cells #[.slice a2 n2 c2] 39)).cell? ⟨gl, 6, none⟩ = some (.slice ba ll bc) := ((one_k w2 (.cells #[.slice a2 n2 c2] 39)).cell (p := ⟨gl, 6, none⟩) (by show gl < _; have := HB2.out.size; omega)).trans d6
        have HSRC : Hid (Src Try.prog 1 41 (.slice (some ⟨w2.heap.size, 0, none⟩) 1 1) 1 [.slice a2 n2 c2] (w2.alloc (.cells #[.slice a2 n2 c2] 39))) := by
          refine Src.ofSlice _ Try.underlying41 ⟨w2.heap.size, 0, none⟩ 1 1 _ rfl (fun j u hj => ?_) (fun u hu => by rw [List.mem_singleton.1 hu]; rfl)
          rw [addr_add, Nat.zero_add, Lib.cell_of_heap (heap_alloc_new w2 _)]
          simpa using hj
        have HB3 : Hid (Below w1.heap.size w1 (w2.alloc (.cells #[.slice a2 n2 c2] 39))) := HB2.out.alloc HB2.out.size _
        have HYT3 : Hid (Yt (.slice a2 n2 c2) b (w2.alloc (.cells #[.slice a2 n2 c2] 39))) := HYT2.out.2.1.keep (one_k _ _)
        have HX3 : Hid (0 < b.length → ∀ x, a2 = some x → w1.heap.size ≤ x.block ∧ x.block < w2.heap.size) := HYT2.out.2.2
        obtain ⟨w3, hw3⟩ : ∃ w3, w3 = w2.alloc (.cells #[.slice a2 n2 c2] 39) := ⟨_, rfl⟩
        have hsz3 : w3.heap.size = w2.heap.size + 1 := by rw [hw3]; simp
        have HSZ3 := Lib.hid hsz3
        rw [← hw3] at HL3 d7 HSRC HB3 HYT3 ⊢
        clear hrb hw3 hsz3 d6 HB2 HYT2
        refine hK.out _ _ trivial (fun _ => ?_)
        clear hK K
        try simp only [Act.put, List.getElem_toArray, List.getElem_cons_succ, List.getElem_cons_zero, List.setIfInBounds_toArray, List.set_cons_zero, List.set_cons_succ]
        refine wpAnyH_ready (rs := [8]) (by kernel_rfl) (by simp) ?_
        refine AllReadyH.cons rfl (fun K hK => ?_) AllReadyH.nil
        obtain ⟨j0, hj0, hy0, hy1, hy2⟩ := info_parts info39k
        refine step_append_src _ rfl (.tmp 33) (.tmp 36) 41 41 rfl 0 39 j0 (.slice none 0 0) 1 24 Try.underlying41 hj0 hy0 hy1 hy2 rfl (.slice ba ll bc) ll vs rfl (by rw [HLLE.out]; exact HL3.out.bo) _ 1 [.slice a2 n2 c2] rfl HSRC.out (by unfold maxLen; omega) (by omega) (Nat.zero_le _) ?_
        intro v4 w4 hown hgrow hv
        have hx3 : 0 < b.length → ∀ x, a2 = some x → x.block < w3.heap.size ∧ x.block ≠ gl ∧ ∀ y, ba = some y → y.block ≠ x.block := fun h0 x e => by
          have := HX3.out h0 x e
          have hs := HSZ3.out
          exact ⟨by omega, by omega, fun y e2 e3 => by have := HL1.out.lt y.block (.inr (.inl ⟨y, e2, rfl⟩)); omega⟩
        have hpush := HL3.out.push a2 c2 b (by rw [← HNB.out]; exact HYT3.out) hx3 (v' := v4) (w1 := w4) (by rw [← HLLE.out, ← HNB.out]; exact hown) (by rw [← HLLE.out]; exact hgrow) (by rw [← HLLE.out]; exact hv)
        rw [← HLLE.out, ← HNB.out] at hpush
        obtain ⟨ba2, bc2, rfl, hL4, hba2⟩ := hpush
        have hO4 : Only (fun k => ∃ x, ba = some x ∧ x.block = k) w3 w4 := (Only.refl _ w3).grown hgrow (fun k e => by
          cases ba with
          | none => cases e
          | some x => injection e with e; exact .inl ⟨x, rfl, e⟩)
        have hgl3 : gl < w3.heap.size := HL3.out.lt gl (.inl rfl)
        have hgn : ¬ ∃ x, ba = some x ∧ x.block = gl := fun ⟨x, e1, e2⟩ => (HL1.out.yb x e1).1 e2
        have e6 : w4.cell? ⟨gl, 6, none⟩ = some (.slice ba ll bc) := (cell_only hO4 (q := ⟨gl, 6, none⟩) hgl3 hgn).trans d7
        have gf : ∀ o, w4.frozen? ⟨gl, o, none⟩ = false := fun o => by
          rw [show w4.frozen? ⟨gl, o, none⟩ = w3.frozen? ⟨gl, o, none⟩ by simp [World.frozen?, hO4.block gl hgl3 hgn]]; exact HL3.out.fz o
        have HL4 := Lib.hid hL4; have HBA2 := Lib.hid hba2; have HO4 := Lib.hid hO4
        clear hj0 hy0 hy1 hy2 hown hgrow hv hx3 hL4 hba2 hO4 hgn d7 HSRC
        refine hK.out _ _ trivial (fun _ => ?_)
        clear hK K
        try simp only [Act.put, List.getElem_toArray, List.getElem_cons_succ, List.getElem_cons_zero, List.setIfInBounds_toArray, List.set_cons_zero, List.set_cons_succ]
        refine wpAnyH_take (i := 9) (v := ?v6) rfl (by kernel_rfl) (by kernel_rfl) (by kernel_rfl) (fun _ _ _ h => h) (Or.inl ⟨by rfl, ?hy6⟩) trivial ?rest6
        case hy6 => (intro w' hSw; go_simp; with_reducible rfl)
        try simp only [Act.put, List.getElem_toArray, List.getElem_cons_succ, List.getElem_cons_zero, List.setIfInBounds_toArray, List.set_cons_zero, List.set_cons_succ]
        refine wpAnyH_take (i := 10) (v := ?v7) rfl (by kernel_rfl) (by kernel_rfl) (by kernel_rfl) (fun _ _ _ h => h) (Or.inl ⟨by rfl, ?hy7⟩) trivial ?rest7
        case hy7 => (intro w' hSw; go_simp; with_reducible rfl)
        try simp only [Act.put, List.getElem_toArray, List.getElem_cons_succ, List.getElem_cons_zero, List.setIfInBounds_toArray, List.set_cons_zero, List.set_cons_succ]
        refine wpAnyH_ready (rs := [11]) (by kernel_rfl) (by simp) ?_
        refine AllReadyH.cons rfl (fun K hK => ?_) AllReadyH.nil
        go_simp
        refine hK.out _ _ trivial (fun _ => ?_)
        clear hK K
        try simp only [Act.put, List.getElem_toArray, List.getElem_cons_succ, List.getElem_cons_zero, List.setIfInBounds_toArray, List.set_cons_zero, List.set_cons_succ]
        refine wpAnyH_done (by kernel_rfl) ?_ _
        refine NoPanic.normal ?_
        have HEND : Hid (∃ a9 c9 ba9 bc9, Lk gl g ha hc ba9 bc9 (vs ++ [.slice a9 n2 c9]) (Yh Y n2 a9) { L with l := L.l ++ [b] } (w4.setCell ⟨gl, 6, none⟩ (.slice ba2 (ll + 1) bc2)) ∧ Only (fun k => k = gl ∨ ∃ x, ba = some x ∧ x.block = k) w1 (w4.setCell ⟨gl, 6, none⟩ (.slice ba2 (ll + 1) bc2)) ∧ (∀ x, ba9 = some x → (∃ y, ba = some y ∧ y.block = x.block) ∨ w1.heap.size ≤ x.block) ∧ (0 < n2 → ∀ x, a9 = some x → w1.heap.size ≤ x.block)) := by
          refine ⟨a2, c2, ba2, bc2, HL4.out, ?_, fun x e => ?_, fun h0 x e => (HX3.out (by rw [← HNB.out]; exact h0) x e).1⟩
          · exact (((only_of HB3.out).mono (q := fun k => k = gl ∨ ∃ x, ba = some x ∧ x.block = k) (fun k hk e => absurd hk (by omega))).trans (HO4.out.mono (fun k _ e => .inr e))).setCell (q := ⟨gl, 6, none⟩) (.inl (.inl rfl)) _
          · rcases HBA2.out x e with h | h
            · exact .inl h
            · exact .inr (by rw [h]; exact HB3.out.size)
        go_wp2
        go_meet
        exact HEND
      refine AllReadyH.cons rfl (fun K hK => ?_) AllReadyH.nil
      go_simp
      go_wp2_with (go_at_call 39; refine (HCL.out _ (below_drew0 _)).mono ?_; rintro e w2 ⟨a2, n2, c2, rfl, hyt2, hb2⟩)
      have HB2 : Hid (Below w1.heap.size w1 w2) := (below_drew0 _ : Below w1.heap.size w1 w1.drew).trans hb2
      have HYT2 : Hid (Ytb w1.heap.size a2 n2 c2 b w2) := hyt2
      have hn2 : n2 = n := by rw [HYT2.out.1, HNB.out]
      subst hn2
      have d6 : w2.cell? ⟨gl, 6, none⟩ = some (.slice ba ll bc) := (HB2.out.cell (p := ⟨gl, 6, none⟩) hgl1).trans c6
      clear hyt2 hb2
      refine hK.out _ _ trivial (fun _ => ?_)
      clear hK K
      try simp only [Act.put, List.getElem_toArray, List.getElem_cons_succ, List.getElem_cons_zero, List.setIfInBounds_toArray, List.set_cons_zero, List.set_cons_succ]
      refine wpAnyH_ready (rs := [4, 7]) (by kernel_rfl) (by simp) ?_
      refine AllReadyH.cons rfl (fun K hK => ?_) ?_
      · skip
        go_simp
        refine hK.out _ _ trivial (fun _ => ?_)
        clear hK K
        try simp only [Act.put, List.getElem_toArray, List.getElem_cons_succ, List.getElem_cons_zero, List.setIfInBounds_toArray, List.set_cons_zero, List.set_cons_succ]
        refine wpAnyH_ready (rs := [7]) (by kernel_rfl) (by simp) ?_
        refine AllReadyH.cons rfl (fun K hK => ?_) AllReadyH.nil
        have hrb : ∀ w, (Instr.buildSlice 41 1 #[(0, .slice a2 n2 c2)]).run Try.prog w = .ok (.slice (some ⟨w.heap.size, 0, none⟩) 1 1) (w.alloc (.cells #[.slice a2 n2 c2] 39)) := fun w => run_rowB a2 n2 c2 w
        go_simp
        have HL3 : Hid (Lk gl g ha hc ba bc vs Y L (w2.alloc (.cells #[.slice a2 n2 c2] 39))) := HL1.out.below (HB2.out.alloc HB2.out.size _)
        have d7 : (w2.alloc (.cells #[.slice a2 n2 c2] 39)).cell? ⟨gl, 6, none⟩ = some (.slice ba ll bc) := ((one_k w2 (.cells #[.slice a2 n2 c2] 39)).cell (p := ⟨gl, 6, none⟩) (by show gl < _; have := HB2.out.size; omega)).trans d6
        have HSRC : Hid (Src Try.prog 1 41 (.slice (some ⟨w2.heap.size, 0, none⟩) 1 1) 1 [.slice a2 n2 c2] (w2.alloc (.cells #[.slice a2 n2 c2] 39))) := by
          refine Src.ofSlice _ Try.underlying41 ⟨w2.heap.size, 0, none⟩ 1 1 _ rfl (fun j u hj => ?_) (fun u hu => by rw [List.mem_singleton.1 hu]; rfl)
          rw [addr_add, Nat.zero_add, Lib.cell_of_heap (heap_alloc_new w2 _)]
          simpa using hj
        have HB3 : Hid (Below w1.heap.size w1 (w2.alloc (.cells #[.slice a2 n2 c2] 39))) := HB2.out.alloc HB2.out.size _
        have HYT3 : Hid (Yt (.slice a2 n2 c2) b (w2.alloc (.cells #[.slice a2 n2 c2] 39))) := HYT2.out.2.1.keep (one_k _ _)
        have HX3 : Hid (0 < b.length → ∀ x, a2 = some x → w1.heap.size ≤ x.block ∧ x.block < w2.heap.size) := HYT2.out.2.2
        obtain ⟨w3, hw3⟩ : ∃ w3, w3 = w2.alloc (.cells #[.slice a2 n2 c2] 39) := ⟨_, rfl⟩
        have hsz3 : w3.heap.size = w2.heap.size + 1 := by rw [hw3]; simp
        have HSZ3 := Lib.hid hsz3
        rw [← hw3] at HL3 d7 HSRC HB3 HYT3 ⊢
        clear hrb hw3 hsz3 d6 HB2 HYT2
        refine hK.out _ _ trivial (fun _ => ?_)
        clear hK K
        try simp only [Act.put, List.getElem_toArray, List.getElem_cons_succ, List.getElem_cons_zero, List.setIfInBounds_toArray, List.set_cons_zero, List.set_cons_succ]
        refine wpAnyH_ready (rs := [8]) (by kernel_rfl) (by simp) ?_
        refine AllReadyH.cons rfl (fun K hK => ?_) AllReadyH.nil
        obtain ⟨j0, hj0, hy0, hy1, hy2⟩ := info_parts info39k
        refine step_append_src _ rfl (.tmp 33) (.tmp 36) 41 41 rfl 0 39 j0 (.slice none 0 0) 1 24 Try.underlying41 hj0 hy0 hy1 hy2 rfl (.slice ba ll bc) ll vs rfl (by rw [HLLE.out]; exact HL3.out.bo) _ 1 [.slice a2 n2 c2] rfl HSRC.out (by unfold maxLen; omega) (by omega) (Nat.zero_le _) ?_
        intro v4 w4 hown hgrow hv
        have hx3 : 0 < b.length → ∀ x, a2 = some x → x.block < w3.heap.size ∧ x.block ≠ gl ∧ ∀ y, ba = some y → y.block ≠ x.block := fun h0 x e => by
          have := HX3.out h0 x e
          have hs := HSZ3.out
          exact ⟨by omega, by omega, fun y e2 e3 => by have := HL1.out.lt y.block (.inr (.inl ⟨y, e2, rfl⟩)); omega⟩
        have hpush := HL3.out.push a2 c2 b (by rw [← HNB.out]; exact HYT3.out) hx3 (v' := v4) (w1 := w4) (by rw [← HLLE.out, ← HNB.out]; exact hown) (by rw [← HLLE.out]; exact hgrow) (by rw [← HLLE.out]; exact hv)
        rw [← HLLE.out, ← HNB.out] at hpush
        obtain ⟨ba2, bc2, rfl, hL4, hba2⟩ := hpush
        have hO4 : Only (fun k => ∃ x, ba = some x ∧ x.block = k) w3 w4 := (Only.refl _ w3).grown hgrow (fun k e => by
          cases ba with
          | none => cases e
          | some x => injection e with e; exact .inl ⟨x, rfl, e⟩)
        have hgl3 : gl < w3.heap.size := HL3.out.lt gl (.inl rfl)
        have hgn : ¬ ∃ x, ba = some x ∧ x.block = gl := fun ⟨x, e1, e2⟩ => (HL1.out.yb x e1).1 e2
        have e6 : w4.cell? ⟨gl, 6, none⟩ = some (.slice ba ll bc) := (cell_only hO4 (q := ⟨gl, 6, none⟩) hgl3 hgn).trans d7
        have gf : ∀ o, w4.frozen? ⟨gl, o, none⟩ = false := fun o => by
          rw [show w4.frozen? ⟨gl, o, none⟩ = w3.frozen? ⟨gl, o, none⟩ by simp [World.frozen?, hO4.block gl hgl3 hgn]]; exact HL3.out.fz o
        have HL4 := Lib.hid hL4; have HBA2 := Lib.hid hba2; have HO4 := Lib.hid hO4
        clear hj0 hy0 hy1 hy2 hown hgrow hv hx3 hL4 hba2 hO4 hgn d7 HSRC
        refine hK.out _ _ trivial (fun _ => ?_)
        clear hK K
        try simp only [Act.put, List.getElem_toArray, List.getElem_cons_succ, List.getElem_cons_zero, List.setIfInBounds_toArray, List.set_cons_zero, List.set_cons_succ]
        refine wpAnyH_take (i := 9) (v := ?v8) rfl (by kernel_rfl) (by kernel_rfl) (by kernel_rfl) (fun _ _ _ h => h) (Or.inl ⟨by rfl, ?hy8⟩) trivial ?rest8
        case hy8 => (intro w' hSw; go_simp; with_reducible rfl)
        try simp only [Act.put, List.getElem_toArray, List.getElem_cons_succ, List.getElem_cons_zero, List.setIfInBounds_toArray, List.set_cons_zero, List.set_cons_succ]
        refine wpAnyH_take (i := 10) (v := ?v9) rfl (by kernel_rfl) (by kernel_rfl) (by kernel_rfl) (fun _ _ _ h => h) (Or.inl ⟨by rfl, ?hy9⟩) trivial ?rest9
        case hy9 => (intro w' hSw; go_simp; with_reducible rfl)
        try simp only [Act.put, List.getElem_toArray, List.getElem_cons_succ, List.getElem_cons_zero, List.setIfInBounds_toArray, List.set_cons_zero, List.set_cons_succ]
        refine wpAnyH_ready (rs := [11]) (by kernel_rfl) (by simp) ?_
        refine AllReadyH.cons rfl (fun K hK => ?_) AllReadyH.nil
        go_simp
        refine hK.out _ _ trivial (fun _ => ?_)
        clear hK K
        try simp only [Act.put, List.getElem_toArray, List.getElem_cons_succ, List.getElem_cons_zero, List.setIfInBounds_toArray, List.set_cons_zero, List.set_cons_succ]
        refine wpAnyH_done (by kernel_rfl) ?_ _
        refine NoPanic.normal ?_
        have HEND : Hid (∃ a9 c9 ba9 bc9, Lk gl g ha hc ba9 bc9 (vs ++ [.slice a9 n2 c9]) (Yh Y n2 a9) { L with l := L.l ++ [b] } (w4.setCell ⟨gl, 6, none⟩ (.slice ba2 (ll + 1) bc2)) ∧ Only (fun k => k = gl ∨ ∃ x, ba = some x ∧ x.block = k) w1 (w4.setCell ⟨gl, 6, none⟩ (.slice ba2 (ll + 1) bc2)) ∧ (∀ x, ba9 = some x → (∃ y, ba = some y ∧ y.block = x.block) ∨ w1.heap.size ≤ x.block) ∧ (0 < n2 → ∀ x, a9 = some x → w1.heap.size ≤ x.block)) := by
          refine ⟨a2, c2, ba2, bc2, HL4.out, ?_, fun x e => ?_, fun h0 x e => (HX3.out (by rw [← HNB.out]; exact h0) x e).1⟩
          · exact (((only_of HB3.out).mono (q := fun k => k = gl ∨ ∃ x, ba = some x ∧ x.block = k) (fun k hk e => absurd hk (by omega))).trans (HO4.out.mono (fun k _ e => .inr e))).setCell (q := ⟨gl, 6, none⟩) (.inl (.inl rfl)) _
          · rcases HBA2.out x e with h | h
            · exact .inl h
            · exact .inr (by rw [h]; exact HB3.out.size)
        go_wp2
        go_meet
        exact HEND
      refine AllReadyH.cons rfl (fun K hK => ?_) AllReadyH.nil
      have hrb : ∀ w, (Instr.buildSlice 41 1 #[(0, .slice a2 n2 c2)]).run Try.prog w = .ok (.slice (some ⟨w.heap.size, 0, none⟩) 1 1) (w.alloc (.cells #[.slice a2 n2 c2] 39)) := fun w => run_rowB a2 n2 c2 w
      go_simp
      have HL3 : Hid (Lk gl g ha hc ba bc vs Y L (w2.alloc (.cells #[.slice a2 n2 c2] 39))) := HL1.out.below (HB2.out.alloc HB2.out.size _)
      have d7 : (w2.alloc (.cells #[.slice a2 n2 c2] 39)).cell? ⟨gl, 6, none⟩ = some (.slice ba ll bc) := ((one_k w2 (.cells #[.slice a2 n2 c2] 39)).cell (p := ⟨gl, 6, none⟩) (by show gl < _; have := HB2.out.size; omega)).trans d6
      have HSRC : Hid (Src Try.prog 1 41 (.slice (some ⟨w2.heap.size, 0, none⟩) 1 1) 1 [.slice a2 n2 c2] (w2.alloc (.cells #[.slice a2 n2 c2] 39))) := by
        refine Src.ofSlice _ Try.underlying41 ⟨w2.heap.size, 0, none⟩ 1 1 _ rfl (fun j u hj => ?_) (fun u hu => by rw [List.mem_singleton.1 hu]; rfl)
        rw [addr_add, Nat.zero_add, Lib.cell_of_heap (heap_alloc_new w2 _)]
        simpa using hj
      have HB3 : Hid (Below w1.heap.size w1 (w2.alloc (.cells #[.slice a2 n2 c2] 39))) := HB2.out.alloc HB2.out.size _
      have HYT3 : Hid (Yt (.slice a2 n2 c2) b (w2.alloc (.cells #[.slice a2 n2 c2] 39))) := HYT2.out.2.1.keep (one_k _ _)
      have HX3 : Hid (0 < b.length → ∀ x, a2 = some x → w1.heap.size ≤ x.block ∧ x.block < w2.heap.size) := HYT2.out.2.2
      obtain ⟨w3, hw3⟩ : ∃ w3, w3 = w2.alloc (.cells #[.slice a2 n2 c2] 39) := ⟨_, rfl⟩
      have hsz3 : w3.heap.size = w2.heap.size + 1 := by rw [hw3]; simp
      have HSZ3 := Lib.hid hsz3
      rw [← hw3] at HL3 d7 HSRC HB3 HYT3 ⊢
      clear hrb hw3 hsz3 d6 HB2 HYT2
      refine hK.out _ _ trivial (fun _ => ?_)
      clear hK K
      try simp only [Act.put, List.getElem_toArray, List.getElem_cons_succ, List.getElem_cons_zero, List.setIfInBounds_toArray, List.set_cons_zero, List.set_cons_succ]
      refine wpAnyH_ready (rs := [4]) (by kernel_rfl) (by simp) ?_
      refine AllReadyH.cons rfl (fun K hK => ?_) AllReadyH.nil
      go_simp
      refine hK.out _ _ trivial (fun _ => ?_)
      clear hK K
      try simp only [Act.put, List.getElem_toArray, List.getElem_cons_succ, List.getElem_cons_zero, List.setIfInBounds_toArray, List.set_cons_zero, List.set_cons_succ]
      refine wpAnyH_ready (rs := [8]) (by kernel_rfl) (by simp) ?_
      refine AllReadyH.cons rfl (fun K hK => ?_) AllReadyH.nil
      obtain ⟨j0, hj0, hy0, hy1, hy2⟩ := info_parts info39k
      refine step_append_src _ rfl (.tmp 33) (.tmp 36) 41 41 rfl 0 39 j0 (.slice none 0 0) 1 24 Try.underlying41 hj0 hy0 hy1 hy2 rfl (.slice ba ll bc) ll vs rfl (by rw [HLLE.out]; exact HL3.out.bo) _ 1 [.slice a2 n2 c2] rfl HSRC.out (by unfold maxLen; omega) (by omega) (Nat.zero_le _) ?_
      intro v4 w4 hown hgrow hv
      have hx3 : 0 < b.length → ∀ x, a2 = some x → x.block < w3.heap.size ∧ x.block ≠ gl ∧ ∀ y, ba = some y → y.block ≠ x.block := fun h0 x e => by
        have := HX3.out h0 x e
        have hs := HSZ3.out
        exact ⟨by omega, by omega, fun y e2 e3 => by have := HL1.out.lt y.block (.inr (.inl ⟨y, e2, rfl⟩)); omega⟩
      have hpush := HL3.out.push a2 c2 b (by rw [← HNB.out]; exact HYT3.out) hx3 (v' := v4) (w1 := w4) (by rw [← HLLE.out, ← HNB.out]; exact hown) (by rw [← HLLE.out]; exact hgrow) (by rw [← HLLE.out]; exact hv)
      rw [← HLLE.out, ← HNB.out] at hpush
      obtain ⟨ba2, bc2, rfl, hL4, hba2⟩ := hpush
      have hO4 : Only (fun k => ∃ x, ba = some x ∧ x.block = k) w3 w4 := (Only.refl _ w3).grown hgrow (fun k e => by
        cases ba with
        | none => cases e
        | some x => injection e with e; exact .inl ⟨x, rfl, e⟩)
      have hgl3 : gl < w3.heap.size := HL3.out.lt gl (.inl rfl)
      have hgn : ¬ ∃ x, ba = some x ∧ x.block = gl := fun ⟨x, e1, e2⟩ => (HL1.out.yb x e1).1 e2
      have e6 : w4.cell? ⟨gl, 6, none⟩ = some (.slice ba ll bc) := (cell_only hO4 (q := ⟨gl, 6, none⟩) hgl3 hgn).trans d7
      have gf : ∀ o, w4.frozen? ⟨gl, o, none⟩ = false := fun o => by
        rw [show w4.frozen? ⟨gl, o, none⟩ = w3.frozen? ⟨gl, o, none⟩ by simp [World.frozen?, hO4.block gl hgl3 hgn]]; exact HL3.out.fz o
      have HL4 := Lib.hid hL4; have HBA2 := Lib.hid hba2; have HO4 := Lib.hid hO4
      clear hj0 hy0 hy1 hy2 hown hgrow hv hx3 hL4 hba2 hO4 hgn d7 HSRC
      refine hK.out _ _ trivial (fun _ => ?_)
      clear hK K
      try simp only [Act.put, List.getElem_toArray, List.getElem_cons_succ, List.getElem_cons_zero, List.setIfInBounds_toArray, List.set_cons_zero, List.set_cons_succ]
      refine wpAnyH_take (i := 9) (v := ?v10) rfl (by kernel_rfl) (by kernel_rfl) (by kernel_rfl) (fun _ _ _ h => h) (Or.inl ⟨by rfl, ?hy10⟩) trivial ?rest10
      case hy10 => (intro w' hSw; go_simp; with_reducible rfl)
      try simp only [Act.put, List.getElem_toArray, List.getElem_cons_succ, List.getElem_cons_zero, List.setIfInBounds_toArray, List.set_cons_zero, List.set_cons_succ]
      refine wpAnyH_take (i := 10) (v := ?v11) rfl (by kernel_rfl) (by kernel_rfl) (by kernel_rfl) (fun _ _ _ h => h) (Or.inl ⟨by rfl, ?hy11⟩) trivial ?rest11
      case hy11 => (intro w' hSw; go_simp; with_reducible rfl)
      try simp only [Act.put, List.getElem_toArray, List.getElem_cons_succ, List.getElem_cons_zero, List.setIfInBounds_toArray, List.set_cons_zero, List.set_cons_succ]
      refine wpAnyH_ready (rs := [11]) (by kernel_rfl) (by simp) ?_
      refine AllReadyH.cons rfl (fun K hK => ?_) AllReadyH.nil
      go_simp
      refine hK.out _ _ trivial (fun _ => ?_)
      clear hK K
      try simp only [Act.put, List.getElem_toArray, List.getElem_cons_succ, List.getElem_cons_zero, List.setIfInBounds_toArray, List.set_cons_zero, List.set_cons_succ]
      refine wpAnyH_done (by kernel_rfl) ?_ _
      refine NoPanic.normal ?_
      have HEND : Hid (∃ a9 c9 ba9 bc9, Lk gl g ha hc ba9 bc9 (vs ++ [.slice a9 n2 c9]) (Yh Y n2 a9) { L with l := L.l ++ [b] } (w4.setCell ⟨gl, 6, none⟩ (.slice ba2 (ll + 1) bc2)) ∧ Only (fun k => k = gl ∨ ∃ x, ba = some x ∧ x.block = k) w1 (w4.setCell ⟨gl, 6, none⟩ (.slice ba2 (ll + 1) bc2)) ∧ (∀ x, ba9 = some x → (∃ y, ba = some y ∧ y.block = x.block) ∨ w1.heap.size ≤ x.block) ∧ (0 < n2 → ∀ x, a9 = some x → w1.heap.size ≤ x.block)) := by
        refine ⟨a2, c2, ba2, bc2, HL4.out, ?_, fun x e => ?_, fun h0 x e => (HX3.out (by rw [← HNB.out]; exact h0) x e).1⟩
        · exact (((only_of HB3.out).mono (q := fun k => k = gl ∨ ∃ x, ba = some x ∧ x.block = k) (fun k hk e => absurd hk (by omega))).trans (HO4.out.mono (fun k _ e => .inr e))).setCell (q := ⟨gl, 6, none⟩) (.inl (.inl rfl)) _
        · rcases HBA2.out x e with h | h
          · exact .inl h
          · exact .inr (by rw [h]; exact HB3.out.size)
      go_wp2
      go_meet
      exact HEND
    case rest =>
      obtain ⟨w5, rfl⟩ : ∃ w5, w5 = wc := ⟨wc, rfl⟩
      have HCUT := hcut
      obtain ⟨a2, c2, ba2, bc2, hl5, ho5, hb5, hx5⟩ := HCUT.out
      have HL5 := Lib.hid hl5; have HO5 := Lib.hid ho5; have HB5 := Lib.hid hb5; have HX5 := Lib.hid hx5
      have c7 := hl5.c7
      have fz5 := hl5.fz
      have hgl5 := hl5.lt gl (.inl rfl)
      replace c7 : w5.cell? ⟨gl, 7, none⟩ = some (.int .i64 at_) := by rw [HATE.out]; exact c7
      clear hl5 ho5 hb5 hx5 hcut HCUT fz c6 HC6 HCL hgl1
      have hwq : IntKind.i64.wrap (at_ + (q : Int)) = at_ + (q : Int) := by rw [IntKind.wrap_i64]; omega
      go_upto_region 14 with (fail)
      refine wp_region_noPanic ?_
      refine wp_region_held_drew (S := fun _ => True) (by kernel_rfl) trivial (fun _ => ?_)
      refine wpAnyH_take (i := 0) (v := ?v12) rfl (by kernel_rfl) (by kernel_rfl) (by kernel_rfl) (fun _ _ _ h => h) (Or.inl ⟨by rfl, ?hy12⟩) trivial ?rest12
      case hy12 => (intro w' hSw; go_simp; with_reducible rfl)
      try simp only [Act.put, List.getElem_toArray, List.getElem_cons_zero, List.setIfInBounds_toArray, List.set_cons_zero, List.set_cons_succ]
      refine wpAnyH_take (i := 1) (v := ?v13) rfl (by kernel_rfl) (by kernel_rfl) (by kernel_rfl) (fun _ _ _ h => h) (Or.inl ⟨by rfl, ?hy13⟩) trivial ?rest13
      case hy13 => (intro w' hSw; go_simp; with_reducible rfl)
      try simp only [Act.put, List.getElem_toArray, List.getElem_cons_succ, List.getElem_cons_zero, List.setIfInBounds_toArray, List.set_cons_zero, List.set_cons_succ]
      refine wpAnyH_take (i := 2) (v := ?v14) rfl (by kernel_rfl) (by kernel_rfl) (by kernel_rfl) (fun _ _ _ h => h) (Or.inl ⟨by rfl, ?hy14⟩) trivial ?rest14
      case hy14 => (intro w' hSw; go_simp; with_reducible rfl)
      try simp only [Act.put, List.getElem_toArray, List.getElem_cons_succ, List.getElem_cons_zero, List.setIfInBounds_toArray, List.set_cons_zero, List.set_cons_succ]
      refine wpAnyH_take (i := 4) (v := ?v15) rfl (by kernel_rfl) (by kernel_rfl) (by kernel_rfl) (fun _ _ _ h => h) (Or.inl ⟨by rfl, ?hy15⟩) trivial ?rest15
      case hy15 => (intro w' hSw; go_simp; with_reducible rfl)
      try simp only [Act.put, List.getElem_toArray, List.getElem_cons_succ, List.getElem_cons_zero, List.setIfInBounds_toArray, List.set_cons_zero, List.set_cons_succ]
      refine wpAnyH_ready (rs := [3, 5]) (by kernel_rfl) (by simp) ?_
      refine AllReadyH.cons rfl (fun K hK => ?_) ?_
      · skip
        go_simp
        refine hK.out _ _ trivial (fun _ => ?_)
        clear hK K
        try simp only [Act.put, List.getElem_toArray, List.getElem_cons_succ, List.getElem_cons_zero, List.setIfInBounds_toArray, List.set_cons_zero, List.set_cons_succ]
        refine wpAnyH_ready (rs := [5]) (by kernel_rfl) (by simp) ?_
        refine AllReadyH.cons rfl (fun K hK => ?_) AllReadyH.nil
        go_simp
        go_wp2_with (go_at_call 37; refine (HFO.out _).mono ?_; rintro e w6 ⟨rfl, rfl⟩)
        refine hK.out _ _ trivial (fun _ => ?_)
        clear hK K
        try simp only [Act.put, List.getElem_toArray, List.getElem_cons_succ, List.getElem_cons_zero, List.setIfInBounds_toArray, List.set_cons_zero, List.set_cons_succ]
        refine wpAnyH_take (i := 6) (v := ?v16) rfl (by kernel_rfl) (by kernel_rfl) (by kernel_rfl) (fun _ _ _ h => h) (Or.inl ⟨by rfl, ?hy16⟩) trivial ?rest16
        case hy16 => (intro w' hSw; go_simp; with_reducible rfl)
        try simp only [Act.put, List.getElem_toArray, List.getElem_cons_succ, List.getElem_cons_zero, List.setIfInBounds_toArray, List.set_cons_zero, List.set_cons_succ]
        refine wpAnyH_take (i := 7) (v := ?v17) rfl (by kernel_rfl) (by kernel_rfl) (by kernel_rfl) (fun _ _ _ h => h) (Or.inl ⟨by rfl, ?hy17⟩) trivial ?rest17
        case hy17 => (intro w' hSw; go_simp; with_reducible rfl)
        try simp only [Act.put, List.getElem_toArray, List.getElem_cons_succ, List.getElem_cons_zero, List.setIfInBounds_toArray, List.set_cons_zero, List.set_cons_succ]
        refine wpAnyH_take (i := 8) (v := ?v18) rfl (by kernel_rfl) (by kernel_rfl) (by kernel_rfl) (fun _ _ _ h => h) (Or.inl ⟨by rfl, ?hy18⟩) trivial ?rest18
        case hy18 => (intro w' hSw; go_simp; with_reducible rfl)
        try simp only [Act.put, List.getElem_toArray, List.getElem_cons_succ, List.getElem_cons_zero, List.setIfInBounds_toArray, List.set_cons_zero, List.set_cons_succ]
        refine wpAnyH_ready (rs := [9]) (by kernel_rfl) (by simp) ?_
        refine AllReadyH.cons rfl (fun K hK => ?_) AllReadyH.nil
        go_simp
        refine hK.out _ _ trivial (fun _ => ?_)
        clear hK K
        try simp only [Act.put, List.getElem_toArray, List.getElem_cons_succ, List.getElem_cons_zero, List.setIfInBounds_toArray, List.set_cons_zero, List.set_cons_succ]
        refine wpAnyH_done (by kernel_rfl) ?_ _
        refine NoPanic.normal ?_
        go_wp2
        go_ret
        rw [hop.out]
        have hset := (HL5.out.below (below_drew0 w5)).setAt (L.at_ + q)
        have hoc := ((Only.refl (fun k => k = gl) w5).drew).trans (only_cell w5.drew gl 7 (.int .i64 ((L.at_ + q : Nat) : Int)))
        rw [show ((L.at_ + q : Nat) : Int) = at_ + (q : Int) by rw [HATE.out]; omega] at hset hoc
        have hdis : ∀ k, F1 k → ¬ (k = gl ∨ ∃ x, ba = some x ∧ x.block = k) := fun k hk e => by
          rcases e with e | e
          · exact HAP1.out k hk (.inl e)
          · exact HAP1.out k hk (.inr (.inl e))
        have hD5 := secCon.keep HD1.out HO5.out hdis
        have hD6 := secCon.keep (p := fun k => k = gl) hD5 hoc (fun k hk e => hdis k hk (.inl e))
        refine ⟨rfl, F1, _, hD6, ⟨ha, hc, ba2, bc2, _, _, hset, rfl⟩, ?_, HF1.out, fun k hk => ?_, fun k hk hg => ?_⟩
        · exact ((HO1.out.mono (q := fun k => F k ∨ Gk gl ba Y k) (fun k _ e => .inl e)).trans (HO5.out.mono (fun k _ e => .inr (e.elim .inl (fun e => .inr (.inl e)))))).trans (hoc.mono (fun k _ e => .inr (.inl e)))
        · rcases hk with hk | ⟨x, e, hk⟩ | hk | ⟨h0, x, e, hk⟩
          · exact .inl (.inl hk)
          · rcases HB5.out x e with ⟨y, e1, e2⟩ | h
            · exact .inl (.inr (.inl ⟨y, e1, e2.trans hk⟩))
            · have := HO1.out.size; exact .inr (by omega)
          · exact .inl (.inr (.inr hk))
          · have := HX5.out h0 x e; have := HO1.out.size; exact .inr (by omega)
        · have h1 : F1 k → k < w1.heap.size := fun hk => secCon.lt HD1.out k hk
          rcases hg with hg | ⟨x, e, hg⟩ | hg | ⟨h0, x, e, hg⟩
          · exact HAP1.out k hk (.inl hg)
          · rcases HB5.out x e with ⟨y, e1, e2⟩ | h
            · exact HAP1.out k hk (.inr (.inl ⟨y, e1, e2.trans hg⟩))
            · have := h1 hk; omega
          · exact HAP1.out k hk (.inr (.inr hg))
          · have := HX5.out h0 x e; have := h1 hk; omega
      refine AllReadyH.cons rfl (fun K hK => ?_) AllReadyH.nil
      go_simp
      go_wp2_with (go_at_call 37; refine (HFO.out _).mono ?_; rintro e w6 ⟨rfl, rfl⟩)
      refine hK.out _ _ trivial (fun _ => ?_)
      clear hK K
      try simp only [Act.put, List.getElem_toArray, List.getElem_cons_succ, List.getElem_cons_zero, List.setIfInBounds_toArray, List.set_cons_zero, List.set_cons_succ]
      refine wpAnyH_ready (rs := [3]) (by kernel_rfl) (by simp) ?_
      refine AllReadyH.cons rfl (fun K hK => ?_) AllReadyH.nil
      go_simp
      refine hK.out _ _ trivial (fun _ => ?_)
      clear hK K
      try simp only [Act.put, List.getElem_toArray, List.getElem_cons_succ, List.getElem_cons_zero, List.setIfInBounds_toArray, List.set_cons_zero, List.set_cons_succ]
      refine wpAnyH_take (i := 6) (v := ?v19) rfl (by kernel_rfl) (by kernel_rfl) (by kernel_rfl) (fun _ _ _ h => h) (Or.inl ⟨by rfl, ?hy19⟩) trivial ?rest19
      case hy19 => (intro w' hSw; go_simp; with_reducible rfl)
      try simp only [Act.put, List.getElem_toArray, List.getElem_cons_succ, List.getElem_cons_zero, List.setIfInBounds_toArray, List.set_cons_zero, List.set_cons_succ]
      refine wpAnyH_take (i := 7) (v := ?v20) rfl (by kernel_rfl) (by kernel_rfl) (by kernel_rfl) (fun _ _ _ h => h) (Or.inl ⟨by rfl, ?hy20⟩) trivial ?rest20
      case hy20 => (intro w' hSw; go_simp; with_reducible rfl)
      try simp only [Act.put, List.getElem_toArray, List.getElem_cons_succ, List.getElem_cons_zero, List.setIfInBounds_toArray, List.set_cons_zero, List.set_cons_succ]
      refine wpAnyH_take (i := 8) (v := ?v21) rfl (by kernel_rfl) (by kernel_rfl) (by kernel_rfl) (fun _ _ _ h => h) (Or.inl ⟨by rfl, ?hy21⟩) trivial ?rest21
      case hy21 => (intro w' hSw; go_simp; with_reducible rfl)
      try simp only [Act.put, List.getElem_toArray, List.getElem_cons_succ, List.getElem_cons_zero, List.setIfInBounds_toArray, List.set_cons_zero, List.set_cons_succ]
      refine wpAnyH_ready (rs := [9]) (by kernel_rfl) (by simp) ?_
      refine AllReadyH.cons rfl (fun K hK => ?_) AllReadyH.nil
      go_simp
      refine hK.out _ _ trivial (fun _ => ?_)
      clear hK K
      try simp only [Act.put, List.getElem_toArray, List.getElem_cons_succ, List.getElem_cons_zero, List.setIfInBounds_toArray, List.set_cons_zero, List.set_cons_succ]
      refine wpAnyH_done (by kernel_rfl) ?_ _
      refine NoPanic.normal ?_
      go_wp2
      go_ret
      rw [hop.out]
      have hset := (HL5.out.below (below_drew0 w5)).setAt (L.at_ + q)
      have hoc := ((Only.refl (fun k => k = gl) w5).drew).trans (only_cell w5.drew gl 7 (.int .i64 ((L.at_ + q : Nat) : Int)))
      rw [show ((L.at_ + q : Nat) : Int) = at_ + (q : Int) by rw [HATE.out]; omega] at hset hoc
      have hdis : ∀ k, F1 k → ¬ (k = gl ∨ ∃ x, ba = some x ∧ x.block = k) := fun k hk e => by
        rcases e with e | e
        · exact HAP1.out k hk (.inl e)
        · exact HAP1.out k hk (.inr (.inl e))
      have hD5 := secCon.keep HD1.out HO5.out hdis
      have hD6 := secCon.keep (p := fun k => k = gl) hD5 hoc (fun k hk e => hdis k hk (.inl e))
      refine ⟨rfl, F1, _, hD6, ⟨ha, hc, ba2, bc2, _, _, hset, rfl⟩, ?_, HF1.out, fun k hk => ?_, fun k hk hg => ?_⟩
      · exact ((HO1.out.mono (q := fun k => F k ∨ Gk gl ba Y k) (fun k _ e => .inl e)).trans (HO5.out.mono (fun k _ e => .inr (e.elim .inl (fun e => .inr (.inl e)))))).trans (hoc.mono (fun k _ e => .inr (.inl e)))
      · rcases hk with hk | ⟨x, e, hk⟩ | hk | ⟨h0, x, e, hk⟩
        · exact .inl (.inl hk)
        · rcases HB5.out x e with ⟨y, e1, e2⟩ | h
          · exact .inl (.inr (.inl ⟨y, e1, e2.trans hk⟩))
          · have := HO1.out.size; exact .inr (by omega)
        · exact .inl (.inr (.inr hk))
        · have := HX5.out h0 x e; have := HO1.out.size; exact .inr (by omega)
      · have h1 : F1 k → k < w1.heap.size := fun hk => secCon.lt HD1.out k hk
        rcases hg with hg | ⟨x, e, hg⟩ | hg | ⟨h0, x, e, hg⟩
        · exact HAP1.out k hk (.inl hg)
        · rcases HB5.out x e with ⟨y, e1, e2⟩ | h
          · exact HAP1.out k hk (.inr (.inl ⟨y, e1, e2.trans hg⟩))
          · have := h1 hk; omega
        · exact HAP1.out k hk (.inr (.inr hg))
        · have := HX5.out h0 x e; have := h1 hk; omega
end Go.Proofs.Ytofbignggadkiaa
