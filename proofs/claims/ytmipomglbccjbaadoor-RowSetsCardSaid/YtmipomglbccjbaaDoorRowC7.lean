/- The reference of layer 11: Set. -/
import Derived.Test.YtmipomglbccjbaaDoorRowGc
namespace Go.Proofs.YtmipomglbccjbaaDoor
open Go.RowKit

theorem setF_nil (col : Int) (v : Vm.Cl) (i : Bool) : Rm.setF col v i [] = if i then [] else [⟨col, v⟩] := rfl
theorem setF_step {l : List Rm.C} {j : Nat} (h : j < l.length) (col : Int) (v : Vm.Cl) (i : Bool) : Rm.setF col v i (l.drop j) = if i = false ∧ col ≤ l[j].col then ⟨col, v⟩ :: ((if l[j].col ≠ col ∨ col < 0 then [l[j]] else []) ++ Rm.setF col v true (l.drop (j + 1)))
    else (if l[j].col ≠ col ∨ col < 0 then [l[j]] else []) ++ Rm.setF col v i (l.drop (j + 1)) := by
  rw [List.drop_eq_getElem_cons h, Rm.setF]

set_option maxHeartbeats 8000000 in
set_option maxRecDepth 100000 in
theorem ref_set11 (a : Option Addr) (n cap : Nat) (l : List Rm.C) (col : Int) (v : Vm.Cl) (w : World) (hv : Rs (.slice a n cap) l w) (hl : n ≤ 1000) (hz : v.s.size ≤ maxLen) :
    Calls Tryd.prog 21 #[.slice a n cap, .int .i64 col, .agg #[.int .i64 v.k, .int .i64 v.n, .int .i64 v.sc, .string v.s]] w (RsA (Rm.setF col v (Rm.in0 col v) l) w) := by
  obtain ⟨i0, hi0, hz0, hz1, hz2⟩ := info_of11 info5r
  have HI0 := Lib.hid hi0; have HZ0 := Lib.hid hz0; have HZ1 := Lib.hid hz1; have HZ2 := Lib.hid hz2
  have hnl : n = l.length := by obtain ⟨b, d, e⟩ := hv.form; injection e
  have hn1 : n ≤ l.length := by omega
  have hn2 : l.length ≤ n := by omega
  clear hnl hi0 hz0 hz1 hz2
  obtain ⟨vk, vn, vc, vs⟩ := v
  dsimp only at hz ⊢
  obtain ⟨R, hR⟩ : ∃ R, R = Rm.setF col ⟨vk, vn, vc, vs⟩ (Rm.in0 col ⟨vk, vn, vc, vs⟩) l := ⟨_, rfl⟩
  rw [← hR]
  have HRR := Lib.hid hR
  clear hR
  obtain ⟨q, hq⟩ : ∃ q, q = w.heap.size := ⟨_, rfl⟩
  obtain ⟨WB, hWB⟩ : ∃ WB, WB = w.alloc (.cells #[.int .i64 vk, .int .i64 vn, .int .i64 vc, .string vs] 36) := ⟨_, rfl⟩
  have HB0 : Hid (Below w.heap.size w WB) := by show Below _ _ _; rw [hWB]; exact one_r w _
  have HXB : Hid (Fx q vk vn vc vs WB) := by show Fx _ _ _ _ _ _; rw [hWB, hq]; exact Fx.new w _ _ _ _ _
  have HVB := Lib.hid (hv.keep HB0.out)
  have HQ : Hid (q = w.heap.size ∧ WB = w.alloc (.cells #[.int .i64 vk, .int .i64 vn, .int .i64 vc, .string vs] 36)) := ⟨hq, hWB⟩
  clear hv hq hWB
  have b0 := HXB.out.bx.c0; have b1 := HXB.out.bx.c1; have b2 := HXB.out.bx.c2; have b3 := HXB.out.bx.c3
  by_cases h0 : col < 0
  · have HR0 : Hid (R = [] ++ Rm.setF col ⟨vk, vn, vc, vs⟩ true (l.drop 0)) := by
      show _ = _
      rw [HRR.out]; simp [Rm.in0, h0]
    obtain ⟨W0, hW0⟩ : ∃ W0, W0 = WB := ⟨_, rfl⟩
    clear HRR
    go_enter Tryd.func21, Tryd.ntmps21
    go_upto_region 2 with (fail)
    rw [← HQ.out.2, ← HQ.out.1]
    go_wp2_with fail
    rw [← hW0] at HB0 HXB HVB ⊢
    have HBW := HB0; have HX0 := HXB; have HV := HVB
    clear HB0 HXB HVB b0 b1 b2 b3 hW0
    go_loopw [7, 8, 25] (fun pv bv iv wr => ∃ (j k : Nat) (aa : Option Addr) (cc : Nat) (os : List Rm.C) (i : Bool), j ≤ n ∧ iv = .int .i64 (j : Int) ∧ pv = .slice aa k cc ∧ bv = .bool i ∧ k ≤ 2 * j ∧ Hid (R = os ++ Rm.setF col ⟨vk, vn, vc, vs⟩ i (l.drop j)) ∧ Hid (wr.ownsRow W0.heap.size 38 5 (.slice aa k cc) k (rcs os)) ∧ Hid (Below W0.heap.size W0 wr)) (fun _ _ iv _ => n - (Lib.intOf iv).toNat)
    case atStart => exact ⟨0, 0, none, 0, [], _, by omega, rfl, rfl, rfl, by omega, HR0.out, World.ownsRow_nil _ _ _ _, Below.refl _ _⟩
    case round =>
      clear HR0
      obtain ⟨j, k, aa, cc, os, i, hj, rfl, rfl, rfl, hkj, HR, HO, HB⟩ := hrel
      have hwr := HB.out.size
      have HX := Lib.hid (HX0.out.keep HB.out)
      have x0 := HX.out.bx.c0; have x1 := HX.out.bx.c1; have x2 := HX.out.bx.c2; have x3 := HX.out.bx.c3
      have hqw : q < wr.heap.size := HX.out.bx.lt
      clear HX
      by_cases hlt : j < n
      · have hjl : j < l.length := by omega
        obtain ⟨g, off, ha, -, hg, hb⟩ := (HV.out.keep HB.out).at j hjl
        have hst := setF_step hjl col ⟨vk, vn, vc, vs⟩ i
        obtain ⟨c, hc⟩ : ∃ c, c = l[j] := ⟨_, rfl⟩
        rw [← hc] at hb hst
        subst ha
        obtain ⟨cl, ck, cn, cz, cs⟩ := c
        obtain ⟨c0, c1, c2, c3, c4⟩ := hb
        dsimp only at c0 c1 c2 c3 c4 hst
        have HST := Lib.hid hst
        clear hc hst
        obtain ⟨W1, hW1⟩ : ∃ W1, W1 = wr.alloc (.cells #[.int .i64 cl, .int .i64 ck, .int .i64 cn, .int .i64 cz, .string cs] 38) := ⟨_, rfl⟩
        obtain ⟨p, hp⟩ : ∃ p, p = wr.heap.size := ⟨_, rfl⟩
        have hbw : Below wr.heap.size wr W1 := by rw [hW1]; exact one_r _ _
        have HB1 := Lib.hid (HB.out.trans (hbw.mono hwr))
        have HO1 := Lib.hid (own_below11 HO.out hbw)
        have HLT : Hid (∀ i, (Value.slice aa k cc).ownBlock = some i → i < p) := fun i hi => by rw [hp]; exact (HO.out.lt i hi).2
        replace x0 := (hbw.cell (p := ⟨q, 0, none⟩) hqw).trans x0
        replace x1 := (hbw.cell (p := ⟨q, 1, none⟩) hqw).trans x1
        replace x2 := (hbw.cell (p := ⟨q, 2, none⟩) hqw).trans x2
        replace x3 := (hbw.cell (p := ⟨q, 3, none⟩) hqw).trans x3
        have y0 : W1.cell? ⟨p, 0, none⟩ = some (.int .i64 cl) := by rw [hW1, hp]; simp
        have y1 : W1.cell? ⟨p, 1, none⟩ = some (.int .i64 ck) := by rw [hW1, hp]; simp
        have y2 : W1.cell? ⟨p, 2, none⟩ = some (.int .i64 cn) := by rw [hW1, hp]; simp
        have y3 : W1.cell? ⟨p, 3, none⟩ = some (.int .i64 cz) := by rw [hW1, hp]; simp
        have y4 : W1.cell? ⟨p, 4, none⟩ = some (.string cs) := by rw [hW1, hp]; simp
        have HW1 : Hid (W1 = wr.alloc (.cells #[.int .i64 cl, .int .i64 ck, .int .i64 cn, .int .i64 cz, .string cs] 38) ∧ p = wr.heap.size) := ⟨hW1, hp⟩
        have hpw : p < W1.heap.size := by rw [hW1, hp]; simp
        clear hbw hW1 hp HB HO hqw
        cases i
        · by_cases hge : col ≤ cl
          · have hge2 : ¬ cl < col := by omega
            go_upto_region 6 with (fail)
            rw [← HW1.out.1, ← HW1.out.2]
            go_wp2_with (at_builtin; refine wpList_append_src _ rfl _ _ 22 22 rfl W0.heap.size 38 i0 zero5 5 48 Tryd.underlying22 HI0.out HZ0.out HZ1.out HZ2.out rfl (.slice aa (k) cc) (k) (rcs os) rfl (HO1.out.alloc _) _ 1 (rcs [(⟨col, ⟨vk, vn, vc, vs⟩⟩ : Rm.C)]) rfl (lit_srcr W1 (⟨col, ⟨vk, vn, vc, vs⟩⟩ : Rm.C)) ?qa2 ?qb2 ?qc2 ?_)
            case qa2 => unfold maxLen; omega
            case qb2 => omega
            case qc2 => have := HB1.out.size; simp; omega
            intro v2 w2 hown hgrow hat
            rw [← rcs_append] at hown
            obtain ⟨a2, c2, rfl⟩ := own_formr hown
            have HO2 := Lib.hid hown
            have HB2 := Lib.hid ((HB1.out.alloc HB1.out.size (.cells #[.int .i64 col, .int .i64 vk, .int .i64 vn, .int .i64 vc, .string vs] 38)).grown hgrow (by have := HB1.out.size; simp; omega) (fun i hi => (HO1.out.lt i hi).1))
            have hfar : ∀ o u, W1.cell? ⟨p, o, none⟩ = some u → w2.cell? ⟨p, o, none⟩ = some u := fun o u hu => by
              rw [hgrow.cell_far ⟨p, o, none⟩ (by simp; omega) (fun e => by have := HLT.out p e.symm; omega)]
              exact ((one_r W1 _).cell (p := ⟨p, o, none⟩) hpw).trans hu
            have z0 := hfar 0 _ y0
            have z1 := hfar 1 _ y1
            have z2 := hfar 2 _ y2
            have z3 := hfar 3 _ y3
            have z4 := hfar 4 _ y4
            clear hfar
            clear hown hgrow hat
            clear HO1 HB1 HLT x0 x1 x2 x3 y0 y1 y2 y3 y4
            by_cases hcc : cl = col
            · subst hcc
              have hcn : cl < 0 := h0
              have HF : Hid (R = (os ++ [(⟨cl, ⟨vk, vn, vc, vs⟩⟩ : Rm.C)] ++ [(⟨cl, ⟨ck, cn, cz, cs⟩⟩ : Rm.C)]) ++ Rm.setF cl ⟨vk, vn, vc, vs⟩ true (l.drop (j + 1))) := by
                show _ = _
                rw [HR.out, HST.out, if_pos (by first | exact ⟨rfl, hge⟩ | exact ⟨trivial, hge⟩), if_pos (.inr hcn)]; simp
              clear HR HST
              go_wp2_with (at_builtin; refine wpList_append_src _ rfl _ _ 22 22 rfl W0.heap.size 38 i0 zero5 5 48 Tryd.underlying22 HI0.out HZ0.out HZ1.out HZ2.out rfl (.slice a2 (k + 1) c2) (k + 1) (rcs (os ++ [(⟨cl, ⟨vk, vn, vc, vs⟩⟩ : Rm.C)])) rfl (HO2.out.alloc _) _ 1 (rcs [(⟨cl, ⟨ck, cn, cz, cs⟩⟩ : Rm.C)]) rfl (lit_srcr w2 (⟨cl, ⟨ck, cn, cz, cs⟩⟩ : Rm.C)) ?qa4 ?qb4 ?qc4 ?_)
              case qa4 => unfold maxLen; omega
              case qb4 => omega
              case qc4 => have := HB2.out.size; simp; omega
              intro v4 w4 hown hgrow hat
              rw [← rcs_append] at hown
              obtain ⟨a4, c4, rfl⟩ := own_formr hown
              have HO4 := Lib.hid hown
              have HB4 := Lib.hid ((HB2.out.alloc HB2.out.size (.cells #[.int .i64 cl, .int .i64 ck, .int .i64 cn, .int .i64 cz, .string cs] 38)).grown hgrow (by have := HB2.out.size; simp; omega) (fun i hi => (HO2.out.lt i hi).1))
              clear hown hgrow hat
              go_wp2
              go_roundw
              case rel => exact ⟨j + 1, k + 1 + 1, a4, c4, _, true, by omega, by go_num, (by first | rfl | trivial), (by first | rfl | trivial), by omega, HF, HO4, HB4⟩
              case measure => simp [Lib.intOf]; omega
            · have q9 : (cl != col) = true := by simpa using hcc
              have HF : Hid (R = (os ++ [(⟨col, ⟨vk, vn, vc, vs⟩⟩ : Rm.C)] ++ [(⟨cl, ⟨ck, cn, cz, cs⟩⟩ : Rm.C)]) ++ Rm.setF col ⟨vk, vn, vc, vs⟩ true (l.drop (j + 1))) := by
                show _ = _
                rw [HR.out, HST.out, if_pos (by first | exact ⟨rfl, hge⟩ | exact ⟨trivial, hge⟩), if_pos (.inl hcc)]; simp
              clear HR HST
              go_wp2_with (at_builtin; refine wpList_append_src _ rfl _ _ 22 22 rfl W0.heap.size 38 i0 zero5 5 48 Tryd.underlying22 HI0.out HZ0.out HZ1.out HZ2.out rfl (.slice a2 (k + 1) c2) (k + 1) (rcs (os ++ [(⟨col, ⟨vk, vn, vc, vs⟩⟩ : Rm.C)])) rfl (HO2.out.alloc _) _ 1 (rcs [(⟨cl, ⟨ck, cn, cz, cs⟩⟩ : Rm.C)]) rfl (lit_srcr w2 (⟨cl, ⟨ck, cn, cz, cs⟩⟩ : Rm.C)) ?qa4 ?qb4 ?qc4 ?_)
              case qa4 => unfold maxLen; omega
              case qb4 => omega
              case qc4 => have := HB2.out.size; simp; omega
              intro v4 w4 hown hgrow hat
              rw [← rcs_append] at hown
              obtain ⟨a4, c4, rfl⟩ := own_formr hown
              have HO4 := Lib.hid hown
              have HB4 := Lib.hid ((HB2.out.alloc HB2.out.size (.cells #[.int .i64 cl, .int .i64 ck, .int .i64 cn, .int .i64 cz, .string cs] 38)).grown hgrow (by have := HB2.out.size; simp; omega) (fun i hi => (HO2.out.lt i hi).1))
              clear hown hgrow hat
              go_wp2
              go_roundw
              case rel => exact ⟨j + 1, k + 1 + 1, a4, c4, _, true, by omega, by go_num, (by first | rfl | trivial), (by first | rfl | trivial), by omega, HF, HO4, HB4⟩
              case measure => simp [Lib.intOf]; omega
          · have hlt2 : cl < col := by omega
            have hcc : cl ≠ col := by omega
            have q1 : (cl != col) = true := by simp; omega
            go_upto_region 6 with (fail)
            rw [← HW1.out.1, ← HW1.out.2]
            have HF : Hid (R = (os ++ [(⟨cl, ⟨ck, cn, cz, cs⟩⟩ : Rm.C)]) ++ Rm.setF col ⟨vk, vn, vc, vs⟩ false (l.drop (j + 1))) := by
              show _ = _
              rw [HR.out, HST.out, if_neg (by omega), if_pos (.inl hcc)]; simp
            clear HR HST
            go_wp2_with (at_builtin; refine wpList_append_src _ rfl _ _ 22 22 rfl W0.heap.size 38 i0 zero5 5 48 Tryd.underlying22 HI0.out HZ0.out HZ1.out HZ2.out rfl (.slice aa (k) cc) (k) (rcs os) rfl (HO1.out.alloc _) _ 1 (rcs [(⟨cl, ⟨ck, cn, cz, cs⟩⟩ : Rm.C)]) rfl (lit_srcr W1 (⟨cl, ⟨ck, cn, cz, cs⟩⟩ : Rm.C)) ?qa4 ?qb4 ?qc4 ?_)
            case qa4 => unfold maxLen; omega
            case qb4 => omega
            case qc4 => have := HB1.out.size; simp; omega
            intro v4 w4 hown hgrow hat
            rw [← rcs_append] at hown
            obtain ⟨a4, c4, rfl⟩ := own_formr hown
            have HO4 := Lib.hid hown
            have HB4 := Lib.hid ((HB1.out.alloc HB1.out.size (.cells #[.int .i64 cl, .int .i64 ck, .int .i64 cn, .int .i64 cz, .string cs] 38)).grown hgrow (by have := HB1.out.size; simp; omega) (fun i hi => (HO1.out.lt i hi).1))
            clear hown hgrow hat
            go_wp2
            go_roundw
            case rel => exact ⟨j + 1, k + 1, a4, c4, _, false, by omega, by go_num, (by first | rfl | trivial), (by first | rfl | trivial), by omega, HF, HO4, HB4⟩
            case measure => simp [Lib.intOf]; omega
        · go_upto_region 6 with (fail)
          rw [← HW1.out.1, ← HW1.out.2]
          by_cases hcc : cl = col
          · subst hcc
            have hcn : cl < 0 := h0
            have HF : Hid (R = (os ++ [(⟨cl, ⟨ck, cn, cz, cs⟩⟩ : Rm.C)]) ++ Rm.setF cl ⟨vk, vn, vc, vs⟩ true (l.drop (j + 1))) := by
              show _ = _
              rw [HR.out, HST.out, if_neg (by simp), if_pos (.inr hcn)]; simp
            clear HR HST
            go_wp2_with (at_builtin; refine wpList_append_src _ rfl _ _ 22 22 rfl W0.heap.size 38 i0 zero5 5 48 Tryd.underlying22 HI0.out HZ0.out HZ1.out HZ2.out rfl (.slice aa (k) cc) (k) (rcs (os)) rfl (HO1.out.alloc _) _ 1 (rcs [(⟨cl, ⟨ck, cn, cz, cs⟩⟩ : Rm.C)]) rfl (lit_srcr W1 (⟨cl, ⟨ck, cn, cz, cs⟩⟩ : Rm.C)) ?qa4 ?qb4 ?qc4 ?_)
            case qa4 => unfold maxLen; omega
            case qb4 => omega
            case qc4 => have := HB1.out.size; simp; omega
            intro v4 w4 hown hgrow hat
            rw [← rcs_append] at hown
            obtain ⟨a4, c4, rfl⟩ := own_formr hown
            have HO4 := Lib.hid hown
            have HB4 := Lib.hid ((HB1.out.alloc HB1.out.size (.cells #[.int .i64 cl, .int .i64 ck, .int .i64 cn, .int .i64 cz, .string cs] 38)).grown hgrow (by have := HB1.out.size; simp; omega) (fun i hi => (HO1.out.lt i hi).1))
            clear hown hgrow hat
            go_wp2
            go_roundw
            case rel => exact ⟨j + 1, k + 1, a4, c4, _, true, by omega, by go_num, (by first | rfl | trivial), (by first | rfl | trivial), by omega, HF, HO4, HB4⟩
            case measure => simp [Lib.intOf]; omega
          · have q9 : (cl != col) = true := by simpa using hcc
            have HF : Hid (R = (os ++ [(⟨cl, ⟨ck, cn, cz, cs⟩⟩ : Rm.C)]) ++ Rm.setF col ⟨vk, vn, vc, vs⟩ true (l.drop (j + 1))) := by
              show _ = _
              rw [HR.out, HST.out, if_neg (by simp), if_pos (.inl hcc)]; simp
            clear HR HST
            go_wp2_with (at_builtin; refine wpList_append_src _ rfl _ _ 22 22 rfl W0.heap.size 38 i0 zero5 5 48 Tryd.underlying22 HI0.out HZ0.out HZ1.out HZ2.out rfl (.slice aa (k) cc) (k) (rcs (os)) rfl (HO1.out.alloc _) _ 1 (rcs [(⟨cl, ⟨ck, cn, cz, cs⟩⟩ : Rm.C)]) rfl (lit_srcr W1 (⟨cl, ⟨ck, cn, cz, cs⟩⟩ : Rm.C)) ?qa4 ?qb4 ?qc4 ?_)
            case qa4 => unfold maxLen; omega
            case qb4 => omega
            case qc4 => have := HB1.out.size; simp; omega
            intro v4 w4 hown hgrow hat
            rw [← rcs_append] at hown
            obtain ⟨a4, c4, rfl⟩ := own_formr hown
            have HO4 := Lib.hid hown
            have HB4 := Lib.hid ((HB1.out.alloc HB1.out.size (.cells #[.int .i64 cl, .int .i64 ck, .int .i64 cn, .int .i64 cz, .string cs] 38)).grown hgrow (by have := HB1.out.size; simp; omega) (fun i hi => (HO1.out.lt i hi).1))
            clear hown hgrow hat
            go_wp2
            go_roundw
            case rel => exact ⟨j + 1, k + 1, a4, c4, _, true, by omega, by go_num, (by first | rfl | trivial), (by first | rfl | trivial), by omega, HF, HO4, HB4⟩
            case measure => simp [Lib.intOf]; omega
      · have hjn : j = l.length := by omega
        have HF : Hid (R = os ++ if i then [] else [⟨col, ⟨vk, vn, vc, vs⟩⟩]) := by
          show _ = _
          rw [HR.out, hjn, List.drop_length, setF_nil]
        clear hjn HR
        cases i
        · have hf : R = os ++ [⟨col, ⟨vk, vn, vc, vs⟩⟩] := by have := HF.out; simpa using this
          have HF2 := Lib.hid hf
          clear hf HF
          go_wp2_with (at_builtin; refine wpList_append_src _ rfl _ _ 22 22 rfl W0.heap.size 38 i0 zero5 5 48 Tryd.underlying22 HI0.out HZ0.out HZ1.out HZ2.out rfl (.slice aa (k) cc) (k) (rcs os) rfl (HO.out.alloc _) _ 1 (rcs [(⟨col, ⟨vk, vn, vc, vs⟩⟩ : Rm.C)]) rfl (lit_srcr wr (⟨col, ⟨vk, vn, vc, vs⟩⟩ : Rm.C)) ?qa4 ?qb4 ?qc4 ?_)
          case qa4 => unfold maxLen; omega
          case qb4 => omega
          case qc4 => have := HB.out.size; simp; omega
          intro v4 w4 hown hgrow hat
          rw [← rcs_append] at hown
          obtain ⟨a4, c4, rfl⟩ := own_formr hown
          have HO4 := Lib.hid hown
          have HB4 := Lib.hid ((HB.out.alloc HB.out.size (.cells #[.int .i64 col, .int .i64 vk, .int .i64 vn, .int .i64 vc, .string vs] 38)).grown hgrow (by have := HB.out.size; simp; omega) (fun i hi => (HO.out.lt i hi).1))
          clear hown hgrow hat
          go_wp2
          go_ret
          rw [HF2.out]
          exact ⟨a4, _, c4, rfl, own_lenr HO4.out, Rs.of_own HO4.out, HBW.out.trans (HB4.out.mono HBW.out.size)⟩

        · go_wp2
          go_ret
          have hf : R = os := by have := HF.out; simpa using this
          rw [hf]
          exact ⟨aa, k, cc, rfl, own_lenr HO.out, Rs.of_own HO.out, HBW.out.trans (HB.out.mono HBW.out.size)⟩
  by_cases hk : vk = 0
  · subst hk
    have HR0 : Hid (R = [] ++ Rm.setF col ⟨0, vn, vc, vs⟩ true (l.drop 0)) := by
      show _ = _
      rw [HRR.out]; simp [Rm.in0, Rm.fillB]
    obtain ⟨W0, hW0⟩ : ∃ W0, W0 = WB := ⟨_, rfl⟩
    have h00 : (0 : Int) ≤ col := by omega
    clear HRR
    go_enter Tryd.func21, Tryd.ntmps21
    go_upto_region 2 with (fail)
    rw [← HQ.out.2, ← HQ.out.1]
    go_wp2_with fail
    rw [← hW0] at HB0 HXB HVB ⊢
    have HBW := HB0; have HX0 := HXB; have HV := HVB
    clear HB0 HXB HVB b0 b1 b2 b3 hW0
    go_loopw [7, 8, 25] (fun pv bv iv wr => ∃ (j k : Nat) (aa : Option Addr) (cc : Nat) (os : List Rm.C) (i : Bool), j ≤ n ∧ iv = .int .i64 (j : Int) ∧ pv = .slice aa k cc ∧ bv = .bool i ∧ k ≤ 2 * j ∧ Hid (R = os ++ Rm.setF col ⟨0, vn, vc, vs⟩ i (l.drop j)) ∧ Hid (wr.ownsRow W0.heap.size 38 5 (.slice aa k cc) k (rcs os)) ∧ Hid (Below W0.heap.size W0 wr)) (fun _ _ iv _ => n - (Lib.intOf iv).toNat)
    case atStart => exact ⟨0, 0, none, 0, [], _, by omega, rfl, rfl, rfl, by omega, HR0.out, World.ownsRow_nil _ _ _ _, Below.refl _ _⟩
    case round =>
      clear HR0
      obtain ⟨j, k, aa, cc, os, i, hj, rfl, rfl, rfl, hkj, HR, HO, HB⟩ := hrel
      have hwr := HB.out.size
      have HX := Lib.hid (HX0.out.keep HB.out)
      have x0 := HX.out.bx.c0; have x1 := HX.out.bx.c1; have x2 := HX.out.bx.c2; have x3 := HX.out.bx.c3
      have hqw : q < wr.heap.size := HX.out.bx.lt
      clear HX
      by_cases hlt : j < n
      · have hjl : j < l.length := by omega
        obtain ⟨g, off, ha, -, hg, hb⟩ := (HV.out.keep HB.out).at j hjl
        have hst := setF_step hjl col ⟨0, vn, vc, vs⟩ i
        obtain ⟨c, hc⟩ : ∃ c, c = l[j] := ⟨_, rfl⟩
        rw [← hc] at hb hst
        subst ha
        obtain ⟨cl, ck, cn, cz, cs⟩ := c
        obtain ⟨c0, c1, c2, c3, c4⟩ := hb
        dsimp only at c0 c1 c2 c3 c4 hst
        have HST := Lib.hid hst
        clear hc hst
        obtain ⟨W1, hW1⟩ : ∃ W1, W1 = wr.alloc (.cells #[.int .i64 cl, .int .i64 ck, .int .i64 cn, .int .i64 cz, .string cs] 38) := ⟨_, rfl⟩
        obtain ⟨p, hp⟩ : ∃ p, p = wr.heap.size := ⟨_, rfl⟩
        have hbw : Below wr.heap.size wr W1 := by rw [hW1]; exact one_r _ _
        have HB1 := Lib.hid (HB.out.trans (hbw.mono hwr))
        have HO1 := Lib.hid (own_below11 HO.out hbw)
        have HLT : Hid (∀ i, (Value.slice aa k cc).ownBlock = some i → i < p) := fun i hi => by rw [hp]; exact (HO.out.lt i hi).2
        replace x0 := (hbw.cell (p := ⟨q, 0, none⟩) hqw).trans x0
        replace x1 := (hbw.cell (p := ⟨q, 1, none⟩) hqw).trans x1
        replace x2 := (hbw.cell (p := ⟨q, 2, none⟩) hqw).trans x2
        replace x3 := (hbw.cell (p := ⟨q, 3, none⟩) hqw).trans x3
        have y0 : W1.cell? ⟨p, 0, none⟩ = some (.int .i64 cl) := by rw [hW1, hp]; simp
        have y1 : W1.cell? ⟨p, 1, none⟩ = some (.int .i64 ck) := by rw [hW1, hp]; simp
        have y2 : W1.cell? ⟨p, 2, none⟩ = some (.int .i64 cn) := by rw [hW1, hp]; simp
        have y3 : W1.cell? ⟨p, 3, none⟩ = some (.int .i64 cz) := by rw [hW1, hp]; simp
        have y4 : W1.cell? ⟨p, 4, none⟩ = some (.string cs) := by rw [hW1, hp]; simp
        have HW1 : Hid (W1 = wr.alloc (.cells #[.int .i64 cl, .int .i64 ck, .int .i64 cn, .int .i64 cz, .string cs] 38) ∧ p = wr.heap.size) := ⟨hW1, hp⟩
        have hpw : p < W1.heap.size := by rw [hW1, hp]; simp
        clear hbw hW1 hp HB HO hqw
        cases i
        · by_cases hge : col ≤ cl
          · have hge2 : ¬ cl < col := by omega
            go_upto_region 6 with (fail)
            rw [← HW1.out.1, ← HW1.out.2]
            go_wp2_with (at_builtin; refine wpList_append_src _ rfl _ _ 22 22 rfl W0.heap.size 38 i0 zero5 5 48 Tryd.underlying22 HI0.out HZ0.out HZ1.out HZ2.out rfl (.slice aa (k) cc) (k) (rcs os) rfl (HO1.out.alloc _) _ 1 (rcs [(⟨col, ⟨0, vn, vc, vs⟩⟩ : Rm.C)]) rfl (lit_srcr W1 (⟨col, ⟨0, vn, vc, vs⟩⟩ : Rm.C)) ?qa2 ?qb2 ?qc2 ?_)
            case qa2 => unfold maxLen; omega
            case qb2 => omega
            case qc2 => have := HB1.out.size; simp; omega
            intro v2 w2 hown hgrow hat
            rw [← rcs_append] at hown
            obtain ⟨a2, c2, rfl⟩ := own_formr hown
            have HO2 := Lib.hid hown
            have HB2 := Lib.hid ((HB1.out.alloc HB1.out.size (.cells #[.int .i64 col, .int .i64 0, .int .i64 vn, .int .i64 vc, .string vs] 38)).grown hgrow (by have := HB1.out.size; simp; omega) (fun i hi => (HO1.out.lt i hi).1))
            have hfar : ∀ o u, W1.cell? ⟨p, o, none⟩ = some u → w2.cell? ⟨p, o, none⟩ = some u := fun o u hu => by
              rw [hgrow.cell_far ⟨p, o, none⟩ (by simp; omega) (fun e => by have := HLT.out p e.symm; omega)]
              exact ((one_r W1 _).cell (p := ⟨p, o, none⟩) hpw).trans hu
            have z0 := hfar 0 _ y0
            have z1 := hfar 1 _ y1
            have z2 := hfar 2 _ y2
            have z3 := hfar 3 _ y3
            have z4 := hfar 4 _ y4
            clear hfar
            clear hown hgrow hat
            clear HO1 HB1 HLT x0 x1 x2 x3 y0 y1 y2 y3 y4
            by_cases hcc : cl = col
            · subst hcc
              have hcn2 : (0 : Int) ≤ cl := h00
              have HF : Hid (R = (os ++ [(⟨cl, ⟨0, vn, vc, vs⟩⟩ : Rm.C)]) ++ Rm.setF cl ⟨0, vn, vc, vs⟩ true (l.drop (j + 1))) := by
                show _ = _
                rw [HR.out, HST.out, if_pos (by first | exact ⟨rfl, hge⟩ | exact ⟨trivial, hge⟩), if_neg (by omega)]; simp
              clear HR HST
              go_wp2
              go_roundw
              case rel => exact ⟨j + 1, k + 1, a2, c2, _, true, by omega, by go_num, (by first | rfl | trivial), (by first | rfl | trivial), by omega, HF, HO2, HB2⟩
              case measure => simp [Lib.intOf]; omega
            · have q9 : (cl != col) = true := by simpa using hcc
              have HF : Hid (R = (os ++ [(⟨col, ⟨0, vn, vc, vs⟩⟩ : Rm.C)] ++ [(⟨cl, ⟨ck, cn, cz, cs⟩⟩ : Rm.C)]) ++ Rm.setF col ⟨0, vn, vc, vs⟩ true (l.drop (j + 1))) := by
                show _ = _
                rw [HR.out, HST.out, if_pos (by first | exact ⟨rfl, hge⟩ | exact ⟨trivial, hge⟩), if_pos (.inl hcc)]; simp
              clear HR HST
              go_wp2_with (at_builtin; refine wpList_append_src _ rfl _ _ 22 22 rfl W0.heap.size 38 i0 zero5 5 48 Tryd.underlying22 HI0.out HZ0.out HZ1.out HZ2.out rfl (.slice a2 (k + 1) c2) (k + 1) (rcs (os ++ [(⟨col, ⟨0, vn, vc, vs⟩⟩ : Rm.C)])) rfl (HO2.out.alloc _) _ 1 (rcs [(⟨cl, ⟨ck, cn, cz, cs⟩⟩ : Rm.C)]) rfl (lit_srcr w2 (⟨cl, ⟨ck, cn, cz, cs⟩⟩ : Rm.C)) ?qa4 ?qb4 ?qc4 ?_)
              case qa4 => unfold maxLen; omega
              case qb4 => omega
              case qc4 => have := HB2.out.size; simp; omega
              intro v4 w4 hown hgrow hat
              rw [← rcs_append] at hown
              obtain ⟨a4, c4, rfl⟩ := own_formr hown
              have HO4 := Lib.hid hown
              have HB4 := Lib.hid ((HB2.out.alloc HB2.out.size (.cells #[.int .i64 cl, .int .i64 ck, .int .i64 cn, .int .i64 cz, .string cs] 38)).grown hgrow (by have := HB2.out.size; simp; omega) (fun i hi => (HO2.out.lt i hi).1))
              clear hown hgrow hat
              go_wp2
              go_roundw
              case rel => exact ⟨j + 1, k + 1 + 1, a4, c4, _, true, by omega, by go_num, (by first | rfl | trivial), (by first | rfl | trivial), by omega, HF, HO4, HB4⟩
              case measure => simp [Lib.intOf]; omega
          · have hlt2 : cl < col := by omega
            have hcc : cl ≠ col := by omega
            have q1 : (cl != col) = true := by simp; omega
            go_upto_region 6 with (fail)
            rw [← HW1.out.1, ← HW1.out.2]
            have HF : Hid (R = (os ++ [(⟨cl, ⟨ck, cn, cz, cs⟩⟩ : Rm.C)]) ++ Rm.setF col ⟨0, vn, vc, vs⟩ false (l.drop (j + 1))) := by
              show _ = _
              rw [HR.out, HST.out, if_neg (by omega), if_pos (.inl hcc)]; simp
            clear HR HST
            go_wp2_with (at_builtin; refine wpList_append_src _ rfl _ _ 22 22 rfl W0.heap.size 38 i0 zero5 5 48 Tryd.underlying22 HI0.out HZ0.out HZ1.out HZ2.out rfl (.slice aa (k) cc) (k) (rcs os) rfl (HO1.out.alloc _) _ 1 (rcs [(⟨cl, ⟨ck, cn, cz, cs⟩⟩ : Rm.C)]) rfl (lit_srcr W1 (⟨cl, ⟨ck, cn, cz, cs⟩⟩ : Rm.C)) ?qa4 ?qb4 ?qc4 ?_)
            case qa4 => unfold maxLen; omega
            case qb4 => omega
            case qc4 => have := HB1.out.size; simp; omega
            intro v4 w4 hown hgrow hat
            rw [← rcs_append] at hown
            obtain ⟨a4, c4, rfl⟩ := own_formr hown
            have HO4 := Lib.hid hown
            have HB4 := Lib.hid ((HB1.out.alloc HB1.out.size (.cells #[.int .i64 cl, .int .i64 ck, .int .i64 cn, .int .i64 cz, .string cs] 38)).grown hgrow (by have := HB1.out.size; simp; omega) (fun i hi => (HO1.out.lt i hi).1))
            clear hown hgrow hat
            go_wp2
            go_roundw
            case rel => exact ⟨j + 1, k + 1, a4, c4, _, false, by omega, by go_num, (by first | rfl | trivial), (by first | rfl | trivial), by omega, HF, HO4, HB4⟩
            case measure => simp [Lib.intOf]; omega
        · go_upto_region 6 with (fail)
          rw [← HW1.out.1, ← HW1.out.2]
          by_cases hcc : cl = col
          · subst hcc
            have hcn2 : (0 : Int) ≤ cl := h00
            have HF : Hid (R = (os) ++ Rm.setF cl ⟨0, vn, vc, vs⟩ true (l.drop (j + 1))) := by
              show _ = _
              rw [HR.out, HST.out, if_neg (by simp), if_neg (by omega)]; simp
            clear HR HST
            go_wp2
            go_roundw
            case rel => exact ⟨j + 1, k, aa, cc, _, true, by omega, by go_num, (by first | rfl | trivial), (by first | rfl | trivial), by omega, HF, HO1, HB1⟩
            case measure => simp [Lib.intOf]; omega
          · have q9 : (cl != col) = true := by simpa using hcc
            have HF : Hid (R = (os ++ [(⟨cl, ⟨ck, cn, cz, cs⟩⟩ : Rm.C)]) ++ Rm.setF col ⟨0, vn, vc, vs⟩ true (l.drop (j + 1))) := by
              show _ = _
              rw [HR.out, HST.out, if_neg (by simp), if_pos (.inl hcc)]; simp
            clear HR HST
            go_wp2_with (at_builtin; refine wpList_append_src _ rfl _ _ 22 22 rfl W0.heap.size 38 i0 zero5 5 48 Tryd.underlying22 HI0.out HZ0.out HZ1.out HZ2.out rfl (.slice aa (k) cc) (k) (rcs (os)) rfl (HO1.out.alloc _) _ 1 (rcs [(⟨cl, ⟨ck, cn, cz, cs⟩⟩ : Rm.C)]) rfl (lit_srcr W1 (⟨cl, ⟨ck, cn, cz, cs⟩⟩ : Rm.C)) ?qa4 ?qb4 ?qc4 ?_)
            case qa4 => unfold maxLen; omega
            case qb4 => omega
            case qc4 => have := HB1.out.size; simp; omega
            intro v4 w4 hown hgrow hat
            rw [← rcs_append] at hown
            obtain ⟨a4, c4, rfl⟩ := own_formr hown
            have HO4 := Lib.hid hown
            have HB4 := Lib.hid ((HB1.out.alloc HB1.out.size (.cells #[.int .i64 cl, .int .i64 ck, .int .i64 cn, .int .i64 cz, .string cs] 38)).grown hgrow (by have := HB1.out.size; simp; omega) (fun i hi => (HO1.out.lt i hi).1))
            clear hown hgrow hat
            go_wp2
            go_roundw
            case rel => exact ⟨j + 1, k + 1, a4, c4, _, true, by omega, by go_num, (by first | rfl | trivial), (by first | rfl | trivial), by omega, HF, HO4, HB4⟩
            case measure => simp [Lib.intOf]; omega
      · have hjn : j = l.length := by omega
        have HF : Hid (R = os ++ if i then [] else [⟨col, ⟨0, vn, vc, vs⟩⟩]) := by
          show _ = _
          rw [HR.out, hjn, List.drop_length, setF_nil]
        clear hjn HR
        cases i
        · have hf : R = os ++ [⟨col, ⟨0, vn, vc, vs⟩⟩] := by have := HF.out; simpa using this
          have HF2 := Lib.hid hf
          clear hf HF
          go_wp2_with (at_builtin; refine wpList_append_src _ rfl _ _ 22 22 rfl W0.heap.size 38 i0 zero5 5 48 Tryd.underlying22 HI0.out HZ0.out HZ1.out HZ2.out rfl (.slice aa (k) cc) (k) (rcs os) rfl (HO.out.alloc _) _ 1 (rcs [(⟨col, ⟨0, vn, vc, vs⟩⟩ : Rm.C)]) rfl (lit_srcr wr (⟨col, ⟨0, vn, vc, vs⟩⟩ : Rm.C)) ?qa4 ?qb4 ?qc4 ?_)
          case qa4 => unfold maxLen; omega
          case qb4 => omega
          case qc4 => have := HB.out.size; simp; omega
          intro v4 w4 hown hgrow hat
          rw [← rcs_append] at hown
          obtain ⟨a4, c4, rfl⟩ := own_formr hown
          have HO4 := Lib.hid hown
          have HB4 := Lib.hid ((HB.out.alloc HB.out.size (.cells #[.int .i64 col, .int .i64 0, .int .i64 vn, .int .i64 vc, .string vs] 38)).grown hgrow (by have := HB.out.size; simp; omega) (fun i hi => (HO.out.lt i hi).1))
          clear hown hgrow hat
          go_wp2
          go_ret
          rw [HF2.out]
          exact ⟨a4, _, c4, rfl, own_lenr HO4.out, Rs.of_own HO4.out, HBW.out.trans (HB4.out.mono HBW.out.size)⟩

        · go_wp2
          go_ret
          have hf : R = os := by have := HF.out; simpa using this
          rw [hf]
          exact ⟨aa, k, cc, rfl, own_lenr HO.out, Rs.of_own HO.out, HBW.out.trans (HB.out.mono HBW.out.size)⟩
  have qk : (vk == 0) = false := by simpa using hk
  have h00 : (0 : Int) ≤ col := by omega
  obtain ⟨f, hf⟩ : ∃ f, f = Vm.rightB ⟨vk, vn, vc, vs⟩ := ⟨_, rfl⟩
  have HF3 : Hid (Calls Tryd.prog 26 #[.agg #[.int .i64 vk, .int .i64 vn, .int .i64 vc, .string vs]] WB (Says f WB)) := by rw [hf]; exact ref3_right vk vn vc vs WB hz
  have HR1 : Hid (R = [] ++ Rm.setF col ⟨vk, vn, vc, vs⟩ (!f) (l.drop 0)) := by
    show _ = _
    rw [HRR.out, hf]; simp [Rm.in0, Rm.fillB, h0, hk]
  clear HRR hf hk
  go_enter Tryd.func21, Tryd.ntmps21
  go_upto_region 2 with (fail)
  rw [← HQ.out.2, ← HQ.out.1]
  go_wp2_with fail
  refine HF3.out.mono ?_
  rintro e W0 ⟨rfl, hb⟩
  have HBW := Lib.hid (HB0.out.trans (hb.mono HB0.out.size)); have HX0 := Lib.hid (HXB.out.keep hb); have HV := Lib.hid (HVB.out.keep hb)
  clear hb HB0 HXB HVB HF3 b0 b1 b2 b3
  cases f
  · have HR0 : Hid (R = [] ++ Rm.setF col ⟨vk, vn, vc, vs⟩ true (l.drop 0)) := HR1
    clear HR1
    go_wp2_with fail
    go_loopw [7, 8, 25] (fun pv bv iv wr => ∃ (j k : Nat) (aa : Option Addr) (cc : Nat) (os : List Rm.C) (i : Bool), j ≤ n ∧ iv = .int .i64 (j : Int) ∧ pv = .slice aa k cc ∧ bv = .bool i ∧ k ≤ 2 * j ∧ Hid (R = os ++ Rm.setF col ⟨vk, vn, vc, vs⟩ i (l.drop j)) ∧ Hid (wr.ownsRow W0.heap.size 38 5 (.slice aa k cc) k (rcs os)) ∧ Hid (Below W0.heap.size W0 wr)) (fun _ _ iv _ => n - (Lib.intOf iv).toNat)
    case atStart => exact ⟨0, 0, none, 0, [], _, by omega, rfl, rfl, rfl, by omega, HR0.out, World.ownsRow_nil _ _ _ _, Below.refl _ _⟩
    case round =>
      clear HR0
      obtain ⟨j, k, aa, cc, os, i, hj, rfl, rfl, rfl, hkj, HR, HO, HB⟩ := hrel
      have hwr := HB.out.size
      have HX := Lib.hid (HX0.out.keep HB.out)
      have x0 := HX.out.bx.c0; have x1 := HX.out.bx.c1; have x2 := HX.out.bx.c2; have x3 := HX.out.bx.c3
      have hqw : q < wr.heap.size := HX.out.bx.lt
      clear HX
      by_cases hlt : j < n
      · have hjl : j < l.length := by omega
        obtain ⟨g, off, ha, -, hg, hb⟩ := (HV.out.keep HB.out).at j hjl
        have hst := setF_step hjl col ⟨vk, vn, vc, vs⟩ i
        obtain ⟨c, hc⟩ : ∃ c, c = l[j] := ⟨_, rfl⟩
        rw [← hc] at hb hst
        subst ha
        obtain ⟨cl, ck, cn, cz, cs⟩ := c
        obtain ⟨c0, c1, c2, c3, c4⟩ := hb
        dsimp only at c0 c1 c2 c3 c4 hst
        have HST := Lib.hid hst
        clear hc hst
        obtain ⟨W1, hW1⟩ : ∃ W1, W1 = wr.alloc (.cells #[.int .i64 cl, .int .i64 ck, .int .i64 cn, .int .i64 cz, .string cs] 38) := ⟨_, rfl⟩
        obtain ⟨p, hp⟩ : ∃ p, p = wr.heap.size := ⟨_, rfl⟩
        have hbw : Below wr.heap.size wr W1 := by rw [hW1]; exact one_r _ _
        have HB1 := Lib.hid (HB.out.trans (hbw.mono hwr))
        have HO1 := Lib.hid (own_below11 HO.out hbw)
        have HLT : Hid (∀ i, (Value.slice aa k cc).ownBlock = some i → i < p) := fun i hi => by rw [hp]; exact (HO.out.lt i hi).2
        replace x0 := (hbw.cell (p := ⟨q, 0, none⟩) hqw).trans x0
        replace x1 := (hbw.cell (p := ⟨q, 1, none⟩) hqw).trans x1
        replace x2 := (hbw.cell (p := ⟨q, 2, none⟩) hqw).trans x2
        replace x3 := (hbw.cell (p := ⟨q, 3, none⟩) hqw).trans x3
        have y0 : W1.cell? ⟨p, 0, none⟩ = some (.int .i64 cl) := by rw [hW1, hp]; simp
        have y1 : W1.cell? ⟨p, 1, none⟩ = some (.int .i64 ck) := by rw [hW1, hp]; simp
        have y2 : W1.cell? ⟨p, 2, none⟩ = some (.int .i64 cn) := by rw [hW1, hp]; simp
        have y3 : W1.cell? ⟨p, 3, none⟩ = some (.int .i64 cz) := by rw [hW1, hp]; simp
        have y4 : W1.cell? ⟨p, 4, none⟩ = some (.string cs) := by rw [hW1, hp]; simp
        have HW1 : Hid (W1 = wr.alloc (.cells #[.int .i64 cl, .int .i64 ck, .int .i64 cn, .int .i64 cz, .string cs] 38) ∧ p = wr.heap.size) := ⟨hW1, hp⟩
        have hpw : p < W1.heap.size := by rw [hW1, hp]; simp
        clear hbw hW1 hp HB HO hqw
        cases i
        · by_cases hge : col ≤ cl
          · have hge2 : ¬ cl < col := by omega
            go_upto_region 6 with (fail)
            rw [← HW1.out.1, ← HW1.out.2]
            go_wp2_with (at_builtin; refine wpList_append_src _ rfl _ _ 22 22 rfl W0.heap.size 38 i0 zero5 5 48 Tryd.underlying22 HI0.out HZ0.out HZ1.out HZ2.out rfl (.slice aa (k) cc) (k) (rcs os) rfl (HO1.out.alloc _) _ 1 (rcs [(⟨col, ⟨vk, vn, vc, vs⟩⟩ : Rm.C)]) rfl (lit_srcr W1 (⟨col, ⟨vk, vn, vc, vs⟩⟩ : Rm.C)) ?qa2 ?qb2 ?qc2 ?_)
            case qa2 => unfold maxLen; omega
            case qb2 => omega
            case qc2 => have := HB1.out.size; simp; omega
            intro v2 w2 hown hgrow hat
            rw [← rcs_append] at hown
            obtain ⟨a2, c2, rfl⟩ := own_formr hown
            have HO2 := Lib.hid hown
            have HB2 := Lib.hid ((HB1.out.alloc HB1.out.size (.cells #[.int .i64 col, .int .i64 vk, .int .i64 vn, .int .i64 vc, .string vs] 38)).grown hgrow (by have := HB1.out.size; simp; omega) (fun i hi => (HO1.out.lt i hi).1))
            have hfar : ∀ o u, W1.cell? ⟨p, o, none⟩ = some u → w2.cell? ⟨p, o, none⟩ = some u := fun o u hu => by
              rw [hgrow.cell_far ⟨p, o, none⟩ (by simp; omega) (fun e => by have := HLT.out p e.symm; omega)]
              exact ((one_r W1 _).cell (p := ⟨p, o, none⟩) hpw).trans hu
            have z0 := hfar 0 _ y0
            have z1 := hfar 1 _ y1
            have z2 := hfar 2 _ y2
            have z3 := hfar 3 _ y3
            have z4 := hfar 4 _ y4
            clear hfar
            clear hown hgrow hat
            clear HO1 HB1 HLT x0 x1 x2 x3 y0 y1 y2 y3 y4
            by_cases hcc : cl = col
            · subst hcc
              have hcn2 : (0 : Int) ≤ cl := h00
              have HF : Hid (R = (os ++ [(⟨cl, ⟨vk, vn, vc, vs⟩⟩ : Rm.C)]) ++ Rm.setF cl ⟨vk, vn, vc, vs⟩ true (l.drop (j + 1))) := by
                show _ = _
                rw [HR.out, HST.out, if_pos (by first | exact ⟨rfl, hge⟩ | exact ⟨trivial, hge⟩), if_neg (by omega)]; simp
              clear HR HST
              go_wp2
              go_roundw
              case rel => exact ⟨j + 1, k + 1, a2, c2, _, true, by omega, by go_num, (by first | rfl | trivial), (by first | rfl | trivial), by omega, HF, HO2, HB2⟩
              case measure => simp [Lib.intOf]; omega
            · have q9 : (cl != col) = true := by simpa using hcc
              have HF : Hid (R = (os ++ [(⟨col, ⟨vk, vn, vc, vs⟩⟩ : Rm.C)] ++ [(⟨cl, ⟨ck, cn, cz, cs⟩⟩ : Rm.C)]) ++ Rm.setF col ⟨vk, vn, vc, vs⟩ true (l.drop (j + 1))) := by
                show _ = _
                rw [HR.out, HST.out, if_pos (by first | exact ⟨rfl, hge⟩ | exact ⟨trivial, hge⟩), if_pos (.inl hcc)]; simp
              clear HR HST
              go_wp2_with (at_builtin; refine wpList_append_src _ rfl _ _ 22 22 rfl W0.heap.size 38 i0 zero5 5 48 Tryd.underlying22 HI0.out HZ0.out HZ1.out HZ2.out rfl (.slice a2 (k + 1) c2) (k + 1) (rcs (os ++ [(⟨col, ⟨vk, vn, vc, vs⟩⟩ : Rm.C)])) rfl (HO2.out.alloc _) _ 1 (rcs [(⟨cl, ⟨ck, cn, cz, cs⟩⟩ : Rm.C)]) rfl (lit_srcr w2 (⟨cl, ⟨ck, cn, cz, cs⟩⟩ : Rm.C)) ?qa4 ?qb4 ?qc4 ?_)
              case qa4 => unfold maxLen; omega
              case qb4 => omega
              case qc4 => have := HB2.out.size; simp; omega
              intro v4 w4 hown hgrow hat
              rw [← rcs_append] at hown
              obtain ⟨a4, c4, rfl⟩ := own_formr hown
              have HO4 := Lib.hid hown
              have HB4 := Lib.hid ((HB2.out.alloc HB2.out.size (.cells #[.int .i64 cl, .int .i64 ck, .int .i64 cn, .int .i64 cz, .string cs] 38)).grown hgrow (by have := HB2.out.size; simp; omega) (fun i hi => (HO2.out.lt i hi).1))
              clear hown hgrow hat
              go_wp2
              go_roundw
              case rel => exact ⟨j + 1, k + 1 + 1, a4, c4, _, true, by omega, by go_num, (by first | rfl | trivial), (by first | rfl | trivial), by omega, HF, HO4, HB4⟩
              case measure => simp [Lib.intOf]; omega
          · have hlt2 : cl < col := by omega
            have hcc : cl ≠ col := by omega
            have q1 : (cl != col) = true := by simp; omega
            go_upto_region 6 with (fail)
            rw [← HW1.out.1, ← HW1.out.2]
            have HF : Hid (R = (os ++ [(⟨cl, ⟨ck, cn, cz, cs⟩⟩ : Rm.C)]) ++ Rm.setF col ⟨vk, vn, vc, vs⟩ false (l.drop (j + 1))) := by
              show _ = _
              rw [HR.out, HST.out, if_neg (by omega), if_pos (.inl hcc)]; simp
            clear HR HST
            go_wp2_with (at_builtin; refine wpList_append_src _ rfl _ _ 22 22 rfl W0.heap.size 38 i0 zero5 5 48 Tryd.underlying22 HI0.out HZ0.out HZ1.out HZ2.out rfl (.slice aa (k) cc) (k) (rcs os) rfl (HO1.out.alloc _) _ 1 (rcs [(⟨cl, ⟨ck, cn, cz, cs⟩⟩ : Rm.C)]) rfl (lit_srcr W1 (⟨cl, ⟨ck, cn, cz, cs⟩⟩ : Rm.C)) ?qa4 ?qb4 ?qc4 ?_)
            case qa4 => unfold maxLen; omega
            case qb4 => omega
            case qc4 => have := HB1.out.size; simp; omega
            intro v4 w4 hown hgrow hat
            rw [← rcs_append] at hown
            obtain ⟨a4, c4, rfl⟩ := own_formr hown
            have HO4 := Lib.hid hown
            have HB4 := Lib.hid ((HB1.out.alloc HB1.out.size (.cells #[.int .i64 cl, .int .i64 ck, .int .i64 cn, .int .i64 cz, .string cs] 38)).grown hgrow (by have := HB1.out.size; simp; omega) (fun i hi => (HO1.out.lt i hi).1))
            clear hown hgrow hat
            go_wp2
            go_roundw
            case rel => exact ⟨j + 1, k + 1, a4, c4, _, false, by omega, by go_num, (by first | rfl | trivial), (by first | rfl | trivial), by omega, HF, HO4, HB4⟩
            case measure => simp [Lib.intOf]; omega
        · go_upto_region 6 with (fail)
          rw [← HW1.out.1, ← HW1.out.2]
          by_cases hcc : cl = col
          · subst hcc
            have hcn2 : (0 : Int) ≤ cl := h00
            have HF : Hid (R = (os) ++ Rm.setF cl ⟨vk, vn, vc, vs⟩ true (l.drop (j + 1))) := by
              show _ = _
              rw [HR.out, HST.out, if_neg (by simp), if_neg (by omega)]; simp
            clear HR HST
            go_wp2
            go_roundw
            case rel => exact ⟨j + 1, k, aa, cc, _, true, by omega, by go_num, (by first | rfl | trivial), (by first | rfl | trivial), by omega, HF, HO1, HB1⟩
            case measure => simp [Lib.intOf]; omega
          · have q9 : (cl != col) = true := by simpa using hcc
            have HF : Hid (R = (os ++ [(⟨cl, ⟨ck, cn, cz, cs⟩⟩ : Rm.C)]) ++ Rm.setF col ⟨vk, vn, vc, vs⟩ true (l.drop (j + 1))) := by
              show _ = _
              rw [HR.out, HST.out, if_neg (by simp), if_pos (.inl hcc)]; simp
            clear HR HST
            go_wp2_with (at_builtin; refine wpList_append_src _ rfl _ _ 22 22 rfl W0.heap.size 38 i0 zero5 5 48 Tryd.underlying22 HI0.out HZ0.out HZ1.out HZ2.out rfl (.slice aa (k) cc) (k) (rcs (os)) rfl (HO1.out.alloc _) _ 1 (rcs [(⟨cl, ⟨ck, cn, cz, cs⟩⟩ : Rm.C)]) rfl (lit_srcr W1 (⟨cl, ⟨ck, cn, cz, cs⟩⟩ : Rm.C)) ?qa4 ?qb4 ?qc4 ?_)
            case qa4 => unfold maxLen; omega
            case qb4 => omega
            case qc4 => have := HB1.out.size; simp; omega
            intro v4 w4 hown hgrow hat
            rw [← rcs_append] at hown
            obtain ⟨a4, c4, rfl⟩ := own_formr hown
            have HO4 := Lib.hid hown
            have HB4 := Lib.hid ((HB1.out.alloc HB1.out.size (.cells #[.int .i64 cl, .int .i64 ck, .int .i64 cn, .int .i64 cz, .string cs] 38)).grown hgrow (by have := HB1.out.size; simp; omega) (fun i hi => (HO1.out.lt i hi).1))
            clear hown hgrow hat
            go_wp2
            go_roundw
            case rel => exact ⟨j + 1, k + 1, a4, c4, _, true, by omega, by go_num, (by first | rfl | trivial), (by first | rfl | trivial), by omega, HF, HO4, HB4⟩
            case measure => simp [Lib.intOf]; omega
      · have hjn : j = l.length := by omega
        have HF : Hid (R = os ++ if i then [] else [⟨col, ⟨vk, vn, vc, vs⟩⟩]) := by
          show _ = _
          rw [HR.out, hjn, List.drop_length, setF_nil]
        clear hjn HR
        cases i
        · have hf : R = os ++ [⟨col, ⟨vk, vn, vc, vs⟩⟩] := by have := HF.out; simpa using this
          have HF2 := Lib.hid hf
          clear hf HF
          go_wp2_with (at_builtin; refine wpList_append_src _ rfl _ _ 22 22 rfl W0.heap.size 38 i0 zero5 5 48 Tryd.underlying22 HI0.out HZ0.out HZ1.out HZ2.out rfl (.slice aa (k) cc) (k) (rcs os) rfl (HO.out.alloc _) _ 1 (rcs [(⟨col, ⟨vk, vn, vc, vs⟩⟩ : Rm.C)]) rfl (lit_srcr wr (⟨col, ⟨vk, vn, vc, vs⟩⟩ : Rm.C)) ?qa4 ?qb4 ?qc4 ?_)
          case qa4 => unfold maxLen; omega
          case qb4 => omega
          case qc4 => have := HB.out.size; simp; omega
          intro v4 w4 hown hgrow hat
          rw [← rcs_append] at hown
          obtain ⟨a4, c4, rfl⟩ := own_formr hown
          have HO4 := Lib.hid hown
          have HB4 := Lib.hid ((HB.out.alloc HB.out.size (.cells #[.int .i64 col, .int .i64 vk, .int .i64 vn, .int .i64 vc, .string vs] 38)).grown hgrow (by have := HB.out.size; simp; omega) (fun i hi => (HO.out.lt i hi).1))
          clear hown hgrow hat
          go_wp2
          go_ret
          rw [HF2.out]
          exact ⟨a4, _, c4, rfl, own_lenr HO4.out, Rs.of_own HO4.out, HBW.out.trans (HB4.out.mono HBW.out.size)⟩

        · go_wp2
          go_ret
          have hf : R = os := by have := HF.out; simpa using this
          rw [hf]
          exact ⟨aa, k, cc, rfl, own_lenr HO.out, Rs.of_own HO.out, HBW.out.trans (HB.out.mono HBW.out.size)⟩
  · have HR0 : Hid (R = [] ++ Rm.setF col ⟨vk, vn, vc, vs⟩ false (l.drop 0)) := HR1
    clear HR1
    go_wp2_with fail
    go_loopw [7, 8, 25] (fun pv bv iv wr => ∃ (j k : Nat) (aa : Option Addr) (cc : Nat) (os : List Rm.C) (i : Bool), j ≤ n ∧ iv = .int .i64 (j : Int) ∧ pv = .slice aa k cc ∧ bv = .bool i ∧ k ≤ 2 * j ∧ Hid (R = os ++ Rm.setF col ⟨vk, vn, vc, vs⟩ i (l.drop j)) ∧ Hid (wr.ownsRow W0.heap.size 38 5 (.slice aa k cc) k (rcs os)) ∧ Hid (Below W0.heap.size W0 wr)) (fun _ _ iv _ => n - (Lib.intOf iv).toNat)
    case atStart => exact ⟨0, 0, none, 0, [], _, by omega, rfl, rfl, rfl, by omega, HR0.out, World.ownsRow_nil _ _ _ _, Below.refl _ _⟩
    case round =>
      clear HR0
      obtain ⟨j, k, aa, cc, os, i, hj, rfl, rfl, rfl, hkj, HR, HO, HB⟩ := hrel
      have hwr := HB.out.size
      have HX := Lib.hid (HX0.out.keep HB.out)
      have x0 := HX.out.bx.c0; have x1 := HX.out.bx.c1; have x2 := HX.out.bx.c2; have x3 := HX.out.bx.c3
      have hqw : q < wr.heap.size := HX.out.bx.lt
      clear HX
      by_cases hlt : j < n
      · have hjl : j < l.length := by omega
        obtain ⟨g, off, ha, -, hg, hb⟩ := (HV.out.keep HB.out).at j hjl
        have hst := setF_step hjl col ⟨vk, vn, vc, vs⟩ i
        obtain ⟨c, hc⟩ : ∃ c, c = l[j] := ⟨_, rfl⟩
        rw [← hc] at hb hst
        subst ha
        obtain ⟨cl, ck, cn, cz, cs⟩ := c
        obtain ⟨c0, c1, c2, c3, c4⟩ := hb
        dsimp only at c0 c1 c2 c3 c4 hst
        have HST := Lib.hid hst
        clear hc hst
        obtain ⟨W1, hW1⟩ : ∃ W1, W1 = wr.alloc (.cells #[.int .i64 cl, .int .i64 ck, .int .i64 cn, .int .i64 cz, .string cs] 38) := ⟨_, rfl⟩
        obtain ⟨p, hp⟩ : ∃ p, p = wr.heap.size := ⟨_, rfl⟩
        have hbw : Below wr.heap.size wr W1 := by rw [hW1]; exact one_r _ _
        have HB1 := Lib.hid (HB.out.trans (hbw.mono hwr))
        have HO1 := Lib.hid (own_below11 HO.out hbw)
        have HLT : Hid (∀ i, (Value.slice aa k cc).ownBlock = some i → i < p) := fun i hi => by rw [hp]; exact (HO.out.lt i hi).2
        replace x0 := (hbw.cell (p := ⟨q, 0, none⟩) hqw).trans x0
        replace x1 := (hbw.cell (p := ⟨q, 1, none⟩) hqw).trans x1
        replace x2 := (hbw.cell (p := ⟨q, 2, none⟩) hqw).trans x2
        replace x3 := (hbw.cell (p := ⟨q, 3, none⟩) hqw).trans x3
        have y0 : W1.cell? ⟨p, 0, none⟩ = some (.int .i64 cl) := by rw [hW1, hp]; simp
        have y1 : W1.cell? ⟨p, 1, none⟩ = some (.int .i64 ck) := by rw [hW1, hp]; simp
        have y2 : W1.cell? ⟨p, 2, none⟩ = some (.int .i64 cn) := by rw [hW1, hp]; simp
        have y3 : W1.cell? ⟨p, 3, none⟩ = some (.int .i64 cz) := by rw [hW1, hp]; simp
        have y4 : W1.cell? ⟨p, 4, none⟩ = some (.string cs) := by rw [hW1, hp]; simp
        have HW1 : Hid (W1 = wr.alloc (.cells #[.int .i64 cl, .int .i64 ck, .int .i64 cn, .int .i64 cz, .string cs] 38) ∧ p = wr.heap.size) := ⟨hW1, hp⟩
        have hpw : p < W1.heap.size := by rw [hW1, hp]; simp
        clear hbw hW1 hp HB HO hqw
        cases i
        · by_cases hge : col ≤ cl
          · have hge2 : ¬ cl < col := by omega
            go_upto_region 6 with (fail)
            rw [← HW1.out.1, ← HW1.out.2]
            go_wp2_with (at_builtin; refine wpList_append_src _ rfl _ _ 22 22 rfl W0.heap.size 38 i0 zero5 5 48 Tryd.underlying22 HI0.out HZ0.out HZ1.out HZ2.out rfl (.slice aa (k) cc) (k) (rcs os) rfl (HO1.out.alloc _) _ 1 (rcs [(⟨col, ⟨vk, vn, vc, vs⟩⟩ : Rm.C)]) rfl (lit_srcr W1 (⟨col, ⟨vk, vn, vc, vs⟩⟩ : Rm.C)) ?qa2 ?qb2 ?qc2 ?_)
            case qa2 => unfold maxLen; omega
            case qb2 => omega
            case qc2 => have := HB1.out.size; simp; omega
            intro v2 w2 hown hgrow hat
            rw [← rcs_append] at hown
            obtain ⟨a2, c2, rfl⟩ := own_formr hown
            have HO2 := Lib.hid hown
            have HB2 := Lib.hid ((HB1.out.alloc HB1.out.size (.cells #[.int .i64 col, .int .i64 vk, .int .i64 vn, .int .i64 vc, .string vs] 38)).grown hgrow (by have := HB1.out.size; simp; omega) (fun i hi => (HO1.out.lt i hi).1))
            have hfar : ∀ o u, W1.cell? ⟨p, o, none⟩ = some u → w2.cell? ⟨p, o, none⟩ = some u := fun o u hu => by
              rw [hgrow.cell_far ⟨p, o, none⟩ (by simp; omega) (fun e => by have := HLT.out p e.symm; omega)]
              exact ((one_r W1 _).cell (p := ⟨p, o, none⟩) hpw).trans hu
            have z0 := hfar 0 _ y0
            have z1 := hfar 1 _ y1
            have z2 := hfar 2 _ y2
            have z3 := hfar 3 _ y3
            have z4 := hfar 4 _ y4
            clear hfar
            clear hown hgrow hat
            clear HO1 HB1 HLT x0 x1 x2 x3 y0 y1 y2 y3 y4
            by_cases hcc : cl = col
            · subst hcc
              have hcn2 : (0 : Int) ≤ cl := h00
              have HF : Hid (R = (os ++ [(⟨cl, ⟨vk, vn, vc, vs⟩⟩ : Rm.C)]) ++ Rm.setF cl ⟨vk, vn, vc, vs⟩ true (l.drop (j + 1))) := by
                show _ = _
                rw [HR.out, HST.out, if_pos (by first | exact ⟨rfl, hge⟩ | exact ⟨trivial, hge⟩), if_neg (by omega)]; simp
              clear HR HST
              go_wp2
              go_roundw
              case rel => exact ⟨j + 1, k + 1, a2, c2, _, true, by omega, by go_num, (by first | rfl | trivial), (by first | rfl | trivial), by omega, HF, HO2, HB2⟩
              case measure => simp [Lib.intOf]; omega
            · have q9 : (cl != col) = true := by simpa using hcc
              have HF : Hid (R = (os ++ [(⟨col, ⟨vk, vn, vc, vs⟩⟩ : Rm.C)] ++ [(⟨cl, ⟨ck, cn, cz, cs⟩⟩ : Rm.C)]) ++ Rm.setF col ⟨vk, vn, vc, vs⟩ true (l.drop (j + 1))) := by
                show _ = _
                rw [HR.out, HST.out, if_pos (by first | exact ⟨rfl, hge⟩ | exact ⟨trivial, hge⟩), if_pos (.inl hcc)]; simp
              clear HR HST
              go_wp2_with (at_builtin; refine wpList_append_src _ rfl _ _ 22 22 rfl W0.heap.size 38 i0 zero5 5 48 Tryd.underlying22 HI0.out HZ0.out HZ1.out HZ2.out rfl (.slice a2 (k + 1) c2) (k + 1) (rcs (os ++ [(⟨col, ⟨vk, vn, vc, vs⟩⟩ : Rm.C)])) rfl (HO2.out.alloc _) _ 1 (rcs [(⟨cl, ⟨ck, cn, cz, cs⟩⟩ : Rm.C)]) rfl (lit_srcr w2 (⟨cl, ⟨ck, cn, cz, cs⟩⟩ : Rm.C)) ?qa4 ?qb4 ?qc4 ?_)
              case qa4 => unfold maxLen; omega
              case qb4 => omega
              case qc4 => have := HB2.out.size; simp; omega
              intro v4 w4 hown hgrow hat
              rw [← rcs_append] at hown
              obtain ⟨a4, c4, rfl⟩ := own_formr hown
              have HO4 := Lib.hid hown
              have HB4 := Lib.hid ((HB2.out.alloc HB2.out.size (.cells #[.int .i64 cl, .int .i64 ck, .int .i64 cn, .int .i64 cz, .string cs] 38)).grown hgrow (by have := HB2.out.size; simp; omega) (fun i hi => (HO2.out.lt i hi).1))
              clear hown hgrow hat
              go_wp2
              go_roundw
              case rel => exact ⟨j + 1, k + 1 + 1, a4, c4, _, true, by omega, by go_num, (by first | rfl | trivial), (by first | rfl | trivial), by omega, HF, HO4, HB4⟩
              case measure => simp [Lib.intOf]; omega
          · have hlt2 : cl < col := by omega
            have hcc : cl ≠ col := by omega
            have q1 : (cl != col) = true := by simp; omega
            go_upto_region 6 with (fail)
            rw [← HW1.out.1, ← HW1.out.2]
            have HF : Hid (R = (os ++ [(⟨cl, ⟨ck, cn, cz, cs⟩⟩ : Rm.C)]) ++ Rm.setF col ⟨vk, vn, vc, vs⟩ false (l.drop (j + 1))) := by
              show _ = _
              rw [HR.out, HST.out, if_neg (by omega), if_pos (.inl hcc)]; simp
            clear HR HST
            go_wp2_with (at_builtin; refine wpList_append_src _ rfl _ _ 22 22 rfl W0.heap.size 38 i0 zero5 5 48 Tryd.underlying22 HI0.out HZ0.out HZ1.out HZ2.out rfl (.slice aa (k) cc) (k) (rcs os) rfl (HO1.out.alloc _) _ 1 (rcs [(⟨cl, ⟨ck, cn, cz, cs⟩⟩ : Rm.C)]) rfl (lit_srcr W1 (⟨cl, ⟨ck, cn, cz, cs⟩⟩ : Rm.C)) ?qa4 ?qb4 ?qc4 ?_)
            case qa4 => unfold maxLen; omega
            case qb4 => omega
            case qc4 => have := HB1.out.size; simp; omega
            intro v4 w4 hown hgrow hat
            rw [← rcs_append] at hown
            obtain ⟨a4, c4, rfl⟩ := own_formr hown
            have HO4 := Lib.hid hown
            have HB4 := Lib.hid ((HB1.out.alloc HB1.out.size (.cells #[.int .i64 cl, .int .i64 ck, .int .i64 cn, .int .i64 cz, .string cs] 38)).grown hgrow (by have := HB1.out.size; simp; omega) (fun i hi => (HO1.out.lt i hi).1))
            clear hown hgrow hat
            go_wp2
            go_roundw
            case rel => exact ⟨j + 1, k + 1, a4, c4, _, false, by omega, by go_num, (by first | rfl | trivial), (by first | rfl | trivial), by omega, HF, HO4, HB4⟩
            case measure => simp [Lib.intOf]; omega
        · go_upto_region 6 with (fail)
          rw [← HW1.out.1, ← HW1.out.2]
          by_cases hcc : cl = col
          · subst hcc
            have hcn2 : (0 : Int) ≤ cl := h00
            have HF : Hid (R = (os) ++ Rm.setF cl ⟨vk, vn, vc, vs⟩ true (l.drop (j + 1))) := by
              show _ = _
              rw [HR.out, HST.out, if_neg (by simp), if_neg (by omega)]; simp
            clear HR HST
            go_wp2
            go_roundw
            case rel => exact ⟨j + 1, k, aa, cc, _, true, by omega, by go_num, (by first | rfl | trivial), (by first | rfl | trivial), by omega, HF, HO1, HB1⟩
            case measure => simp [Lib.intOf]; omega
          · have q9 : (cl != col) = true := by simpa using hcc
            have HF : Hid (R = (os ++ [(⟨cl, ⟨ck, cn, cz, cs⟩⟩ : Rm.C)]) ++ Rm.setF col ⟨vk, vn, vc, vs⟩ true (l.drop (j + 1))) := by
              show _ = _
              rw [HR.out, HST.out, if_neg (by simp), if_pos (.inl hcc)]; simp
            clear HR HST
            go_wp2_with (at_builtin; refine wpList_append_src _ rfl _ _ 22 22 rfl W0.heap.size 38 i0 zero5 5 48 Tryd.underlying22 HI0.out HZ0.out HZ1.out HZ2.out rfl (.slice aa (k) cc) (k) (rcs (os)) rfl (HO1.out.alloc _) _ 1 (rcs [(⟨cl, ⟨ck, cn, cz, cs⟩⟩ : Rm.C)]) rfl (lit_srcr W1 (⟨cl, ⟨ck, cn, cz, cs⟩⟩ : Rm.C)) ?qa4 ?qb4 ?qc4 ?_)
            case qa4 => unfold maxLen; omega
            case qb4 => omega
            case qc4 => have := HB1.out.size; simp; omega
            intro v4 w4 hown hgrow hat
            rw [← rcs_append] at hown
            obtain ⟨a4, c4, rfl⟩ := own_formr hown
            have HO4 := Lib.hid hown
            have HB4 := Lib.hid ((HB1.out.alloc HB1.out.size (.cells #[.int .i64 cl, .int .i64 ck, .int .i64 cn, .int .i64 cz, .string cs] 38)).grown hgrow (by have := HB1.out.size; simp; omega) (fun i hi => (HO1.out.lt i hi).1))
            clear hown hgrow hat
            go_wp2
            go_roundw
            case rel => exact ⟨j + 1, k + 1, a4, c4, _, true, by omega, by go_num, (by first | rfl | trivial), (by first | rfl | trivial), by omega, HF, HO4, HB4⟩
            case measure => simp [Lib.intOf]; omega
      · have hjn : j = l.length := by omega
        have HF : Hid (R = os ++ if i then [] else [⟨col, ⟨vk, vn, vc, vs⟩⟩]) := by
          show _ = _
          rw [HR.out, hjn, List.drop_length, setF_nil]
        clear hjn HR
        cases i
        · have hf : R = os ++ [⟨col, ⟨vk, vn, vc, vs⟩⟩] := by have := HF.out; simpa using this
          have HF2 := Lib.hid hf
          clear hf HF
          go_wp2_with (at_builtin; refine wpList_append_src _ rfl _ _ 22 22 rfl W0.heap.size 38 i0 zero5 5 48 Tryd.underlying22 HI0.out HZ0.out HZ1.out HZ2.out rfl (.slice aa (k) cc) (k) (rcs os) rfl (HO.out.alloc _) _ 1 (rcs [(⟨col, ⟨vk, vn, vc, vs⟩⟩ : Rm.C)]) rfl (lit_srcr wr (⟨col, ⟨vk, vn, vc, vs⟩⟩ : Rm.C)) ?qa4 ?qb4 ?qc4 ?_)
          case qa4 => unfold maxLen; omega
          case qb4 => omega
          case qc4 => have := HB.out.size; simp; omega
          intro v4 w4 hown hgrow hat
          rw [← rcs_append] at hown
          obtain ⟨a4, c4, rfl⟩ := own_formr hown
          have HO4 := Lib.hid hown
          have HB4 := Lib.hid ((HB.out.alloc HB.out.size (.cells #[.int .i64 col, .int .i64 vk, .int .i64 vn, .int .i64 vc, .string vs] 38)).grown hgrow (by have := HB.out.size; simp; omega) (fun i hi => (HO.out.lt i hi).1))
          clear hown hgrow hat
          go_wp2
          go_ret
          rw [HF2.out]
          exact ⟨a4, _, c4, rfl, own_lenr HO4.out, Rs.of_own HO4.out, HBW.out.trans (HB4.out.mono HBW.out.size)⟩

        · go_wp2
          go_ret
          have hf : R = os := by have := HF.out; simpa using this
          rw [hf]
          exact ⟨aa, k, cc, rfl, own_lenr HO.out, Rs.of_own HO.out, HBW.out.trans (HB.out.mono HBW.out.size)⟩
end Go.Proofs.YtmipomglbccjbaaDoor
