/- RowSets walked. -/
import Derived.Test.YtmipomglbccjbaaDoorRowW0
import Derived.Test.YtmipomglbccjbaaDoorRowW2
import Derived.Test.YtmipomglbccjbaaDoorRowGc
import Derived.Test.YtmipomglbccjbaaDoorRowC7
import Derived.Deep.RegionHeld3
namespace Go.Proofs.YtmipomglbccjbaaDoor
open Go.RowKit

/-- a cell in a block of its own -/
structure Cx (g : Nat) (c : Rm.C) (W : World) : Prop where
  c0 : W.cell? ⟨g, 0, none⟩ = some (.int .i64 c.col)
  c1 : W.cell? ⟨g, 1, none⟩ = some (.int .i64 c.v.k)
  c2 : W.cell? ⟨g, 2, none⟩ = some (.int .i64 c.v.n)
  c3 : W.cell? ⟨g, 3, none⟩ = some (.int .i64 c.v.sc)
  c4 : W.cell? ⟨g, 4, none⟩ = some (.string c.v.s)
  lt : g < W.heap.size
theorem Cx.keep {g : Nat} {c : Rm.C} {W W' : World} (h : Cx g c W) (hb : Below W.heap.size W W') : Cx g c W' :=
  ⟨(hb.cell (p := ⟨g, 0, none⟩) h.lt).trans h.c0, (hb.cell (p := ⟨g, 1, none⟩) h.lt).trans h.c1, (hb.cell (p := ⟨g, 2, none⟩) h.lt).trans h.c2, (hb.cell (p := ⟨g, 3, none⟩) h.lt).trans h.c3, (hb.cell (p := ⟨g, 4, none⟩) h.lt).trans h.c4, by have := hb.size; have := h.lt; omega⟩
theorem Cx.new (w : World) (c : Rm.C) : Cx w.heap.size c (w.alloc (.cells #[.int .i64 c.col, .int .i64 c.v.k, .int .i64 c.v.n, .int .i64 c.v.sc, .string c.v.s] 38)) :=
  ⟨by simp, by simp, by simp, by simp, by simp, by simp⟩
/-- what RowSets looks at -/
structure Ws11 (w : World) (r : Value) (l : List Rm.C) (k : Value) (ks : List Int) (g : Nat) (c : Rm.C) (W : World) : Prop where
  r : Rs r l W
  k : It k ks W
  c : Cx g c W
  env : EnvV W
  bel : Below w.heap.size w W
theorem Ws11.keep {w w1 w2 : World} {r k : Value} {l : List Rm.C} {ks : List Int} {g : Nat} {c : Rm.C} (h : Ws11 w r l k ks g c w1) (hb : Below w1.heap.size w1 w2) : Ws11 w r l k ks g c w2 :=
  ⟨h.r.keep hb, h.k.keep hb, h.c.keep hb, h.env.keep hb, h.bel.trans (hb.mono h.bel.size)⟩

set_option maxHeartbeats 8000000 in
set_option maxRecDepth 100000 in
theorem walk_sets11 (a b : Option Addr) (n m cap cb : Nat) (l : List Rm.C) (c : Rm.C) (ks : List Int) (w : World) (he : EnvV w) (hv : Rs (.slice a n cap) l w) (hk : It (.slice b m cb) ks w) (hn : n ≤ maxLen) (hm : m ≤ maxLen) (hi : ∀ c ∈ l, RowOk c) (hc : RowOk c) :
    Calls Tryd.prog 5 #[.slice a n cap, .agg #[.int .i64 c.col, .int .i64 c.v.k, .int .i64 c.v.n, .int .i64 c.v.sc, .string c.v.s], .slice b m cb] w (Says true w) := by
  obtain ⟨i0, hi0, hz0, hz1, hz2⟩ := info_of11 info5r
  have HI0 := Lib.hid hi0; have HZ0 := Lib.hid hz0; have HZ1 := Lib.hid hz1; have HZ2 := Lib.hid hz2
  have hnl : n = l.length := by obtain ⟨b, d, e⟩ := hv.form; injection e
  obtain ⟨g, hg⟩ : ∃ g, g = w.heap.size := ⟨_, rfl⟩
  obtain ⟨W0, hW0⟩ : ∃ W0, W0 = w.alloc (.cells #[.int .i64 c.col, .int .i64 c.v.k, .int .i64 c.v.n, .int .i64 c.v.sc, .string c.v.s] 38) := ⟨_, rfl⟩
  have hb0 : Below w.heap.size w W0 := by rw [hW0]; exact one_r _ _
  have S0 : Hid (Ws11 w (.slice a n cap) l (.slice b m cb) ks g c W0) := ⟨hv.keep hb0, hk.keep hb0, by rw [hW0, hg]; exact Cx.new w c, he.keep hb0, hb0⟩
  have HF := Lib.hid (first11_true W0 S0.out.env)
  have HQ : Hid (W0 = w.alloc (.cells #[.int .i64 c.col, .int .i64 c.v.k, .int .i64 c.v.n, .int .i64 c.v.sc, .string c.v.s] 38) ∧ g = w.heap.size) := ⟨hW0, hg⟩
  have HI := Lib.hid hi
  have HCO := Lib.hid hc
  have HNL := Lib.hid hnl
  have HMX := Lib.hid hn
  have hss := hc.s
  unfold maxLen at hm hss
  clear he hv hk hi hc hnl hn hb0 hW0 hg hi0 hz0 hz1 hz2
  obtain ⟨cl, ck, cn, cz, cs⟩ := c
  dsimp only at HQ hss ⊢
  go_enter Tryd.func5, Tryd.ntmps5
  go_wp2_with (rw [← HQ.out.1, ← HQ.out.2])
  refine HF.out.mono ?_
  rintro e w1 ⟨rfl, hb⟩
  have S1 := Lib.hid (S0.out.keep hb)
  clear hb S0 HF
  have HLG := Lib.hid (law11_long a n cap l w1 S1.out.r HMX.out (fun c hc => (HI.out c hc).s))
  go_wp2_with fail
  refine HLG.out.mono ?_
  rintro e w2 ⟨bl, rfl, hb, hlong⟩
  have S2 := Lib.hid (S1.out.keep hb)
  clear hb HLG S1
  by_cases hbl : bl = true
  · subst hbl
    clear hlong
    go_wp2
    go_ret
    exact Says.mk rfl S2.out.bel
  obtain rfl : bl = false := by simpa using hbl
  obtain ⟨h50, h500⟩ := hlong rfl
  have hn50 : n ≤ 50 := by rw [HNL.out]; exact h50
  have HSZ := Lib.hid h500
  have x4 := S2.out.c.c4
  clear hlong hbl h500
  by_cases hcs : 500 < cs.size
  · have hcsI : (500 : Int) < (cs.size : Int) := by omega
    go_wp2
    go_ret
    exact Says.mk rfl S2.out.bel
  have hcsI : ¬ (500 : Int) < (cs.size : Int) := by omega
  by_cases hmm : 50 < m
  · have hmmI : (50 : Int) < (m : Int) := by omega
    go_wp2
    go_ret
    exact Says.mk rfl S2.out.bel
  have hmmI : ¬ (50 : Int) < (m : Int) := by omega
  have hmk0 := run_make_own (P := Tryd.prog) w2 w2.heap.size 22 38 i0 zero5 5 Tryd.underlying22 HI0.out HZ0.out HZ1.out .i64 .i64 (n + 9) (by rw [HZ2.out]; omega) (by unfold maxLen; omega) (Nat.le_refl _)
  obtain ⟨wm, hrun, hownm, hgrm⟩ := hmk0
  have hcast : ((n + 9 : Nat) : Int) = (n : Int) + 9 := by omega
  rw [hcast] at hrun
  have HOM := Lib.hid hownm
  have hbm : Below w2.heap.size w2 wm := (Below.refl _ w2).grown hgrm (Nat.le_refl _) (fun k hk => by cases hk)
  have SM := Lib.hid (S2.out.keep hbm)
  have hwm := hbm.size
  have HSRC : Hid (Src Tryd.prog 5 22 (.slice a n cap) n (rcs l) wm) := by
    have := SM.out.r.src
    rwa [← HNL.out] at this
  have HBM := Lib.hid hbm
  clear hcast hownm hgrm hbm
  go_wp2_with (at_builtin; refine wpList_append_src _ rfl _ _ 22 22 rfl w2.heap.size 38 i0 zero5 5 48 Tryd.underlying22 HI0.out HZ0.out HZ1.out HZ2.out rfl _ 0 [] rfl HOM.out _ n (rcs l) rfl HSRC.out ?qa ?qb ?qc ?_)
  case qa => unfold maxLen; omega
  case qb => omega
  case qc => exact hwm
  intro v3 w3 hown hgrow hat
  first | rw [Nat.zero_add, List.nil_append] at hown | skip
  obtain ⟨oa, oc, rfl⟩ := own_formr hown
  have hb3 : Below w2.heap.size w2 w3 := HBM.out.grown hgrow hwm (fun i hi => (HOM.out.lt i hi).1)
  have S3 := Lib.hid (S2.out.keep hb3)
  have O3 := Lib.hid (Rs.of_own hown)
  clear hown hgrow hat hb3 HOM HBM HSRC SM S2 hrun hwm x4
  obtain ⟨G, hG⟩ : ∃ G, G = Rm.get cl l := ⟨_, rfl⟩
  have HG1 : Hid (∀ W, Rs (.slice oa n oc) l W → Calls Tryd.prog 18 #[.slice oa n oc, .int .i64 cl] W (Val G W)) := fun W h => by rw [hG]; exact row_get oa n oc l cl W h HMX.out
  have HG2 : Hid (∀ W, Rs (.slice a n cap) l W → Calls Tryd.prog 19 #[.slice a n cap, .int .i64 cl] W (Val G W)) := fun W h => by rw [hG]; exact ref_get11 a n cap l cl W h HMX.out
  have hne := fun W => val_neq11 G.k G.n G.sc G.s G.k G.n G.sc G.s W
  rw [eqB_self] at hne
  have HKL : Hid ((Rm.keep ks l).length ≤ maxLen) := by
    have h1 := keep_le ks l l.length (Nat.le_refl _)
    rw [List.take_length] at h1
    show _ ≤ _
    unfold maxLen; omega
  have HSM : Hid (∀ W ka kn kc ja jn jc, Rs (.slice ka kn kc) (Rm.keep ks l) W → Rs (.slice ja jn jc) (Rm.keep ks l) W → Calls Tryd.prog 14 #[.slice ka kn kc, .slice ja jn jc] W (Says true W)) := fun W ka kn kc ja jn jc h1 h2 => by
    have := ref_same11 ka ja kn jn kc jc _ _ W h1 h2 HKL.out HKL.out
    rwa [decide_eq_true (rfl : Rm.keep ks l = Rm.keep ks l)] at this
  have HK1 : Hid (∀ W, Rs (.slice oa n oc) l W → It (.slice b m cb) ks W → Calls Tryd.prog 16 #[.slice oa n oc, .slice b m cb] W (RsA (Rm.keep ks l) W)) := fun W h1 h2 => row_keep oa b n m oc cb l ks W h1 h2 (by omega) (by unfold maxLen; omega)
  have HK2 : Hid (∀ W, Rs (.slice a n cap) l W → It (.slice b m cb) ks W → Calls Tryd.prog 17 #[.slice a n cap, .slice b m cb] W (RsA (Rm.keep ks l) W)) := fun W h1 h2 => ref_keep11 a b n m cap cb l ks W h1 h2 (by omega) (by unfold maxLen; omega)
  clear hG
  obtain ⟨gk, gn, gc, gs⟩ := G
  dsimp only at hne
  go_upto_region 6 with (fail)
  have T0 := Lib.hid (S3.out.keep (below_dr11 w3))
  have U0 := Lib.hid (O3.out.keep (below_dr11 w3))
  have K0 := Lib.hid T0.out.c.c0
  clear S3 O3
  go_region_held3 (fun w' => w'.cell? ⟨g, 0, none⟩ = some (.int .i64 cl))
    (first | exact K0.out | exact K1.out | exact K2.out | exact K3.out | exact K4.out | exact K5.out)
    (first
    | (go_at_call 16; refine (HK1.out _ U0.out T0.out.k).mono ?_; rintro e wa ⟨ka, kn, kc, rfl, -, hkr, hb⟩; have T1 := Lib.hid (T0.out.keep hb); have U1 := Lib.hid (U0.out.keep hb); have K1 := Lib.hid T1.out.c.c0; have A1 := Lib.hid hkr; clear hb hkr)
    | (go_at_call 17; refine (HK2.out _ T1.out.r T1.out.k).mono ?_; rintro e wb ⟨ja, jn, jc, rfl, -, hkr, hb⟩; have T2 := Lib.hid (T1.out.keep hb); have U2 := Lib.hid (U1.out.keep hb); have K2 := Lib.hid T2.out.c.c0; have A2 := Lib.hid (A1.out.keep hb); have B2 := Lib.hid hkr; clear hb hkr)
    | (go_at_call 14; refine (HSM.out _ _ _ _ _ _ _ A2.out B2.out).mono ?_; rintro e wc ⟨rfl, hb⟩; have T3 := Lib.hid (T2.out.keep hb); have U3 := Lib.hid (U2.out.keep hb); have K3 := Lib.hid T3.out.c.c0; clear hb)
    | (go_at_call 18; refine (HG1.out _ U3.out).mono ?_; rintro e wd ⟨rfl, hb⟩; have T4 := Lib.hid (T3.out.keep hb); have U4 := Lib.hid (U3.out.keep hb); have K4 := Lib.hid T4.out.c.c0; clear hb)
    | (go_at_call 19; refine (HG2.out _ T4.out.r).mono ?_; rintro e wf ⟨rfl, hb⟩; have T5 := Lib.hid (T4.out.keep hb); have U5 := Lib.hid (U4.out.keep hb); have K5 := Lib.hid T5.out.c.c0; clear hb))
  all_goals
    clear T0 T1 T2 T3 T4 U0 U1 U2 U3 U4 K0 K1 K2 K3 K4 K5 A1 A2 B2 HG1 HG2 HKL HSM HK1 HK2 hne
    have HRR := Lib.hid (ref_right11 a n cap l wf T5.out.r HMX.out (fun c hc => (HI.out c hc).s))
    go_wp2_with fail
    refine HRR.out.mono ?_
    rintro e w6 ⟨rfl, hb⟩
    have T6 := Lib.hid (T5.out.keep hb)
    have O6 := Lib.hid (U5.out.keep hb)
    clear hb T5 U5 HRR
    obtain ⟨Q, hQ⟩ : ∃ Q, Q = Rm.right l := ⟨_, rfl⟩
    rw [← hQ]
    cases Q
    · clear hQ
      go_wp2
      go_ret
      exact Says.mk rfl T6.out.bel
    · have HQ := Lib.hid hQ.symm
      clear hQ
      obtain ⟨X, hX⟩ : ∃ X, X = Rm.set cl ⟨ck, cn, cz, cs⟩ l := ⟨_, rfl⟩
      obtain ⟨Y, hY⟩ : ∃ Y, Y = Rm.set cl ⟨1, 0, 0, ⟨#[]⟩⟩ l := ⟨_, rfl⟩
      have hXl : X.length ≤ 51 := by rw [hX]; have := Rm.set_len cl ⟨ck, cn, cz, cs⟩ l; omega
      have hYl : Y.length ≤ 51 := by rw [hY]; have := Rm.set_len cl ⟨1, 0, 0, ⟨#[]⟩⟩ l; omega
      have HXR : Hid (Rm.right X = true) := by show _ = _; rw [hX]; exact Rm.right_set HQ.out
      have HXZ : Hid (∀ c ∈ X, c.v.s.size ≤ maxLen) := fun c hc => by
        have h1 := Rm.rgt_fill HXR.out c hc
        unfold maxLen
        rcases Rm.fill_cases h1 with ⟨_, _, _, h4⟩ | ⟨_, _, h4⟩ | ⟨_, _, h4⟩ | ⟨_, _, _, h4⟩
        · rw [h4]; exact Nat.zero_le _
        · rw [h4]; exact Nat.zero_le _
        · rw [h4]; exact Nat.zero_le _
        · omega
      have HXF : Hid (Rm.setF cl ⟨ck, cn, cz, cs⟩ (Rm.in0 cl ⟨ck, cn, cz, cs⟩) l = X) := by show _ = _; rw [hX]; exact Rm.setF_eq HQ.out
      have HYF : Hid (Rm.setF cl ⟨1, 0, 0, ⟨#[]⟩⟩ (Rm.in0 cl ⟨1, 0, 0, ⟨#[]⟩⟩) l = Y) := by show _ = _; rw [hY]; exact Rm.setF_eq HQ.out
      have hmz : (⟨#[]⟩ : ByteArray).size ≤ maxLen := Nat.zero_le _
      have hmc : cs.size ≤ maxLen := by unfold maxLen; omega
      have hS1 := fun W (h : Rs (.slice oa n oc) l W) (he : EnvV W) => row_set oa n oc l cl ⟨ck, cn, cz, cs⟩ W he h (by omega) hmc
      have hS2 := fun W (h : Rs (.slice oa n oc) l W) (he : EnvV W) => row_set oa n oc l cl ⟨1, 0, 0, ⟨#[]⟩⟩ W he h (by omega) hmz
      have hS3 := fun W (h : Rs (.slice a n cap) l W) => ref_set11 a n cap l cl ⟨ck, cn, cz, cs⟩ W h (by omega) hmc
      have hS4 := fun W (h : Rs (.slice a n cap) l W) => ref_set11 a n cap l cl ⟨1, 0, 0, ⟨#[]⟩⟩ W h (by omega) hmz
      rw [HXF.out] at hS3
      rw [HYF.out] at hS4
      rw [← hX] at hS1
      rw [← hY] at hS2
      have HS1 := Lib.hid hS1; have HS2 := Lib.hid hS2; have HS3 := Lib.hid hS3; have HS4 := Lib.hid hS4
      clear hX hY hmz hmc hS1 hS2 hS3 hS4 HXF HYF
      have y0 := T6.out.c.c0; have y1 := T6.out.c.c1; have y2 := T6.out.c.c2; have y3 := T6.out.c.c3; have y4 := T6.out.c.c4
      go_wp2_with fail
      refine (HS1.out _ O6.out T6.out.env).mono ?_
      rintro e w7 ⟨xa, xn, xc, rfl, hxn, hxr, hb⟩
      have T7 := Lib.hid (T6.out.keep hb); have O7 := Lib.hid (O6.out.keep hb); have X7 := Lib.hid hxr
      clear hb hxr hxn T6 O6 y0 y1 y2 y3 y4 HS1
      have y0 := T7.out.c.c0
      go_wp2_with fail
      refine (HS2.out _ O7.out T7.out.env).mono ?_
      rintro e w8 ⟨ya, yn, yc2, rfl, hyn, hyr, hb⟩
      have T8 := Lib.hid (T7.out.keep hb); have O8 := Lib.hid (O7.out.keep hb); have X8 := Lib.hid (X7.out.keep hb); have Y8 := Lib.hid hyr
      clear hb hyr hyn T7 O7 X7 y0 HS2
      have hm51 : (51 : Nat) ≤ maxLen := by unfold maxLen; decide
      have HSA := Lib.hid (ref_same11 oa a n n oc cap l l w8 O8.out T8.out.r (by omega) (by omega))
      rw [decide_eq_true (rfl : l = l)] at HSA
      go_wp2_with fail
      refine HSA.out.mono ?_
      rintro e w9 ⟨rfl, hb⟩
      have T9 := Lib.hid (T8.out.keep hb); have X9 := Lib.hid (X8.out.keep hb); have Y9 := Lib.hid (Y8.out.keep hb)
      clear hb T8 O8 X8 Y8 HSA
      have y0 := T9.out.c.c0; have y1 := T9.out.c.c1; have y2 := T9.out.c.c2; have y3 := T9.out.c.c3; have y4 := T9.out.c.c4
      go_wp2_with fail
      refine (HS3.out _ T9.out.r).mono ?_
      rintro e w10 ⟨za, zn, zc, rfl, hzn, hzr, hb⟩
      have T10 := Lib.hid (T9.out.keep hb); have X10 := Lib.hid (X9.out.keep hb); have Y10 := Lib.hid (Y9.out.keep hb)
      have HSB := Lib.hid (ref_same11 xa za xn zn xc zc X X w10 X10.out hzr (by omega) (by omega))
      rw [decide_eq_true (rfl : X = X)] at HSB
      clear hb hzr hzn T9 X9 Y9 HS3 y0 y1 y2 y3 y4
      go_wp2_with fail
      refine HSB.out.mono ?_
      rintro e w11 ⟨rfl, hb⟩
      have T11 := Lib.hid (T10.out.keep hb); have X11 := Lib.hid (X10.out.keep hb); have Y11 := Lib.hid (Y10.out.keep hb)
      clear hb HSB T10 X10 Y10
      have HXX := Lib.hid (ref_right11 xa xn xc X w11 X11.out (by have : xn = X.length := by (obtain ⟨b, d, e⟩ := X11.out.form; injection e)
                                                                  omega) HXZ.out)
      rw [HXR.out] at HXX
      go_wp2_with fail
      refine HXX.out.mono ?_
      rintro e w12 ⟨rfl, hb⟩
      have T12 := Lib.hid (T11.out.keep hb); have X12 := Lib.hid (X11.out.keep hb); have Y12 := Lib.hid (Y11.out.keep hb)
      clear hb HXX T11 X11 Y11 HXZ HXR
      have y0 := T12.out.c.c0
      go_wp2_with fail
      refine (HS4.out _ T12.out.r).mono ?_
      rintro e w13 ⟨ua, un, uc, rfl, hun, hur, hb⟩
      have T13 := Lib.hid (T12.out.keep hb); have X13 := Lib.hid (X12.out.keep hb); have Y13 := Lib.hid (Y12.out.keep hb)
      have HSC := Lib.hid (ref_same11 ya ua yn un yc2 uc Y Y w13 Y13.out hur (by omega) (by omega))
      rw [decide_eq_true (rfl : Y = Y)] at HSC
      clear hb hur hun T12 X12 Y12 HS4 y0
      go_wp2_with fail
      refine HSC.out.mono ?_
      rintro e w14 ⟨rfl, hb⟩
      have T14 := Lib.hid (T13.out.keep hb); have X14 := Lib.hid (X13.out.keep hb); have Y14 := Lib.hid (Y13.out.keep hb)
      clear hb HSC T13 X13 Y13
      obtain ⟨D, hD⟩ : ∃ D, D = decide (X = Y) := ⟨_, rfl⟩
      have HSD := Lib.hid (row_same xa ya xn yn xc yc2 X Y w14 X14.out Y14.out (by omega) (by omega))
      rw [← hD] at HSD
      go_wp2_with fail
      refine HSD.out.mono ?_
      rintro e w15 ⟨rfl, hb⟩
      have T15 := Lib.hid (T14.out.keep hb); have X15 := Lib.hid (X14.out.keep hb); have Y15 := Lib.hid (Y14.out.keep hb)
      clear hb HSD T14 X14 Y14
      have HSE := Lib.hid (ref_same11 xa ya xn yn xc yc2 X Y w15 X15.out Y15.out (by omega) (by omega))
      rw [← hD] at HSE
      clear hD
      go_wp2_with fail
      refine HSE.out.mono ?_
      rintro e w16 ⟨rfl, hb⟩
      have T16 := Lib.hid (T15.out.keep hb)
      clear hb HSE T15 X15 Y15
      have hbe : (D == D) = true := by cases D <;> rfl
      cases D
      all_goals
        go_wp2
        go_ret
        exact Says.mk (by first | rfl | simp) T16.out.bel
end Go.Proofs.YtmipomglbccjbaaDoor
