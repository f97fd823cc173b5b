/- RowGets walked. -/
import Derived.Test.YtmipomglbccjbaaDoorRowW3
namespace Go.Proofs.YtmipomglbccjbaaDoor
open Go.RowKit

theorem right_sz {l : List Rm.C} (h : Rm.right l = true) : ∀ c ∈ l, c.v.s.size ≤ maxLen := fun c hc => by
  have h1 := Rm.rgt_fill h c hc
  unfold maxLen
  rcases Rm.fill_cases h1 with ⟨_, _, _, h4⟩ | ⟨_, _, h4⟩ | ⟨_, _, h4⟩ | ⟨_, _, _, h4⟩
  · rw [h4]; exact Nat.zero_le _
  · rw [h4]; exact Nat.zero_le _
  · rw [h4]; exact Nat.zero_le _
  · omega
/-- what RowGets looks at -/
structure Gs11 (w : World) (r : Value) (l : List Rm.C) (k : Value) (ks : List Rm.C) (W : World) : Prop where
  r : Rs r l W
  k : Rs k ks W
  env : EnvV W
  bel : Below w.heap.size w W
theorem Gs11.keep {w w1 w2 : World} {r k : Value} {l ks : List Rm.C} (h : Gs11 w r l k ks w1) (hb : Below w1.heap.size w1 w2) : Gs11 w r l k ks w2 :=
  ⟨h.r.keep hb, h.k.keep hb, h.env.keep hb, h.bel.trans (hb.mono h.bel.size)⟩
/-- behind Set: the row that was, the new one, the cell -/
structure Hs11 (w : World) (r : Value) (l : List Rm.C) (u : Value) (us : List Rm.C) (k : Value) (ks : List Rm.C) (p : Nat) (c : Rm.C) (W : World) : Prop where
  r : Rs r l W
  u : Rs u us W
  k : Rs k ks W
  c : Cx p c W
  env : EnvV W
  bel : Below w.heap.size w W
theorem Hs11.keep {w w1 w2 : World} {r u k : Value} {l us ks : List Rm.C} {p : Nat} {c : Rm.C} (h : Hs11 w r l u us k ks p c w1) (hb : Below w1.heap.size w1 w2) : Hs11 w r l u us k ks p c w2 :=
  ⟨h.r.keep hb, h.u.keep hb, h.k.keep hb, h.c.keep hb, h.env.keep hb, h.bel.trans (hb.mono h.bel.size)⟩

set_option maxHeartbeats 8000000 in
set_option maxRecDepth 100000 in
theorem walk_gets11 (a b : Option Addr) (n m cap cb : Nat) (l ks : List Rm.C) (w : World) (he : EnvV w) (hv : Rs (.slice a n cap) l w) (hk : Rs (.slice b m cb) ks w) (hn : n ≤ maxLen) (hm : m ≤ maxLen) (hi : ∀ c ∈ l, RowOk c) (hj : ∀ c ∈ ks, RowOk c) :
    Calls Tryd.prog 6 #[.slice a n cap, .slice b m cb] w (Says true w) := by
  have hnl : n = l.length := by obtain ⟨b, d, e⟩ := hv.form; injection e
  have hml : m = ks.length := by obtain ⟨b, d, e⟩ := hk.form; injection e
  obtain ⟨KV, hKV⟩ : ∃ KV : Value, KV = .slice b m cb := ⟨_, rfl⟩
  have HKV := Lib.hid hKV
  have S0 : Hid (Gs11 w (.slice a n cap) l KV ks w) := ⟨hv, by rw [hKV]; exact hk, he, Below.refl _ _⟩
  have HF := Lib.hid (first11_true w he)
  have HI := Lib.hid hi; have HJ := Lib.hid hj
  have HNL := Lib.hid hnl; have HML := Lib.hid hml
  have HMX := Lib.hid hn; have HMY := Lib.hid hm
  clear he hv hk hKV hi hj hnl hml hn hm
  go_enter Tryd.func6, Tryd.ntmps6
  go_wp2_with fail
  refine HF.out.mono ?_
  rintro e w1 ⟨rfl, hb⟩
  have S1 := Lib.hid (S0.out.keep hb)
  clear hb S0 HF
  have HLG := Lib.hid (law11_long a n cap l w1 S1.out.r HMX.out (fun c hc => (HI.out c hc).s))
  go_wp2_with fail
  refine HLG.out.mono ?_
  rintro e w2 ⟨bl, rfl, hb, hlong⟩
  have S2 := Lib.hid (S1.out.keep hb)
  clear hb HLG S1
  by_cases hbl : bl = true
  · subst hbl
    clear hlong
    go_wp2
    go_ret
    exact Says.mk rfl S2.out.bel
  obtain rfl : bl = false := by simpa using hbl
  obtain ⟨h50, -⟩ := hlong rfl
  have hn50 : n ≤ 50 := by rw [HNL.out]; exact h50
  clear hlong hbl
  have HLH := Lib.hid (law11_long b m cb ks w2 (by have := S2.out.k; rwa [HKV.out] at this) HMY.out (fun c hc => (HJ.out c hc).s))
  go_wp2_with fail
  refine HLH.out.mono ?_
  rintro e w3 ⟨bl, rfl, hb, hlong⟩
  have S3 := Lib.hid (S2.out.keep hb)
  clear hb HLH S2
  by_cases hbl : bl = true
  · subst hbl
    clear hlong
    go_wp2
    go_ret
    exact Says.mk rfl S3.out.bel
  obtain rfl : bl = false := by simpa using hbl
  obtain ⟨h51, -⟩ := hlong rfl
  have hm50 : m ≤ 50 := by rw [HML.out]; exact h51
  have hm1 : m ≤ ks.length := by have := HML.out; omega
  have hm2 : ks.length ≤ m := by have := HML.out; omega
  clear hlong hbl h51
  have HRR := Lib.hid (ref_right11 a n cap l w3 S3.out.r HMX.out (fun c hc => (HI.out c hc).s))
  obtain ⟨Q, hQ⟩ : ∃ Q, Q = Rm.right l := ⟨_, rfl⟩
  rw [← hQ] at HRR
  go_wp2_with fail
  refine HRR.out.mono ?_
  rintro e w4 ⟨rfl, hb⟩
  have S4 := Lib.hid (S3.out.keep hb)
  clear hb HRR S3
  cases Q
  · clear hQ
    go_wp2
    go_ret
    exact Says.mk rfl S4.out.bel
  have HQ := Lib.hid hQ.symm
  clear hQ
  go_wp2_with fail
  go_loopw [0, 26] (fun rv iv wr => ∃ (j rn : Nat) (ra : Option Addr) (rc : Nat) (r : List Rm.C), j ≤ m ∧ iv = .int .i64 (j : Int) ∧ rv = .slice ra rn rc ∧ rn ≤ 50 + j ∧ Hid (Rm.right r = true) ∧ Hid (Gs11 w (.slice ra rn rc) r KV ks wr)) (fun _ iv _ => m - (Lib.intOf iv).toNat)
  case atStart => exact ⟨0, n, a, cap, l, by omega, rfl, rfl, by omega, HQ.out, S4.out⟩
  case round =>
    clear S4 HQ
    obtain ⟨j, rn, ra, rc, r, hj, rfl, rfl, hrn, HRT, HS⟩ := hrel
    generalize wr = wo at *
    by_cases hlt : j < m
    · have hltI : (j : Int) < (m : Int) := by omega
      have hjl : j < ks.length := by omega
      have hrl : rn = r.length := by obtain ⟨b, d, e⟩ := HS.out.r.form; injection e
      obtain ⟨g, off, ha, -, hg, hb⟩ := (show Rs (.slice b m cb) ks wo from by have := HS.out.k; rwa [HKV.out] at this).at j hjl
      have hco := HJ.out ks[j] (List.getElem_mem hjl)
      obtain ⟨c, hc⟩ : ∃ c, c = ks[j] := ⟨_, rfl⟩
      rw [← hc] at hb hco
      subst ha
      obtain ⟨W1, hW1⟩ : ∃ W1, W1 = wo.alloc (.cells #[.int .i64 c.col, .int .i64 c.v.k, .int .i64 c.v.n, .int .i64 c.v.sc, .string c.v.s] 38) := ⟨_, rfl⟩
      obtain ⟨p, hp⟩ : ∃ p, p = wo.heap.size := ⟨_, rfl⟩
      have hbw : Below wo.heap.size wo W1 := by rw [hW1]; exact one_r _ _
      have HC1 : Hid (Cx p c W1) := by show Cx _ _ _; rw [hW1, hp]; exact Cx.new wo c
      have S5 := Lib.hid (HS.out.keep hbw)
      have HQ : Hid (W1 = wo.alloc (.cells #[.int .i64 c.col, .int .i64 c.v.k, .int .i64 c.v.n, .int .i64 c.v.sc, .string c.v.s] 38) ∧ p = wo.heap.size) := ⟨hW1, hp⟩
      have hset := row_set ra rn rc r c.col c.v W1 S5.out.env S5.out.r (by omega) hco.s
      obtain ⟨u, hu⟩ : ∃ u, u = Rm.set c.col c.v r := ⟨_, rfl⟩
      rw [← hu] at hset
      have HSET := Lib.hid hset
      have HU := Lib.hid hu
      have hul : u.length ≤ rn + 1 := by rw [hu]; have := Rm.set_len c.col c.v r; omega
      have HUR : Hid (Rm.right u = true) := by show _ = _; rw [hu]; exact Rm.right_set HRT.out
      have HRL := Lib.hid hrl
      clear hc hW1 hp hbw hset hu hrl hco HS
      obtain ⟨cl, ck, cn, cz, cx⟩ := c
      obtain ⟨c0, c1, c2, c3, c4⟩ := hb
      have x0 := HC1.out.c0; have x1 := HC1.out.c1; have x2 := HC1.out.c2; have x3 := HC1.out.c3; have x4 := HC1.out.c4
      dsimp only at c0 c1 c2 c3 c4 x0 x1 x2 x3 x4 HQ HSET
      go_upto_region 9 with (fail)
      rw [← HQ.out.1, ← HQ.out.2]
      go_wp2_with fail
      refine HSET.out.mono ?_
      rintro e w5 ⟨ua, un, uc, rfl, hun, hur, hb⟩
      have T5 : Hid (Hs11 w (.slice ra rn rc) r (.slice ua un uc) u KV ks p ⟨cl, ⟨ck, cn, cz, cx⟩⟩ w5) := ⟨S5.out.r.keep hb, hur, S5.out.k.keep hb, HC1.out.keep hb, S5.out.env.keep hb, S5.out.bel.trans (hb.mono S5.out.bel.size)⟩
      have hun51 : un ≤ 51 + j := by omega
      have HUN := Lib.hid hun
      clear hb hur hun HSET HC1 S5 HQ x0 x1 x2 x3 x4 c0 c1 c2 c3 c4
      have x0 := T5.out.c.c0; have x1 := T5.out.c.c1; have x2 := T5.out.c.c2; have x3 := T5.out.c.c3; have x4 := T5.out.c.c4
      dsimp only at x0 x1 x2 x3 x4
      by_cases hneg : cl < 0
      · have hur : u = r := by rw [HU.out]; unfold Rm.set; rw [if_pos hneg]
        have hsm := ref_same11 ua ra un rn uc rc u r w5 T5.out.u T5.out.r (by unfold maxLen; omega) (by have := HRL.out; unfold maxLen; omega)
        rw [decide_eq_true hur] at hsm
        have HSM := Lib.hid hsm
        clear hsm hur
        go_wp2_with fail
        refine HSM.out.mono ?_
        rintro e w6 ⟨rfl, hb⟩
        have S6 : Hid (Gs11 w (.slice ua un uc) u KV ks w6) := ⟨T5.out.u.keep hb, T5.out.k.keep hb, T5.out.env.keep hb, T5.out.bel.trans (hb.mono T5.out.bel.size)⟩
        clear hb HSM T5 x0 x1 x2 x3 x4
        go_wp2
        go_roundw
        case rel => exact ⟨j + 1, un, ua, uc, u, by omega, by go_num, (by first | rfl | trivial), by omega, HUR, S6⟩
        case measure => simp [Lib.intOf]; omega
      have hneg2 : (0 : Int) ≤ cl := by omega
      go_wp2_with fail
      go_loopw [46] (fun iv wx => ∃ i : Nat, i ≤ rn ∧ iv = .int .i64 (i : Int) ∧ Hid (Hs11 w (.slice ra rn rc) r (.slice ua un uc) u KV ks p ⟨cl, ⟨ck, cn, cz, cx⟩⟩ wx)) (fun iv _ => rn - (Lib.intOf iv).toNat)
      case atStart => exact ⟨0, by omega, rfl, T5.out⟩
      case round =>
        clear T5 x0 x1 x2 x3 x4
        obtain ⟨i, hi, rfl, HT⟩ := hrel
        generalize wr = wi at *
        by_cases hlti : i < rn
        · have hltiI : (i : Int) < (rn : Int) := by omega
          have hil : i < r.length := by have := HRL.out; omega
          obtain ⟨g', off', ha', -, hg', hb'⟩ := HT.out.r.at i hil
          have hgr := Rm.get_of_right HRT.out r[i] (List.getElem_mem hil)
          have hgs := fun (h : r[i].col ≠ cl) => (show Rm.get r[i].col u = r[i].v from by rw [HU.out, Rm.get_set_ne h]; exact hgr)
          obtain ⟨x, hx⟩ : ∃ x, x = r[i] := ⟨_, rfl⟩
          rw [← hx] at hb' hgs
          have HGS := Lib.hid hgs
          subst ha'
          obtain ⟨W6, hW6⟩ : ∃ W6, W6 = wi.alloc (.cells #[.int .i64 x.col, .int .i64 x.v.k, .int .i64 x.v.n, .int .i64 x.v.sc, .string x.v.s] 38) := ⟨_, rfl⟩
          obtain ⟨q, hq⟩ : ∃ q, q = wi.heap.size := ⟨_, rfl⟩
          have hbw : Below wi.heap.size wi W6 := by rw [hW6]; exact one_r _ _
          have HX6 : Hid (Cx q x W6) := by show Cx _ _ _; rw [hW6, hq]; exact Cx.new wi x
          have T6 := Lib.hid (HT.out.keep hbw)
          have HQ : Hid (W6 = wi.alloc (.cells #[.int .i64 x.col, .int .i64 x.v.k, .int .i64 x.v.n, .int .i64 x.v.sc, .string x.v.s] 38) ∧ q = wi.heap.size) := ⟨hW6, hq⟩
          clear hx hgs hgr hW6 hq hbw HT
          obtain ⟨xl, xk, xn, xz, xs⟩ := x
          obtain ⟨d0, d1, d2, d3, d4⟩ := hb'
          dsimp only at d0 d1 d2 d3 d4 HQ HGS
          by_cases hxc : xl = cl
          · subst hxc
            have y0 := HX6.out.c0
            have x0 := T6.out.c.c0
            dsimp only at y0 x0
            have qn : (xl != xl) = false := by simp
            go_upto_region 16 with (fail)
            rw [← HQ.out.1, ← HQ.out.2]
            go_quiet (fail)
            have T7 := Lib.hid (T6.out.keep (below_nr (Below.refl _ _) nq))
            clear HQ HX6 HGS d0 d1 d2 d3 d4 x0 y0 T6
            go_wp2
            go_roundw
            case rel => exact ⟨i + 1, by omega, by go_num, T7⟩
            case measure => simp [Lib.intOf]; omega
          · have qn : (xl != cl) = true := by simpa using hxc
            have hgx : Rm.get xl u = ⟨xk, xn, xz, xs⟩ := HGS.out hxc
            have HGT : Hid (∀ W, Rs (.slice ua un uc) u W → Calls Tryd.prog 18 #[.slice ua un uc, .int .i64 xl] W fun e w' => e = .returned (.agg #[.int .i64 xk, .int .i64 xn, .int .i64 xz, .string xs]) ∧ Below W.heap.size W w') := fun W h => by
              have := row_get ua un uc u xl W h (by unfold maxLen; omega)
              rw [hgx] at this
              exact this
            have hne := fun W => val_neq11 xk xn xz xs xk xn xz xs W
            rw [eqB_self] at hne
            clear hgx HGS
            go_upto_region 16 with (fail)
            rw [← HQ.out.1, ← HQ.out.2]
            have T7 := Lib.hid (T6.out.keep (below_dr11 W6))
            have Y7 := Lib.hid (HX6.out.keep (below_dr11 W6))
            have K0 : Hid (W6.drew.cell? ⟨q, 0, none⟩ = some (.int .i64 xl) ∧ W6.drew.cell? ⟨q, 1, none⟩ = some (.int .i64 xk) ∧ W6.drew.cell? ⟨q, 2, none⟩ = some (.int .i64 xn) ∧ W6.drew.cell? ⟨q, 3, none⟩ = some (.int .i64 xz) ∧ W6.drew.cell? ⟨q, 4, none⟩ = some (.string xs) ∧ W6.drew.cell? ⟨p, 0, none⟩ = some (.int .i64 cl)) := ⟨Y7.out.c0, Y7.out.c1, Y7.out.c2, Y7.out.c3, Y7.out.c4, T7.out.c.c0⟩
            clear HQ HX6 T6 d0 d1 d2 d3 d4
            go_region_held3 (fun w' => w'.cell? ⟨q, 0, none⟩ = some (.int .i64 xl) ∧ w'.cell? ⟨q, 1, none⟩ = some (.int .i64 xk) ∧ w'.cell? ⟨q, 2, none⟩ = some (.int .i64 xn) ∧ w'.cell? ⟨q, 3, none⟩ = some (.int .i64 xz) ∧ w'.cell? ⟨q, 4, none⟩ = some (.string xs) ∧ w'.cell? ⟨p, 0, none⟩ = some (.int .i64 cl))
              (first | exact K0.out | exact K1.out)
              (first
              | (go_at_call 18; refine (HGT.out _ T7.out.u).mono ?_; rintro e wa ⟨rfl, hb⟩; have T8 := Lib.hid (T7.out.keep hb); have Y8 := Lib.hid (Y7.out.keep hb); have K1 : Hid (wa.cell? ⟨q, 0, none⟩ = some (.int .i64 xl) ∧ wa.cell? ⟨q, 1, none⟩ = some (.int .i64 xk) ∧ wa.cell? ⟨q, 2, none⟩ = some (.int .i64 xn) ∧ wa.cell? ⟨q, 3, none⟩ = some (.int .i64 xz) ∧ wa.cell? ⟨q, 4, none⟩ = some (.string xs) ∧ wa.cell? ⟨p, 0, none⟩ = some (.int .i64 cl)) := ⟨Y8.out.c0, Y8.out.c1, Y8.out.c2, Y8.out.c3, Y8.out.c4, T8.out.c.c0⟩; clear hb)
              | fail)
            all_goals
              clear K0 K1 T7 Y7 Y8 HGT hne
              go_wp2
              go_roundw
              case rel => exact ⟨i + 1, by omega, by go_num, T8⟩
              case measure => simp [Lib.intOf]; omega
        · have hltiI : ¬ (i : Int) < (rn : Int) := by omega
          obtain ⟨G, hG⟩ : ∃ G, G = Rm.get cl u := ⟨_, rfl⟩
          have hG2 : G = if Rm.fillB ⟨ck, cn, cz, cx⟩ then ⟨ck, cn, cz, cx⟩ else Vm.nil := by rw [hG, HU.out]; exact Rm.get_set HRT.out hneg2
          have HGT : Hid (Calls Tryd.prog 18 #[.slice ua un uc, .int .i64 cl] wi (Val G wi)) := by
            rw [hG]; exact row_get ua un uc u cl wi HT.out.u (by unfold maxLen; omega)
          have HG2 := Lib.hid hG2
          have x0 := HT.out.c.c0
          dsimp only at x0
          clear hG hG2 hlti
          go_wp2_with fail
          refine HGT.out.mono ?_
          rintro e w6 ⟨rfl, hb⟩
          have T6 := Lib.hid (HT.out.keep hb)
          clear hb HT HGT x0
          obtain ⟨W7, hW7⟩ : ∃ W7, W7 = w6.alloc (.cells #[.int .i64 G.k, .int .i64 G.n, .int .i64 G.sc, .string G.s] 36) := ⟨_, rfl⟩
          obtain ⟨q, hq⟩ : ∃ q, q = w6.heap.size := ⟨_, rfl⟩
          have hbw : Below w6.heap.size w6 W7 := by rw [hW7]; exact one_r _ _
          have HX7 : Hid (Bx q G.k G.n G.sc G.s W7) := by show Bx _ _ _ _ _ _; rw [hW7, hq]; exact Bx.new w6 _ _ _ _ _
          have T7 := Lib.hid (T6.out.keep hbw)
          have HQ : Hid (W7 = w6.alloc (.cells #[.int .i64 G.k, .int .i64 G.n, .int .i64 G.sc, .string G.s] 36) ∧ q = w6.heap.size) := ⟨hW7, hq⟩
          have HRR := Lib.hid (ref_right11 ua un uc u W7 T7.out.u (by unfold maxLen; omega) (right_sz HUR.out))
          rw [HUR.out] at HRR
          clear hW7 hq hbw T6
          go_upto_region 20 with (fail)
          rw [← HQ.out.1, ← HQ.out.2]
          go_wp2_with fail
          refine HRR.out.mono ?_
          rintro e w8 ⟨rfl, hb⟩
          have T8 := Lib.hid (T7.out.keep hb)
          have X8 := Lib.hid (HX7.out.keep hb)
          have S8 : Hid (Gs11 w (.slice ua un uc) u KV ks w8) := ⟨T8.out.u, T8.out.k, T8.out.env, T8.out.bel⟩
          clear hb HRR T7 HX7 HQ
          have x1 := T8.out.c.c1; have x2 := T8.out.c.c2; have x3 := T8.out.c.c3; have x4 := T8.out.c.c4
          have y0 := X8.out.c0; have y1 := X8.out.c1; have y2 := X8.out.c2; have y3 := X8.out.c3
          dsimp only at x1 x2 x3 x4
          have hne := fun W => val_neq11 G.k G.n G.sc G.s ck cn cz cx W
          by_cases hfill : Rm.fillB ⟨ck, cn, cz, cx⟩ = true
          · have hGv : G = ⟨ck, cn, cz, cx⟩ := by rw [HG2.out, if_pos hfill]
            subst hGv
            dsimp only at hne y0 y1 y2 y3
            rw [eqB_self] at hne
            clear T8 X8 HG2 hfill
            go_wp2
            go_roundw
            case rel => exact ⟨j + 1, un, ua, uc, u, by omega, by go_num, (by first | rfl | trivial), by omega, HUR, S8⟩
            case measure => simp [Lib.intOf]; omega
          · have hGv : G = Vm.nil := by rw [HG2.out, if_neg hfill]
            subst hGv
            dsimp only [Vm.nil] at hne y0 y1 y2 y3
            obtain ⟨E, hE⟩ : ∃ E, E = (!eqB 0 0 0 ⟨#[]⟩ ck cn cz cx) := ⟨_, rfl⟩
            rw [← hE] at hne
            clear T8 X8 HG2 hfill hE
            dsimp only [Vm.nil]
            cases E
            all_goals
              go_wp2
              go_roundw
              case rel => exact ⟨j + 1, un, ua, uc, u, by omega, by go_num, (by first | rfl | trivial), by omega, HUR, S8⟩
              case measure => simp [Lib.intOf]; omega
    · have hltI : ¬ (j : Int) < (m : Int) := by omega
      go_wp2
      go_ret
      exact Says.mk rfl HS.out.bel
end Go.Proofs.YtmipomglbccjbaaDoor
