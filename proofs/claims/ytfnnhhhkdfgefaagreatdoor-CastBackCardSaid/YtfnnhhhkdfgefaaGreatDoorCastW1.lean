/- The laws of layer 4 walked, over the bundle of contracts: CastValues, CastSafe, CastBack. -/
import Derived.Test.YtfnnhhhkdfgefaaGreatDoorCastCon
namespace Go.Proofs.YtfnnhhhkdfgefaaGreatDoor
open Go.RowKit

theorem val_neq (k n sc : Int) (s : ByteArray) (k' n' sc' : Int) (s' : ByteArray) (w : World) :
    (binOp .neq 24 (.agg #[.int .i64 k, .int .i64 n, .int .i64 sc, .string s]) (.agg #[.int .i64 k', .int .i64 n', .int .i64 sc', .string s'])).run Tryz.prog w = .ok (.bool (!eqB k n sc s k' n' sc' s')) w := by
  rw [run_neq_struct, val_eqlIn]; rfl
/-- a value and a type as arguments -/
structure Vx (w : World) (ck cn cc : Int) (cs : ByteArray) (k s : Int) (w' : World) : Prop where
  v : Bx w.heap.size ck cn cc cs w'
  t : Tx (w.heap.size + 1) k s w'
  env : EnvV w'
  bel : Below w.heap.size w w'
theorem Vx.new (w : World) (he : EnvV w) (ck cn cc : Int) (cs : ByteArray) (k s : Int) (u x : TypeId) : Vx w ck cn cc cs k s ((w.alloc (.cells #[.int .i64 ck, .int .i64 cn, .int .i64 cc, .string cs] u)).alloc (.cells #[.int .i64 k, .int .i64 s] x)) := by
  have h := Tx.new (w.alloc (.cells #[.int .i64 ck, .int .i64 cn, .int .i64 cc, .string cs] u)) k s x
  rw [show (w.alloc (.cells #[.int .i64 ck, .int .i64 cn, .int .i64 cc, .string cs] u)).heap.size = w.heap.size + 1 by simp] at h
  exact ⟨(Bx.new w ck cn cc cs u).alloc _, h, he.keep (two w _ _), two w _ _⟩
theorem Vx.keep {w w1 w2 : World} {ck cn cc : Int} {cs : ByteArray} {k s : Int} (h : Vx w ck cn cc cs k s w1) (hb : Below w1.heap.size w1 w2) : Vx w ck cn cc cs k s w2 :=
  ⟨h.v.keep hb, h.t.keep hb, h.env.keep hb, h.bel.trans (hb.mono h.bel.size)⟩

set_option maxRecDepth 100000 in
set_option maxHeartbeats 4000000 in
theorem walk_values (V : CastCon) (c : Vm.Cl) (k s : Int) (w : World) (he : EnvV w) (hv : ValOk c) :
    Calls Tryz.prog 3 #[.agg #[.int .i64 c.k, .int .i64 c.n, .int .i64 c.sc, .string c.s], .agg #[.int .i64 k, .int .i64 s]] w (Says true w) := by
  have hz := hv.s; have hn := hv.i
  have HC := Lib.hid (V.cast c k s · · hn hz)
  have HR := Lib.hid (ref4_cast c k s · hn hz)
  have HZ : Hid ((Vm.cast c k s).1.s.size ≤ maxLen) := by have := Vm.right_size (Vm.cast_right c k s hn); unfold Hid maxLen; omega
  have HO := Lib.hid (Vm.cast_of c k s hn)
  obtain ⟨ck, cn, cc, cs⟩ := c
  have X0 := Lib.hid (Vx.new w he ck cn cc cs k s 24 26)
  clear hv he hn
  dsimp only at hz ⊢
  unfold maxLen at hz
  by_cases hl : 1000 < cs.size
  · have hl2 : (1000 : Int) < (cs.size : Int) := by omega
    clear HC HR HZ HO
    go_enter Tryz.func3, Tryz.ntmps3
    go_wp2_with fail
    refine (first4_true V _ X0.out.env).mono ?_
    rintro e w1 ⟨rfl, hb⟩
    have X1 := Lib.hid (X0.out.keep hb)
    have d3 := X1.out.v.c3
    clear hb X0
    go_wp2
    go_ret
    exact Says.mk rfl X1.out.bel
  have hl2 : (cs.size : Int) ≤ 1000 := by omega
  revert HC HR HZ HO
  generalize Vm.cast ⟨ck, cn, cc, cs⟩ k s = p
  obtain ⟨⟨xk, xn, xc, xs⟩, x⟩ := p
  intro HC HR HZ HO
  have HF := Lib.hid (ref3_of xk xn xc xs k s · HZ.out)
  have heq := val_eql xk xn xc xs xk xn xc xs
  rw [eqB_self] at heq
  by_cases hx : x = 0
  · subst hx
    have ho : Vm.ofB ⟨xk, xn, xc, xs⟩ k s = true := HO.out rfl
    rw [ho] at HF
    clear HO HZ ho
    go_enter Tryz.func3, Tryz.ntmps3
    go_wp2_with fail
    refine (first4_true V _ X0.out.env).mono ?_
    rintro e w1 ⟨rfl, hb⟩
    have X1 := Lib.hid (X0.out.keep hb)
    have d0 := X1.out.v.c0; have d1 := X1.out.v.c1; have d2 := X1.out.v.c2; have d3 := X1.out.v.c3; have f0 := X1.out.t.c0; have f1 := X1.out.t.c1
    clear hb X0
    go_wp2_with fail
    refine (HC.out _ X1.out.env).mono ?_
    rintro e w2 ⟨rfl, hb⟩
    have hb2 := hb.alloc hb.size (.cells #[.int .i64 xk, .int .i64 xn, .int .i64 xc, .string xs] 24)
    have X2 := Lib.hid (X1.out.keep hb2); have A2 := Lib.hid (Bx.new w2 xk xn xc xs 24)
    clear hb hb2 X1 HC d0 d1 d2 d3 f0 f1
    have d0 := X2.out.v.c0; have d1 := X2.out.v.c1; have d2 := X2.out.v.c2; have d3 := X2.out.v.c3; have f0 := X2.out.t.c0; have f1 := X2.out.t.c1
    dsimp only
    go_wp2_with fail
    refine (HR.out _).mono ?_
    rintro e w3 ⟨rfl, hb⟩
    have hb2 := hb.alloc hb.size (.cells #[.int .i64 xk, .int .i64 xn, .int .i64 xc, .string xs] 24)
    have X3 := Lib.hid (X2.out.keep hb2); have A3 := Lib.hid (A2.out.keep hb2); have B3 := Lib.hid (Bx.new w3 xk xn xc xs 24)
    clear hb hb2 X2 HR A2 d0 d1 d2 d3 f0 f1
    have a0 := A3.out.c0; have a1 := A3.out.c1; have a2 := A3.out.c2; have a3 := A3.out.c3; have b0 := B3.out.c0; have b1 := B3.out.c1; have b2 := B3.out.c2; have b3 := B3.out.c3; have f0 := X3.out.t.c0; have f1 := X3.out.t.c1
    dsimp only
    go_wp2_with fail
    refine (HF.out _).mono ?_
    rintro e w4 ⟨rfl, hb⟩
    have X4 := Lib.hid (X3.out.keep hb)
    clear hb X3 HF
    go_wp2
    go_ret
    exact Says.mk (by first | rfl | simp) X4.out.bel
  · have q : (x != 0) = true := by simpa using hx
    have q2 : (x == x) = true := by simp
    clear HO HZ HF hx
    go_enter Tryz.func3, Tryz.ntmps3
    go_wp2_with fail
    refine (first4_true V _ X0.out.env).mono ?_
    rintro e w1 ⟨rfl, hb⟩
    have X1 := Lib.hid (X0.out.keep hb)
    have d0 := X1.out.v.c0; have d1 := X1.out.v.c1; have d2 := X1.out.v.c2; have d3 := X1.out.v.c3; have f0 := X1.out.t.c0; have f1 := X1.out.t.c1
    clear hb X0
    go_wp2_with fail
    refine (HC.out _ X1.out.env).mono ?_
    rintro e w2 ⟨rfl, hb⟩
    have hb2 := hb.alloc hb.size (.cells #[.int .i64 xk, .int .i64 xn, .int .i64 xc, .string xs] 24)
    have X2 := Lib.hid (X1.out.keep hb2); have A2 := Lib.hid (Bx.new w2 xk xn xc xs 24)
    clear hb hb2 X1 HC d0 d1 d2 d3 f0 f1
    have d0 := X2.out.v.c0; have d1 := X2.out.v.c1; have d2 := X2.out.v.c2; have d3 := X2.out.v.c3; have f0 := X2.out.t.c0; have f1 := X2.out.t.c1
    dsimp only
    go_wp2_with fail
    refine (HR.out _).mono ?_
    rintro e w3 ⟨rfl, hb⟩
    have hb2 := hb.alloc hb.size (.cells #[.int .i64 xk, .int .i64 xn, .int .i64 xc, .string xs] 24)
    have X3 := Lib.hid (X2.out.keep hb2); have A3 := Lib.hid (A2.out.keep hb2); have B3 := Lib.hid (Bx.new w3 xk xn xc xs 24)
    clear hb hb2 X2 HR A2 d0 d1 d2 d3 f0 f1
    have a0 := A3.out.c0; have a1 := A3.out.c1; have a2 := A3.out.c2; have a3 := A3.out.c3; have b0 := B3.out.c0; have b1 := B3.out.c1; have b2 := B3.out.c2; have b3 := B3.out.c3; have f0 := X3.out.t.c0; have f1 := X3.out.t.c1
    dsimp only
    go_wp2
    go_ret
    exact Says.mk (by first | rfl | simp) X3.out.bel

/-- a value and two types as arguments -/
structure Vx2 (w : World) (ck cn cc : Int) (cs : ByteArray) (k s l t : Int) (w' : World) : Prop where
  v : Bx w.heap.size ck cn cc cs w'
  a : Tx (w.heap.size + 1) k s w'
  b : Tx (w.heap.size + 1 + 1) l t w'
  env : EnvV w'
  bel : Below w.heap.size w w'
theorem Vx2.new (w : World) (he : EnvV w) (ck cn cc : Int) (cs : ByteArray) (k s l t : Int) (u x : TypeId) : Vx2 w ck cn cc cs k s l t (((w.alloc (.cells #[.int .i64 ck, .int .i64 cn, .int .i64 cc, .string cs] u)).alloc (.cells #[.int .i64 k, .int .i64 s] x)).alloc (.cells #[.int .i64 l, .int .i64 t] x)) := by
  have h := Vx.new w he ck cn cc cs k s u x
  have hb := Tx.new ((w.alloc (.cells #[.int .i64 ck, .int .i64 cn, .int .i64 cc, .string cs] u)).alloc (.cells #[.int .i64 k, .int .i64 s] x)) l t x
  rw [show ((w.alloc (.cells #[.int .i64 ck, .int .i64 cn, .int .i64 cc, .string cs] u)).alloc (.cells #[.int .i64 k, .int .i64 s] x)).heap.size = w.heap.size + 1 + 1 by simp] at hb
  exact ⟨h.v.keep (one _ _), h.t.keep (one _ _), hb, h.env.keep (one _ _), three w _ _ _⟩
theorem Vx2.keep {w w1 w2 : World} {ck cn cc : Int} {cs : ByteArray} {k s l t : Int} (h : Vx2 w ck cn cc cs k s l t w1) (hb : Below w1.heap.size w1 w2) : Vx2 w ck cn cc cs k s l t w2 :=
  ⟨h.v.keep hb, h.a.keep hb, h.b.keep hb, h.env.keep hb, h.bel.trans (hb.mono h.bel.size)⟩

set_option maxRecDepth 100000 in
set_option maxHeartbeats 4000000 in
theorem walk_safe (V : CastCon) (c : Vm.Cl) (k s l t : Int) (w : World) (he : EnvV w) (hv : ValOk c) :
    Calls Tryz.prog 4 #[.agg #[.int .i64 c.k, .int .i64 c.n, .int .i64 c.sc, .string c.s], .agg #[.int .i64 k, .int .i64 s], .agg #[.int .i64 l, .int .i64 t]] w (Says true w) := by
  have hz := hv.s; have hn := hv.i
  have HC := Lib.hid (V.cast c l t · · hn hz)
  have HF := Lib.hid (ref3_of c.k c.n c.sc c.s k s · hz)
  have HS := Lib.hid (V.safe k s l t)
  have HQ := Lib.hid (ref4_safe k s l t)
  have HO := Lib.hid (Vm.cast_safe c k s l t hn)
  obtain ⟨ck, cn, cc, cs⟩ := c
  have X0 := Lib.hid (Vx2.new w he ck cn cc cs k s l t 24 26)
  clear hv he hn
  dsimp only at hz ⊢
  unfold maxLen at hz
  by_cases hl : 1000 < cs.size
  · have hl2 : (1000 : Int) < (cs.size : Int) := by omega
    clear HC HF HS HQ HO
    go_enter Tryz.func4, Tryz.ntmps4
    go_wp2_with fail
    refine (first4_true V _ X0.out.env).mono ?_
    rintro e w1 ⟨rfl, hb⟩
    have X1 := Lib.hid (X0.out.keep hb)
    have d3 := X1.out.v.c3
    clear hb X0
    go_wp2
    go_ret
    exact Says.mk rfl X1.out.bel
  have hl2 : (cs.size : Int) ≤ 1000 := by omega
  dsimp only at HF
  revert HC HF HS HQ HO
  generalize Vm.cast ⟨ck, cn, cc, cs⟩ l t = p
  generalize Vm.safe k s l t = b1
  generalize Vm.ofB ⟨ck, cn, cc, cs⟩ k s = b2
  obtain ⟨⟨xk, xn, xc, xs⟩, x⟩ := p
  dsimp only
  intro HS HQ HC HF HO
  cases b1
  · clear HC HF HO
    go_enter Tryz.func4, Tryz.ntmps4
    go_wp2_with fail
    refine (first4_true V _ X0.out.env).mono ?_
    rintro e w1 ⟨rfl, hb⟩
    have X1 := Lib.hid (X0.out.keep hb)
    have d3 := X1.out.v.c3; have e0 := X1.out.a.c0; have e1 := X1.out.a.c1; have f0 := X1.out.b.c0; have f1 := X1.out.b.c1
    clear hb X0
    go_wp2_with fail
    refine (HS.out _ X1.out.env).mono ?_
    rintro e w2 ⟨rfl, hb⟩
    have X2 := Lib.hid (X1.out.keep hb)
    clear hb X1 HS d3 e0 e1 f0 f1
    have e0 := X2.out.a.c0; have e1 := X2.out.a.c1; have f0 := X2.out.b.c0; have f1 := X2.out.b.c1
    go_wp2_with fail
    refine (HQ.out _).mono ?_
    rintro e w3 ⟨rfl, hb⟩
    have X3 := Lib.hid (X2.out.keep hb)
    clear hb X2 HQ e0 e1 f0 f1
    go_wp2
    go_ret
    exact Says.mk rfl X3.out.bel
  cases b2
  · clear HC HO
    go_enter Tryz.func4, Tryz.ntmps4
    go_wp2_with fail
    refine (first4_true V _ X0.out.env).mono ?_
    rintro e w1 ⟨rfl, hb⟩
    have X1 := Lib.hid (X0.out.keep hb)
    have d3 := X1.out.v.c3; have e0 := X1.out.a.c0; have e1 := X1.out.a.c1; have f0 := X1.out.b.c0; have f1 := X1.out.b.c1
    clear hb X0
    go_wp2_with fail
    refine (HS.out _ X1.out.env).mono ?_
    rintro e w2 ⟨rfl, hb⟩
    have X2 := Lib.hid (X1.out.keep hb)
    clear hb X1 HS d3 e0 e1 f0 f1
    have e0 := X2.out.a.c0; have e1 := X2.out.a.c1; have f0 := X2.out.b.c0; have f1 := X2.out.b.c1
    go_wp2_with fail
    refine (HQ.out _).mono ?_
    rintro e w3 ⟨rfl, hb⟩
    have X3 := Lib.hid (X2.out.keep hb)
    clear hb X2 HQ e0 e1 f0 f1
    have d0 := X3.out.v.c0; have d1 := X3.out.v.c1; have d2 := X3.out.v.c2; have d3 := X3.out.v.c3; have e0 := X3.out.a.c0; have e1 := X3.out.a.c1
    go_wp2_with fail
    refine (HF.out _).mono ?_
    rintro e w4 ⟨rfl, hb⟩
    have X4 := Lib.hid (X3.out.keep hb)
    clear hb X3 HF d0 d1 d2 d3 e0 e1
    go_wp2
    go_ret
    exact Says.mk rfl X4.out.bel
  obtain ⟨hx, hk⟩ := HO.out rfl rfl
  subst hx
  have HK : Hid (((xk == 0) == (ck == 0)) = true) := by
    show _ = true
    rw [beq_iff_eq, Bool.eq_iff_iff, beq_iff_eq, beq_iff_eq]; exact hk
  clear HO hk
  go_enter Tryz.func4, Tryz.ntmps4
  go_wp2_with fail
  refine (first4_true V _ X0.out.env).mono ?_
  rintro e w1 ⟨rfl, hb⟩
  have X1 := Lib.hid (X0.out.keep hb)
  have d3 := X1.out.v.c3; have e0 := X1.out.a.c0; have e1 := X1.out.a.c1; have f0 := X1.out.b.c0; have f1 := X1.out.b.c1
  clear hb X0
  go_wp2_with fail
  refine (HS.out _ X1.out.env).mono ?_
  rintro e w2 ⟨rfl, hb⟩
  have X2 := Lib.hid (X1.out.keep hb)
  clear hb X1 HS d3 e0 e1 f0 f1
  have e0 := X2.out.a.c0; have e1 := X2.out.a.c1; have f0 := X2.out.b.c0; have f1 := X2.out.b.c1
  go_wp2_with fail
  refine (HQ.out _).mono ?_
  rintro e w3 ⟨rfl, hb⟩
  have X3 := Lib.hid (X2.out.keep hb)
  clear hb X2 HQ e0 e1 f0 f1
  have d0 := X3.out.v.c0; have d1 := X3.out.v.c1; have d2 := X3.out.v.c2; have d3 := X3.out.v.c3; have e0 := X3.out.a.c0; have e1 := X3.out.a.c1
  go_wp2_with fail
  refine (HF.out _).mono ?_
  rintro e w4 ⟨rfl, hb⟩
  have X4 := Lib.hid (X3.out.keep hb)
  clear hb X3 HF d0 d1 d2 d3 e0 e1
  have d0 := X4.out.v.c0; have d1 := X4.out.v.c1; have d2 := X4.out.v.c2; have d3 := X4.out.v.c3; have f0 := X4.out.b.c0; have f1 := X4.out.b.c1
  go_wp2_with fail
  refine (HC.out _ X4.out.env).mono ?_
  rintro e w5 ⟨rfl, hb⟩
  have hb2 := hb.alloc hb.size (.cells #[.int .i64 xk, .int .i64 xn, .int .i64 xc, .string xs] 24)
  have X5 := Lib.hid (X4.out.keep hb2); have A5 := Lib.hid (Bx.new w5 xk xn xc xs 24)
  clear hb hb2 X4 HC d0 d1 d2 d3 f0 f1
  have d0 := X5.out.v.c0; have a0 := A5.out.c0
  dsimp only
  go_wp2
  go_ret
  exact Says.mk (by first | exact HK.out | rfl | simp) X5.out.bel

set_option maxRecDepth 100000 in
set_option maxHeartbeats 4000000 in
theorem walk_back (V : CastCon) (c : Vm.Cl) (k s : Int) (w : World) (he : EnvV w) (hv : ValOk c) :
    Calls Tryz.prog 6 #[.agg #[.int .i64 c.k, .int .i64 c.n, .int .i64 c.sc, .string c.s], .agg #[.int .i64 k, .int .i64 s]] w (Says true w) := by
  have hz := hv.s; have hn := hv.i
  have HC := Lib.hid (V.cast c k s · · hn hz)
  have HT := Lib.hid (V.cast c 4 0 · · hn hz)
  have HF := Lib.hid (ref3_of c.k c.n c.sc c.s k s · hz)
  have HO := Lib.hid (Vm.cast_own c k s)
  have HB := Lib.hid (Vm.cast_back c k s hn)
  have hn4 := Vm.cast_i64 c 4 0 hn
  have hz4 : (Vm.cast c 4 0).1.s.size ≤ maxLen := by have := Vm.right_size (Vm.cast_right c 4 0 hn); unfold maxLen; omega
  have HD := Lib.hid (V.cast (Vm.cast c 4 0).1 k s · · hn4 hz4)
  clear hn4 hz4
  obtain ⟨ck, cn, cc, cs⟩ := c
  have X0 := Lib.hid (Vx.new w he ck cn cc cs k s 24 26)
  clear hv he hn
  dsimp only at hz ⊢
  unfold maxLen at hz
  by_cases hl : 500 < cs.size
  · have hl2 : (500 : Int) < (cs.size : Int) := by omega
    clear HC HT HF HO HB HD
    go_enter Tryz.func6, Tryz.ntmps6
    go_wp2_with fail
    refine (first4_true V _ X0.out.env).mono ?_
    rintro e w1 ⟨rfl, hb⟩
    have X1 := Lib.hid (X0.out.keep hb)
    have d3 := X1.out.v.c3
    clear hb X0
    go_wp2
    go_ret
    exact Says.mk rfl X1.out.bel
  have hl2 : (cs.size : Int) ≤ 500 := by omega
  dsimp only at HF
  cases hof : Vm.ofB ⟨ck, cn, cc, cs⟩ k s
  · rw [hof] at HF
    clear HC HT HO HB HD
    go_enter Tryz.func6, Tryz.ntmps6
    go_wp2_with fail
    refine (first4_true V _ X0.out.env).mono ?_
    rintro e w1 ⟨rfl, hb⟩
    have X1 := Lib.hid (X0.out.keep hb)
    have d0 := X1.out.v.c0; have d1 := X1.out.v.c1; have d2 := X1.out.v.c2; have d3 := X1.out.v.c3; have f0 := X1.out.t.c0; have f1 := X1.out.t.c1
    clear hb X0
    go_wp2_with fail
    refine (HF.out _).mono ?_
    rintro e w2 ⟨rfl, hb⟩
    have X2 := Lib.hid (X1.out.keep hb)
    clear hb X1 HF d0 d1 d2 d3 f0 f1
    go_wp2
    go_ret
    exact Says.mk rfl X2.out.bel
  rw [hof] at HF
  have hown := HO.out hof
  obtain ⟨hb1, hb2⟩ := HB.out hof
  rw [hown] at HC
  clear HO HB hof hown
  revert HT HD hb1 hb2
  generalize Vm.cast ⟨ck, cn, cc, cs⟩ 4 0 = p
  obtain ⟨⟨xk, xn, xc, xs⟩, x⟩ := p
  dsimp only
  intro HT HD hb1 hb2
  have heq := val_eql ck cn cc cs ck cn cc cs
  have hne := val_neq ck cn cc cs ck cn cc cs
  rw [eqB_self] at heq hne
  by_cases hx : x = 0
  · subst hx
    rw [hb2 rfl] at HD
    clear hb1 hb2
    go_enter Tryz.func6, Tryz.ntmps6
    go_wp2_with fail
    refine (first4_true V _ X0.out.env).mono ?_
    rintro e w1 ⟨rfl, hb⟩
    have X1 := Lib.hid (X0.out.keep hb)
    have d0 := X1.out.v.c0; have d1 := X1.out.v.c1; have d2 := X1.out.v.c2; have d3 := X1.out.v.c3; have f0 := X1.out.t.c0; have f1 := X1.out.t.c1
    clear hb X0
    go_wp2_with fail
    refine (HF.out _).mono ?_
    rintro e w2 ⟨rfl, hb⟩
    have X2 := Lib.hid (X1.out.keep hb)
    clear hb X1 HF d0 d1 d2 d3 f0 f1
    have d0 := X2.out.v.c0; have d1 := X2.out.v.c1; have d2 := X2.out.v.c2; have d3 := X2.out.v.c3; have f0 := X2.out.t.c0; have f1 := X2.out.t.c1
    go_wp2_with fail
    refine (HC.out _ X2.out.env).mono ?_
    rintro e w3 ⟨rfl, hb⟩
    have hb2 := hb.alloc hb.size (.cells #[.int .i64 ck, .int .i64 cn, .int .i64 cc, .string cs] 24)
    have X3 := Lib.hid (X2.out.keep hb2); have A3 := Lib.hid (Bx.new w3 ck cn cc cs 24)
    clear hb hb2 X2 HC d0 d1 d2 d3 f0 f1
    have d0 := X3.out.v.c0; have d1 := X3.out.v.c1; have d2 := X3.out.v.c2; have d3 := X3.out.v.c3
    have a0 := A3.out.c0; have a1 := A3.out.c1; have a2 := A3.out.c2; have a3 := A3.out.c3
    dsimp only
    go_wp2_with fail
    refine (HT.out _ X3.out.env).mono ?_
    rintro e w4 ⟨rfl, hb⟩
    have hb2 := hb.alloc hb.size (.cells #[.int .i64 xk, .int .i64 xn, .int .i64 xc, .string xs] 24)
    have X4 := Lib.hid (X3.out.keep hb2); have B4 := Lib.hid (Bx.new w4 xk xn xc xs 24)
    clear hb hb2 X3 A3 HT d0 d1 d2 d3 a0 a1 a2 a3
    have b0 := B4.out.c0; have b1 := B4.out.c1; have b2 := B4.out.c2; have b3 := B4.out.c3; have f0 := X4.out.t.c0; have f1 := X4.out.t.c1
    dsimp only
    go_wp2_with fail
    refine (HD.out _ X4.out.env).mono ?_
    rintro e w5 ⟨rfl, hb⟩
    have hb2 := hb.alloc hb.size (.cells #[.int .i64 ck, .int .i64 cn, .int .i64 cc, .string cs] 24)
    have X5 := Lib.hid (X4.out.keep hb2); have A5 := Lib.hid (Bx.new w5 ck cn cc cs 24)
    clear hb hb2 X4 B4 HD b0 b1 b2 b3 f0 f1
    have d0 := X5.out.v.c0; have d1 := X5.out.v.c1; have d2 := X5.out.v.c2; have d3 := X5.out.v.c3
    have a0 := A5.out.c0; have a1 := A5.out.c1; have a2 := A5.out.c2; have a3 := A5.out.c3
    dsimp only
    go_wp2
    go_ret
    exact Says.mk (by first | rfl | simp) X5.out.bel
  · have hk := hb1 hx
    subst hk
    have q : (x != 0) = true := by simpa using hx
    clear hb1 hb2 hx HD
    go_enter Tryz.func6, Tryz.ntmps6
    go_wp2_with fail
    refine (first4_true V _ X0.out.env).mono ?_
    rintro e w1 ⟨rfl, hb⟩
    have X1 := Lib.hid (X0.out.keep hb)
    have d0 := X1.out.v.c0; have d1 := X1.out.v.c1; have d2 := X1.out.v.c2; have d3 := X1.out.v.c3; have f0 := X1.out.t.c0; have f1 := X1.out.t.c1
    clear hb X0
    go_wp2_with fail
    refine (HF.out _).mono ?_
    rintro e w2 ⟨rfl, hb⟩
    have X2 := Lib.hid (X1.out.keep hb)
    clear hb X1 HF d0 d1 d2 d3 f0 f1
    have d0 := X2.out.v.c0; have d1 := X2.out.v.c1; have d2 := X2.out.v.c2; have d3 := X2.out.v.c3; have f0 := X2.out.t.c0; have f1 := X2.out.t.c1
    go_wp2_with fail
    refine (HC.out _ X2.out.env).mono ?_
    rintro e w3 ⟨rfl, hb⟩
    have hb2 := hb.alloc hb.size (.cells #[.int .i64 ck, .int .i64 cn, .int .i64 cc, .string cs] 24)
    have X3 := Lib.hid (X2.out.keep hb2); have A3 := Lib.hid (Bx.new w3 ck cn cc cs 24)
    clear hb hb2 X2 HC d0 d1 d2 d3 f0 f1
    have d0 := X3.out.v.c0; have d1 := X3.out.v.c1; have d2 := X3.out.v.c2; have d3 := X3.out.v.c3
    have a0 := A3.out.c0; have a1 := A3.out.c1; have a2 := A3.out.c2; have a3 := A3.out.c3
    dsimp only
    go_wp2_with fail
    refine (HT.out _ X3.out.env).mono ?_
    rintro e w4 ⟨rfl, hb⟩
    have hb2 := hb.alloc hb.size (.cells #[.int .i64 xk, .int .i64 xn, .int .i64 xc, .string xs] 24)
    have X4 := Lib.hid (X3.out.keep hb2)
    clear hb hb2 X3 A3 HT d0 d1 d2 d3 a0 a1 a2 a3
    have f0 := X4.out.t.c0; have f1 := X4.out.t.c1
    dsimp only
    go_wp2
    go_ret
    exact Says.mk (by first | rfl | simp) X4.out.bel
end Go.Proofs.YtfnnhhhkdfgefaaGreatDoor
