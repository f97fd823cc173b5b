/- The laws of layer 4 walked, over the bundle of contracts: CastFits. -/
import Derived.Test.YtfnnhhhkdfgefaaGreatDoorCastW1
import Derived.Test.YtfnnhhhkdfgefaaGreatDoorValCa
import Derived.BigRegion
import Derived.Deep.DeepCutAuto
namespace Go.Proofs.YtfnnhhhkdfgefaaGreatDoor
open Go.RowKit

theorem typ_neq (k s k' s' : Int) (w : World) :
    (binOp .neq 26 (.agg #[.int .i64 k, .int .i64 s]) (.agg #[.int .i64 k', .int .i64 s'])).run Tryz.prog w = .ok (.bool (!eqT k s k' s')) w := by
  rw [run_neq_struct, typ_eqlIn]; rfl
/-- two values side by side and two types as arguments -/
structure Vs (w : World) (a b : Vm.Cl) (k s l t : Int) (w' : World) : Prop where
  c0 : w'.cell? ⟨w.heap.size, 0, none⟩ = some (.int .i64 a.k)
  c1 : w'.cell? ⟨w.heap.size, 1, none⟩ = some (.int .i64 a.n)
  c2 : w'.cell? ⟨w.heap.size, 2, none⟩ = some (.int .i64 a.sc)
  c3 : w'.cell? ⟨w.heap.size, 3, none⟩ = some (.string a.s)
  c4 : w'.cell? ⟨w.heap.size, 4, none⟩ = some (.int .i64 b.k)
  c5 : w'.cell? ⟨w.heap.size, 5, none⟩ = some (.int .i64 b.n)
  c6 : w'.cell? ⟨w.heap.size, 6, none⟩ = some (.int .i64 b.sc)
  c7 : w'.cell? ⟨w.heap.size, 7, none⟩ = some (.string b.s)
  x : Tx (w.heap.size + 1) k s w'
  y : Tx (w.heap.size + 1 + 1) l t w'
  env : EnvV w'
  bel : Below w.heap.size w w'
theorem Vs.new (w : World) (he : EnvV w) (a b : Vm.Cl) (k s l t : Int) (u x : TypeId) :
    Vs w a b k s l t (((w.alloc (.cells #[.int .i64 a.k, .int .i64 a.n, .int .i64 a.sc, .string a.s, .int .i64 b.k, .int .i64 b.n, .int .i64 b.sc, .string b.s] u)).alloc (.cells #[.int .i64 k, .int .i64 s] x)).alloc (.cells #[.int .i64 l, .int .i64 t] x)) := by
  have h := Tx.new (w.alloc (.cells #[.int .i64 a.k, .int .i64 a.n, .int .i64 a.sc, .string a.s, .int .i64 b.k, .int .i64 b.n, .int .i64 b.sc, .string b.s] u)) k s x
  rw [show (w.alloc (.cells #[.int .i64 a.k, .int .i64 a.n, .int .i64 a.sc, .string a.s, .int .i64 b.k, .int .i64 b.n, .int .i64 b.sc, .string b.s] u)).heap.size = w.heap.size + 1 by simp] at h
  have h2 := Tx.new ((w.alloc (.cells #[.int .i64 a.k, .int .i64 a.n, .int .i64 a.sc, .string a.s, .int .i64 b.k, .int .i64 b.n, .int .i64 b.sc, .string b.s] u)).alloc (.cells #[.int .i64 k, .int .i64 s] x)) l t x
  rw [show ((w.alloc (.cells #[.int .i64 a.k, .int .i64 a.n, .int .i64 a.sc, .string a.s, .int .i64 b.k, .int .i64 b.n, .int .i64 b.sc, .string b.s] u)).alloc (.cells #[.int .i64 k, .int .i64 s] x)).heap.size = w.heap.size + 1 + 1 by simp] at h2
  have hb := two (w.alloc (.cells #[.int .i64 a.k, .int .i64 a.n, .int .i64 a.sc, .string a.s, .int .i64 b.k, .int .i64 b.n, .int .i64 b.sc, .string b.s] u)) (.cells #[.int .i64 k, .int .i64 s] x) (.cells #[.int .i64 l, .int .i64 t] x)
  exact ⟨(hb.cell (p := ⟨w.heap.size, 0, none⟩) (by simp)).trans (by simp), (hb.cell (p := ⟨w.heap.size, 1, none⟩) (by simp)).trans (by simp), (hb.cell (p := ⟨w.heap.size, 2, none⟩) (by simp)).trans (by simp), (hb.cell (p := ⟨w.heap.size, 3, none⟩) (by simp)).trans (by simp),
    (hb.cell (p := ⟨w.heap.size, 4, none⟩) (by simp)).trans (by simp), (hb.cell (p := ⟨w.heap.size, 5, none⟩) (by simp)).trans (by simp), (hb.cell (p := ⟨w.heap.size, 6, none⟩) (by simp)).trans (by simp), (hb.cell (p := ⟨w.heap.size, 7, none⟩) (by simp)).trans (by simp),
    h.keep (one _ _), h2, he.keep (three w _ _ _), three w _ _ _⟩
theorem Vs.keep {w w1 w2 : World} {a b : Vm.Cl} {k s l t : Int} (h : Vs w a b k s l t w1) (hb : Below w1.heap.size w1 w2) : Vs w a b k s l t w2 := by
  have lt : w.heap.size < w1.heap.size := by have := h.x.lt; omega
  exact ⟨(hb.cell (p := ⟨w.heap.size, 0, none⟩) lt).trans h.c0, (hb.cell (p := ⟨w.heap.size, 1, none⟩) lt).trans h.c1, (hb.cell (p := ⟨w.heap.size, 2, none⟩) lt).trans h.c2, (hb.cell (p := ⟨w.heap.size, 3, none⟩) lt).trans h.c3,
    (hb.cell (p := ⟨w.heap.size, 4, none⟩) lt).trans h.c4, (hb.cell (p := ⟨w.heap.size, 5, none⟩) lt).trans h.c5, (hb.cell (p := ⟨w.heap.size, 6, none⟩) lt).trans h.c6, (hb.cell (p := ⟨w.heap.size, 7, none⟩) lt).trans h.c7,
    h.x.keep hb, h.y.keep hb, h.env.keep hb, h.bel.trans (hb.mono h.bel.size)⟩
/-- two values and two types, each in a block of its own -/
structure Fz (w : World) (ga gb : Nat) (a b : Vm.Cl) (k s l t : Int) (w' : World) : Prop where
  a : Bx ga a.k a.n a.sc a.s w'
  b : Bx gb b.k b.n b.sc b.s w'
  x : Tx (w.heap.size + 1) k s w'
  y : Tx (w.heap.size + 1 + 1) l t w'
  env : EnvV w'
  bel : Below w.heap.size w w'
theorem Fz.keep {w w1 w2 : World} {ga gb : Nat} {a b : Vm.Cl} {k s l t : Int} (h : Fz w ga gb a b k s l t w1) (hb : Below w1.heap.size w1 w2) : Fz w ga gb a b k s l t w2 :=
  ⟨h.a.keep hb, h.b.keep hb, h.x.keep hb, h.y.keep hb, h.env.keep hb, h.bel.trans (hb.mono h.bel.size)⟩
theorem Fz.of {w w1 : World} {a b : Vm.Cl} {k s l t : Int} (h : Vs w a b k s l t w1) (u : TypeId) :
    Fz w w1.heap.size (w1.heap.size + 1) a b k s l t ((w1.alloc (.cells #[.int .i64 a.k, .int .i64 a.n, .int .i64 a.sc, .string a.s] u)).alloc (.cells #[.int .i64 b.k, .int .i64 b.n, .int .i64 b.sc, .string b.s] u)) :=
  have hb := two w1 (.cells #[.int .i64 a.k, .int .i64 a.n, .int .i64 a.sc, .string a.s] u) (.cells #[.int .i64 b.k, .int .i64 b.n, .int .i64 b.sc, .string b.s] u)
  ⟨(Bx.new w1 a.k a.n a.sc a.s u).alloc _, (Fx.next w1 _ b.k b.n b.sc b.s u).bx, h.x.keep hb, h.y.keep hb, h.env.keep hb, h.bel.trans (hb.mono h.bel.size)⟩
theorem Fz.of2 {w w1 : World} {a b : Vm.Cl} {k s l t : Int} (h : Vs w a b k s l t w1) (u : TypeId) :
    Fz w (w1.heap.size + 1) w1.heap.size a b k s l t ((w1.alloc (.cells #[.int .i64 b.k, .int .i64 b.n, .int .i64 b.sc, .string b.s] u)).alloc (.cells #[.int .i64 a.k, .int .i64 a.n, .int .i64 a.sc, .string a.s] u)) :=
  have hb := two w1 (.cells #[.int .i64 b.k, .int .i64 b.n, .int .i64 b.sc, .string b.s] u) (.cells #[.int .i64 a.k, .int .i64 a.n, .int .i64 a.sc, .string a.s] u)
  ⟨(Fx.next w1 _ a.k a.n a.sc a.s u).bx, (Bx.new w1 b.k b.n b.sc b.s u).alloc _, h.x.keep hb, h.y.keep hb, h.env.keep hb, h.bel.trans (hb.mono h.bel.size)⟩

theorem bdrew (w : World) : Below w.heap.size w w.drew := ⟨rfl, rfl, rfl, Nat.le_refl _, fun _ _ => rfl⟩

set_option maxRecDepth 100000 in
set_option maxHeartbeats 8000000 in
theorem walk_fits (V : CastCon) (a b : Vm.Cl) (k s l t : Int) (w : World) (he : EnvV w) (ha : ValOk a) (hb : ValOk b) :
    Calls Tryz.prog 5 #[.agg #[.int .i64 a.k, .int .i64 a.n, .int .i64 a.sc, .string a.s, .int .i64 b.k, .int .i64 b.n, .int .i64 b.sc, .string b.s], .agg #[.int .i64 k, .int .i64 s], .agg #[.int .i64 l, .int .i64 t]] w (Says true w) := by
  have X0 := Lib.hid (Vs.new w he a b k s l t 36 26)
  have HF := Lib.hid (V.fits k s l t)
  have HG := Lib.hid (ref4_fits k s l t)
  have HX := Lib.hid (Vm.cast_fits a b k s l t · · ha.i hb.i)
  revert HF HG HX
  generalize Vm.fits k s l t = ff
  obtain ⟨⟨x, y⟩, ok⟩ := ff
  intro HF HG HX
  have HA := Lib.hid (V.cast a x y · · ha.i ha.s)
  have HB := Lib.hid (V.cast b x y · · hb.i hb.s)
  have HOa := Lib.hid (ref3_of a.k a.n a.sc a.s k s · ha.s)
  have HOb := Lib.hid (ref3_of b.k b.n b.sc b.s l t · hb.s)
  have HC := Lib.hid (val_compare a b · · ha.i hb.i ha.s hb.s)
  have zp : (Vm.cast a x y).1.s.size ≤ maxLen := by have := Vm.right_size (Vm.cast_right a x y ha.i); unfold maxLen; omega
  have zq : (Vm.cast b x y).1.s.size ≤ maxLen := by have := Vm.right_size (Vm.cast_right b x y hb.i); unfold maxLen; omega
  have HD := Lib.hid (val_compare (Vm.cast a x y).1 (Vm.cast b x y).1 · · (Vm.cast_i64 a x y ha.i) (Vm.cast_i64 b x y hb.i) zp zq)
  have HX' := Lib.hid (HX.out x y)
  clear HX zp zq
  revert HA HB HD HX'
  generalize Vm.cast a x y = pp
  generalize Vm.cast b x y = qq
  obtain ⟨⟨pk, pn, pc, ps⟩, e⟩ := pp
  obtain ⟨⟨qk, qn, qc, qs⟩, f⟩ := qq
  dsimp only
  intro HA HB HD HX
  have za := ha.s; have zb := hb.s
  unfold maxLen at za zb
  obtain ⟨M, hM⟩ : ∃ M : Int, (if (b.s.size : Int) > (a.s.size : Int) then (b.s.size : Int) else (a.s.size : Int)) = M := ⟨_, rfl⟩
  have hmx := max2 _ _ M hM
  have tn := typ_neq x y x y
  rw [eqT_self] at tn
  clear ha hb he
  go_enter Tryz.func5, Tryz.ntmps5
  go_wp2_with fail
  refine (first4_true V _ X0.out.env).mono ?_
  rintro e w1 ⟨rfl, hb1⟩
  have X1 := Lib.hid (X0.out.keep hb1)
  have d0 := X1.out.c0; have d1 := X1.out.c1; have d2 := X1.out.c2; have d3 := X1.out.c3; have d4 := X1.out.c4; have d5 := X1.out.c5; have d6 := X1.out.c6; have d7 := X1.out.c7
  have dl : w.heap.size < w1.heap.size := by have := X1.out.x.lt; omega
  clear hb1 X0
  go_upto_region 3 with (fail)
  go_cut [7, 8] (fun s7 s8 wx => ∃ ga gb, s7 = .pointer (some ⟨ga, 0, none⟩) ∧ s8 = .pointer (some ⟨gb, 0, none⟩) ∧ Hid (Fz w ga gb a b k s l t wx))
  case first =>
    go_region
    all_goals
      go_wp2_with fail
      go_meet
      first
      | exact ⟨_, _, rfl, rfl, (Fz.of X1.out _).keep (bdrew _)⟩
      | exact ⟨_, _, rfl, rfl, (Fz.of2 X1.out _).keep (bdrew _)⟩
  case rest =>
    obtain ⟨ga, gb, rfl, rfl, F1⟩ := hcut
    clear X1 d0 d1 d2 d3 d4 d5 d6 d7 dl
    have a3 := F1.out.a.c3; have b3 := F1.out.b.c3
    by_cases hm : 500 < M
    · clear HF HG HA HB HOa HOb HC HD HX
      go_wp2
      go_ret
      exact Says.mk rfl F1.out.bel
    have hm2 : M ≤ 500 := by omega
    clear hm
    have e0 := F1.out.x.c0; have e1 := F1.out.x.c1; have f0 := F1.out.y.c0; have f1 := F1.out.y.c1
    go_wp2_with fail
    refine (HF.out _ F1.out.env).mono ?_
    rintro e' w2 ⟨rfl, hb⟩
    have hb2 := hb.alloc hb.size (.cells #[.int .i64 x, .int .i64 y] 26)
    have F2 := Lib.hid (F1.out.keep hb2); have T2 := Lib.hid (Tx.new w2 x y 26)
    clear hb hb2 F1 HF a3 b3 e0 e1 f0 f1
    have e0 := F2.out.x.c0; have e1 := F2.out.x.c1; have f0 := F2.out.y.c0; have f1 := F2.out.y.c1
    dsimp only
    go_wp2_with fail
    refine (HG.out _).mono ?_
    rintro e' w3 ⟨rfl, hb⟩
    have hb2 := hb.alloc hb.size (.cells #[.int .i64 x, .int .i64 y] 26)
    have F3 := Lib.hid (F2.out.keep hb2); have T3 := Lib.hid (T2.out.keep hb2); have U3 := Lib.hid (Tx.new w3 x y 26)
    clear hb hb2 F2 T2 HG e0 e1 f0 f1
    have t0 := T3.out.c0; have t1 := T3.out.c1; have u0 := U3.out.c0; have u1 := U3.out.c1
    dsimp only
    cases ok
    · clear HA HB HOa HOb HC HD HX
      go_wp2
      go_ret
      exact Says.mk rfl F3.out.bel
    have a0 := F3.out.a.c0; have a1 := F3.out.a.c1; have a2 := F3.out.a.c2; have a3 := F3.out.a.c3; have e0 := F3.out.x.c0; have e1 := F3.out.x.c1
    revert HOa
    cases hoa : Vm.ofB a k s
    · intro HOa
      clear HA HB HOb HC HD HX
      go_wp2_with fail
      refine (HOa.out _).mono ?_
      rintro e' w4 ⟨rfl, hb⟩
      have F4 := Lib.hid (F3.out.keep hb)
      clear hb F3
      go_wp2
      go_ret
      exact Says.mk rfl F4.out.bel
    intro HOa
    go_wp2_with fail
    refine (HOa.out _).mono ?_
    rintro e' w4 ⟨rfl, hb⟩
    have F4 := Lib.hid (F3.out.keep hb); have T4 := Lib.hid ((T3.out.keep hb))
    clear hb F3 T3 U3 HOa a0 a1 a2 a3 e0 e1 t0 t1 u0 u1
    have b0 := F4.out.b.c0; have b1 := F4.out.b.c1; have b2 := F4.out.b.c2; have b3 := F4.out.b.c3; have f0 := F4.out.y.c0; have f1 := F4.out.y.c1
    revert HOb
    cases hob : Vm.ofB b l t
    · intro HOb
      clear HA HB HC HD HX
      go_wp2_with fail
      refine (HOb.out _).mono ?_
      rintro e' w5 ⟨rfl, hb⟩
      have F5 := Lib.hid (F4.out.keep hb)
      clear hb F4
      go_wp2
      go_ret
      exact Says.mk rfl F5.out.bel
    intro HOb
    go_wp2_with fail
    refine (HOb.out _).mono ?_
    rintro e' w5 ⟨rfl, hb⟩
    have F5 := Lib.hid (F4.out.keep hb); have T5 := Lib.hid ((T4.out.keep hb))
    clear hb F4 T4 HOb b0 b1 b2 b3 f0 f1
    obtain ⟨xe, xf, xc⟩ := HX.out (by first | rfl | trivial) hoa hob
    have XC := Lib.hid xc
    clear xc HX hoa hob
    have a0 := F5.out.a.c0; have a1 := F5.out.a.c1; have a2 := F5.out.a.c2; have a3 := F5.out.a.c3; have t0 := T5.out.c0; have t1 := T5.out.c1
    go_wp2_with fail
    refine (HA.out _ F5.out.env).mono ?_
    rintro e' w6 ⟨rfl, hb⟩
    have hb2 := hb.alloc hb.size (.cells #[.int .i64 pk, .int .i64 pn, .int .i64 pc, .string ps] 24)
    have F6 := Lib.hid (F5.out.keep hb2); have T6 := Lib.hid (T5.out.keep hb2); have P6 := Lib.hid (Bx.new w6 pk pn pc ps 24)
    clear hb hb2 F5 T5 HA a0 a1 a2 a3 t0 t1
    have b0 := F6.out.b.c0; have b1 := F6.out.b.c1; have b2 := F6.out.b.c2; have b3 := F6.out.b.c3; have t0 := T6.out.c0; have t1 := T6.out.c1
    dsimp only
    go_wp2_with fail
    refine (HB.out _ F6.out.env).mono ?_
    rintro e' w7 ⟨rfl, hb⟩
    have hb2 := hb.alloc hb.size (.cells #[.int .i64 qk, .int .i64 qn, .int .i64 qc, .string qs] 24)
    have F7 := Lib.hid (F6.out.keep hb2); have P7 := Lib.hid (P6.out.keep hb2); have Q7 := Lib.hid (Bx.new w7 qk qn qc qs 24)
    clear hb hb2 F6 T6 P6 HB b0 b1 b2 b3 t0 t1
    dsimp only
    rcases xe with rfl | rfl
    · rcases xf with rfl | rfl
      · have xc := XC.out rfl rfl
        revert HC HD xc
        show Hid (∀ W, EnvV W → Calls _ _ _ W (NumB (Vm.comp (Vm.plain a) (Vm.plain b)) W)) → Hid (∀ W, EnvV W → Calls _ _ _ W (NumB (Vm.comp (Vm.plain ⟨pk, pn, pc, ps⟩) (Vm.plain ⟨qk, qn, qc, qs⟩)) W)) → _ → _
        intro HC HD xc
        rw [← xc] at HD
        revert HC HD
        generalize Vm.comp (Vm.plain a) (Vm.plain b) = cc
        obtain ⟨c1, c2⟩ := cc
        intro HC HD
        clear xc XC
        have a0 := F7.out.a.c0; have a1 := F7.out.a.c1; have a2 := F7.out.a.c2; have a3 := F7.out.a.c3; have b0 := F7.out.b.c0; have b1 := F7.out.b.c1; have b2 := F7.out.b.c2; have b3 := F7.out.b.c3
        go_wp2_with fail
        refine (HC.out _ F7.out.env).mono ?_
        rintro e' w8 ⟨rfl, hb⟩
        have F8 := Lib.hid (F7.out.keep hb); have P8 := Lib.hid (P7.out.keep hb); have Q8 := Lib.hid (Q7.out.keep hb)
        clear hb F7 P7 Q7 HC a0 a1 a2 a3 b0 b1 b2 b3
        have a0 := P8.out.c0; have a1 := P8.out.c1; have a2 := P8.out.c2; have a3 := P8.out.c3; have b0 := Q8.out.c0; have b1 := Q8.out.c1; have b2 := Q8.out.c2; have b3 := Q8.out.c3
        try dsimp only
        go_wp2_with fail
        refine (HD.out _ F8.out.env).mono ?_
        rintro e' w9 ⟨rfl, hb⟩
        have F9 := Lib.hid (F8.out.keep hb)
        clear hb F8 P8 Q8 HD a0 a1 a2 a3 b0 b1 b2 b3
        have q1 : (c1 == c1) = true := by simp
        have q2 : (c2 == c2) = true := by simp
        dsimp only
        go_wp2
        go_ret
        exact Says.mk (by first | rfl | simp) F9.out.bel
      · clear HC HD XC
        go_wp2
        go_ret
        exact Says.mk (by first | rfl | simp) F7.out.bel
    · clear HC HD XC
      go_wp2
      go_ret
      exact Says.mk (by first | rfl | simp) F7.out.bel
end Go.Proofs.YtfnnhhhkdfgefaaGreatDoor
