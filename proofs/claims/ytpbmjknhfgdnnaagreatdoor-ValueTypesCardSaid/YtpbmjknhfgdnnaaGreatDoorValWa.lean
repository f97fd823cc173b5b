/- The laws of layer 3 walked, over the bundle of contracts: ValueOrder. -/
import Derived.Test.YtpbmjknhfgdnnaaGreatDoorValFm
namespace Go.Proofs.YtpbmjknhfgdnnaaGreatDoor
open Go.RowKit

theorem max3 (x y z M : Int) (h : (if z > (if y > x then y else x) then z else (if y > x then y else x)) = M) (W : World) : (Builtin.max_ #[3, 3, 3] 3 #[.int .i64 x, .int .i64 y, .int .i64 z]).run Tryz.prog W = .ok (.int .i64 M) W := by
  rw [← h]
  simp [Builtin.max_, Builtin.max2]
theorem plain_of {c : Vm.Cl} (h : Vm.rightB c = true) : Vm.plain c = c := by unfold Vm.plain; rw [h]; rfl
/-- three values in blocks of their own, and what stands below them -/
structure Three (w : World) (ak an ac : Int) (as' : ByteArray) (bk bn bc : Int) (bs : ByteArray) (ck cn cc : Int) (cs : ByteArray) (w' : World) : Prop where
  a : Bx w.heap.size ak an ac as' w'
  b : Bx (w.heap.size + 1) bk bn bc bs w'
  c : Bx (w.heap.size + 2) ck cn cc cs w'
  bel : Below w.heap.size w w'
  env : EnvV w'
theorem Three.keep {w w1 w2 : World} {ak an ac : Int} {as' : ByteArray} {bk bn bc : Int} {bs : ByteArray} {ck cn cc : Int} {cs : ByteArray} (h : Three w ak an ac as' bk bn bc bs ck cn cc cs w1) (hb : Below w1.heap.size w1 w2) : Three w ak an ac as' bk bn bc bs ck cn cc cs w2 :=
  ⟨h.a.keep hb, h.b.keep hb, h.c.keep hb, h.bel.trans (hb.mono h.bel.size), h.env.keep hb⟩
theorem Three.start (w : World) (he : EnvV w) (ak an ac : Int) (as' : ByteArray) (bk bn bc : Int) (bs : ByteArray) (ck cn cc : Int) (cs : ByteArray) (t : TypeId) :
    Three w ak an ac as' bk bn bc bs ck cn cc cs (((w.alloc (.cells #[.int .i64 ak, .int .i64 an, .int .i64 ac, .string as'] t)).alloc (.cells #[.int .i64 bk, .int .i64 bn, .int .i64 bc, .string bs] t)).alloc (.cells #[.int .i64 ck, .int .i64 cn, .int .i64 cc, .string cs] t)) := by
  have g1 : (w.alloc (.cells #[.int .i64 ak, .int .i64 an, .int .i64 ac, .string as'] t)).heap.size = w.heap.size + 1 := by simp
  have g2 : ((w.alloc (.cells #[.int .i64 ak, .int .i64 an, .int .i64 ac, .string as'] t)).alloc (.cells #[.int .i64 bk, .int .i64 bn, .int .i64 bc, .string bs] t)).heap.size = w.heap.size + 2 := by simp
  have hb := Bx.new (w.alloc (.cells #[.int .i64 ak, .int .i64 an, .int .i64 ac, .string as'] t)) bk bn bc bs t
  rw [g1] at hb
  have hc := Bx.new ((w.alloc (.cells #[.int .i64 ak, .int .i64 an, .int .i64 ac, .string as'] t)).alloc (.cells #[.int .i64 bk, .int .i64 bn, .int .i64 bc, .string bs] t)) ck cn cc cs t
  rw [g2] at hc
  have hl := (two w (.cells #[.int .i64 ak, .int .i64 an, .int .i64 ac, .string as'] t) (.cells #[.int .i64 bk, .int .i64 bn, .int .i64 bc, .string bs] t)).alloc (by simp; omega) (.cells #[.int .i64 ck, .int .i64 cn, .int .i64 cc, .string cs] t)
  exact ⟨((Bx.new w ak an ac as' t).alloc _).alloc _, hb.alloc _, hc, hl, he.keep hl⟩

set_option maxRecDepth 100000 in
set_option maxHeartbeats 4000000 in
theorem ord_big (V : ValCon) (ak an ac : Int) (as' : ByteArray) (bk bn bc : Int) (bs : ByteArray) (ck cn cc : Int) (cs : ByteArray) (w : World) (he : EnvV w) (ha : ValOk ⟨ak, an, ac, as'⟩) (hb : ValOk ⟨bk, bn, bc, bs⟩) (hc : ValOk ⟨ck, cn, cc, cs⟩) (hbig : 500 < as'.size ∨ 500 < bs.size ∨ 500 < cs.size) :
    Calls Tryz.prog 5 #[.agg #[.int .i64 ak, .int .i64 an, .int .i64 ac, .string as'], .agg #[.int .i64 bk, .int .i64 bn, .int .i64 bc, .string bs], .agg #[.int .i64 ck, .int .i64 cn, .int .i64 cc, .string cs]] w (Says true w) := by
  have za := ha.s; have zb := hb.s; have zc := hc.s
  have ia := Lib.hid ha.i; have ib := Lib.hid hb.i; have ic' := Lib.hid hc.i
  dsimp only at za zb zc ia ib ic'
  have T0 := Lib.hid (Three.start w he ak an ac as' bk bn bc bs ck cn cc cs 24)
  have ZA := Lib.hid za; have ZB := Lib.hid zb; have ZC := Lib.hid zc
  unfold maxLen at za zb zc
  clear he ha hb hc
  obtain ⟨M, hM⟩ : ∃ M : Int, (if (cs.size : Int) > (if (bs.size : Int) > (as'.size : Int) then (bs.size : Int) else (as'.size : Int)) then (cs.size : Int) else (if (bs.size : Int) > (as'.size : Int) then (bs.size : Int) else (as'.size : Int))) = M := ⟨_, rfl⟩
  have hmx := max3 (as'.size : Int) (bs.size : Int) (cs.size : Int) M hM
  have hm : (500 : Int) < M := by rw [← hM]; repeat' split
                                  all_goals omega
  clear hbig hM
  go_enter Tryz.func5, Tryz.ntmps5
  go_wp2_with fail
  refine (first3_true V _ T0.out.env).mono ?_
  rintro e w1 ⟨rfl, hb⟩
  have T1 := Lib.hid (T0.out.keep hb)
  clear hb T0
  have a0 := T1.out.a.c0; have a1 := T1.out.a.c1; have a2 := T1.out.a.c2; have a3 := T1.out.a.c3; have b0 := T1.out.b.c0; have b1 := T1.out.b.c1; have b2 := T1.out.b.c2; have b3 := T1.out.b.c3; have c0 := T1.out.c.c0; have c1 := T1.out.c.c1; have c2 := T1.out.c.c2; have c3 := T1.out.c.c3
  go_wp2
  go_ret
  exact Says.mk (by first | rfl | simp) T1.out.bel
set_option maxRecDepth 100000 in
set_option maxHeartbeats 4000000 in
theorem ord_na (V : ValCon) (ak an ac : Int) (as' : ByteArray) (bk bn bc : Int) (bs : ByteArray) (ck cn cc : Int) (cs : ByteArray) (w : World) (he : EnvV w) (ha : ValOk ⟨ak, an, ac, as'⟩) (hb : ValOk ⟨bk, bn, bc, bs⟩) (hc : ValOk ⟨ck, cn, cc, cs⟩) (hbig : as'.size ≤ 500 ∧ bs.size ≤ 500 ∧ cs.size ≤ 500) (ra : Vm.rightB ⟨ak, an, ac, as'⟩ = false) :
    Calls Tryz.prog 5 #[.agg #[.int .i64 ak, .int .i64 an, .int .i64 ac, .string as'], .agg #[.int .i64 bk, .int .i64 bn, .int .i64 bc, .string bs], .agg #[.int .i64 ck, .int .i64 cn, .int .i64 cc, .string cs]] w (Says true w) := by
  have za := ha.s; have zb := hb.s; have zc := hc.s
  have ia := Lib.hid ha.i; have ib := Lib.hid hb.i; have ic' := Lib.hid hc.i
  dsimp only at za zb zc ia ib ic'
  have T0 := Lib.hid (Three.start w he ak an ac as' bk bn bc bs ck cn cc cs 24)
  have ZA := Lib.hid za; have ZB := Lib.hid zb; have ZC := Lib.hid zc
  unfold maxLen at za zb zc
  clear he ha hb hc
  obtain ⟨M, hM⟩ : ∃ M : Int, (if (cs.size : Int) > (if (bs.size : Int) > (as'.size : Int) then (bs.size : Int) else (as'.size : Int)) then (cs.size : Int) else (if (bs.size : Int) > (as'.size : Int) then (bs.size : Int) else (as'.size : Int))) = M := ⟨_, rfl⟩
  have hmx := max3 (as'.size : Int) (bs.size : Int) (cs.size : Int) M hM
  have hm : M ≤ 500 := by rw [← hM]; repeat' split
                          all_goals omega
  clear hbig hM
  have HRa := Lib.hid (ref3_right ak an ac as' · ZA.out)
  rw [ra] at HRa
  clear ra
  go_enter Tryz.func5, Tryz.ntmps5
  go_wp2_with fail
  refine (first3_true V _ T0.out.env).mono ?_
  rintro e w1 ⟨rfl, hb⟩
  have T1 := Lib.hid (T0.out.keep hb)
  clear hb T0
  have a0 := T1.out.a.c0; have a1 := T1.out.a.c1; have a2 := T1.out.a.c2; have a3 := T1.out.a.c3; have b0 := T1.out.b.c0; have b1 := T1.out.b.c1; have b2 := T1.out.b.c2; have b3 := T1.out.b.c3; have c0 := T1.out.c.c0; have c1 := T1.out.c.c1; have c2 := T1.out.c.c2; have c3 := T1.out.c.c3
  go_wp2_with fail
  refine (HRa.out _).mono ?_
  rintro e w2 ⟨rfl, hb⟩
  have T2 := Lib.hid (T1.out.keep hb)
  clear hb HRa T1
  clear a0 a1 a2 a3 b0 b1 b2 b3 c0 c1 c2 c3
  have a0 := T2.out.a.c0; have a1 := T2.out.a.c1; have a2 := T2.out.a.c2; have a3 := T2.out.a.c3; have b0 := T2.out.b.c0; have b1 := T2.out.b.c1; have b2 := T2.out.b.c2; have b3 := T2.out.b.c3; have c0 := T2.out.c.c0; have c1 := T2.out.c.c1; have c2 := T2.out.c.c2; have c3 := T2.out.c.c3
  go_wp2
  go_ret
  exact Says.mk (by first | rfl | simp) T2.out.bel
set_option maxRecDepth 100000 in
set_option maxHeartbeats 4000000 in
theorem ord_nb (V : ValCon) (ak an ac : Int) (as' : ByteArray) (bk bn bc : Int) (bs : ByteArray) (ck cn cc : Int) (cs : ByteArray) (w : World) (he : EnvV w) (ha : ValOk ⟨ak, an, ac, as'⟩) (hb : ValOk ⟨bk, bn, bc, bs⟩) (hc : ValOk ⟨ck, cn, cc, cs⟩) (hbig : as'.size ≤ 500 ∧ bs.size ≤ 500 ∧ cs.size ≤ 500) (ra : Vm.rightB ⟨ak, an, ac, as'⟩ = true) (rb : Vm.rightB ⟨bk, bn, bc, bs⟩ = false) :
    Calls Tryz.prog 5 #[.agg #[.int .i64 ak, .int .i64 an, .int .i64 ac, .string as'], .agg #[.int .i64 bk, .int .i64 bn, .int .i64 bc, .string bs], .agg #[.int .i64 ck, .int .i64 cn, .int .i64 cc, .string cs]] w (Says true w) := by
  have za := ha.s; have zb := hb.s; have zc := hc.s
  have ia := Lib.hid ha.i; have ib := Lib.hid hb.i; have ic' := Lib.hid hc.i
  dsimp only at za zb zc ia ib ic'
  have T0 := Lib.hid (Three.start w he ak an ac as' bk bn bc bs ck cn cc cs 24)
  have ZA := Lib.hid za; have ZB := Lib.hid zb; have ZC := Lib.hid zc
  unfold maxLen at za zb zc
  clear he ha hb hc
  obtain ⟨M, hM⟩ : ∃ M : Int, (if (cs.size : Int) > (if (bs.size : Int) > (as'.size : Int) then (bs.size : Int) else (as'.size : Int)) then (cs.size : Int) else (if (bs.size : Int) > (as'.size : Int) then (bs.size : Int) else (as'.size : Int))) = M := ⟨_, rfl⟩
  have hmx := max3 (as'.size : Int) (bs.size : Int) (cs.size : Int) M hM
  have hm : M ≤ 500 := by rw [← hM]; repeat' split
                          all_goals omega
  clear hbig hM
  have HRa := Lib.hid (ref3_right ak an ac as' · ZA.out)
  rw [ra] at HRa
  have HRb := Lib.hid (ref3_right bk bn bc bs · ZB.out)
  rw [rb] at HRb
  clear ra rb
  go_enter Tryz.func5, Tryz.ntmps5
  go_wp2_with fail
  refine (first3_true V _ T0.out.env).mono ?_
  rintro e w1 ⟨rfl, hb⟩
  have T1 := Lib.hid (T0.out.keep hb)
  clear hb T0
  have a0 := T1.out.a.c0; have a1 := T1.out.a.c1; have a2 := T1.out.a.c2; have a3 := T1.out.a.c3; have b0 := T1.out.b.c0; have b1 := T1.out.b.c1; have b2 := T1.out.b.c2; have b3 := T1.out.b.c3; have c0 := T1.out.c.c0; have c1 := T1.out.c.c1; have c2 := T1.out.c.c2; have c3 := T1.out.c.c3
  go_wp2_with fail
  refine (HRa.out _).mono ?_
  rintro e w2 ⟨rfl, hb⟩
  have T2 := Lib.hid (T1.out.keep hb)
  clear hb HRa T1
  clear a0 a1 a2 a3 b0 b1 b2 b3 c0 c1 c2 c3
  have a0 := T2.out.a.c0; have a1 := T2.out.a.c1; have a2 := T2.out.a.c2; have a3 := T2.out.a.c3; have b0 := T2.out.b.c0; have b1 := T2.out.b.c1; have b2 := T2.out.b.c2; have b3 := T2.out.b.c3; have c0 := T2.out.c.c0; have c1 := T2.out.c.c1; have c2 := T2.out.c.c2; have c3 := T2.out.c.c3
  go_wp2_with fail
  refine (HRb.out _).mono ?_
  rintro e w3 ⟨rfl, hb⟩
  have T3 := Lib.hid (T2.out.keep hb)
  clear hb HRb T2
  clear a0 a1 a2 a3 b0 b1 b2 b3 c0 c1 c2 c3
  have a0 := T3.out.a.c0; have a1 := T3.out.a.c1; have a2 := T3.out.a.c2; have a3 := T3.out.a.c3; have b0 := T3.out.b.c0; have b1 := T3.out.b.c1; have b2 := T3.out.b.c2; have b3 := T3.out.b.c3; have c0 := T3.out.c.c0; have c1 := T3.out.c.c1; have c2 := T3.out.c.c2; have c3 := T3.out.c.c3
  go_wp2
  go_ret
  exact Says.mk (by first | rfl | simp) T3.out.bel
set_option maxRecDepth 100000 in
set_option maxHeartbeats 4000000 in
theorem ord_nc (V : ValCon) (ak an ac : Int) (as' : ByteArray) (bk bn bc : Int) (bs : ByteArray) (ck cn cc : Int) (cs : ByteArray) (w : World) (he : EnvV w) (ha : ValOk ⟨ak, an, ac, as'⟩) (hb : ValOk ⟨bk, bn, bc, bs⟩) (hc : ValOk ⟨ck, cn, cc, cs⟩) (hbig : as'.size ≤ 500 ∧ bs.size ≤ 500 ∧ cs.size ≤ 500) (ra : Vm.rightB ⟨ak, an, ac, as'⟩ = true) (rb : Vm.rightB ⟨bk, bn, bc, bs⟩ = true) (rc : Vm.rightB ⟨ck, cn, cc, cs⟩ = false) :
    Calls Tryz.prog 5 #[.agg #[.int .i64 ak, .int .i64 an, .int .i64 ac, .string as'], .agg #[.int .i64 bk, .int .i64 bn, .int .i64 bc, .string bs], .agg #[.int .i64 ck, .int .i64 cn, .int .i64 cc, .string cs]] w (Says true w) := by
  have za := ha.s; have zb := hb.s; have zc := hc.s
  have ia := Lib.hid ha.i; have ib := Lib.hid hb.i; have ic' := Lib.hid hc.i
  dsimp only at za zb zc ia ib ic'
  have T0 := Lib.hid (Three.start w he ak an ac as' bk bn bc bs ck cn cc cs 24)
  have ZA := Lib.hid za; have ZB := Lib.hid zb; have ZC := Lib.hid zc
  unfold maxLen at za zb zc
  clear he ha hb hc
  obtain ⟨M, hM⟩ : ∃ M : Int, (if (cs.size : Int) > (if (bs.size : Int) > (as'.size : Int) then (bs.size : Int) else (as'.size : Int)) then (cs.size : Int) else (if (bs.size : Int) > (as'.size : Int) then (bs.size : Int) else (as'.size : Int))) = M := ⟨_, rfl⟩
  have hmx := max3 (as'.size : Int) (bs.size : Int) (cs.size : Int) M hM
  have hm : M ≤ 500 := by rw [← hM]; repeat' split
                          all_goals omega
  clear hbig hM
  have HRa := Lib.hid (ref3_right ak an ac as' · ZA.out)
  rw [ra] at HRa
  have HRb := Lib.hid (ref3_right bk bn bc bs · ZB.out)
  rw [rb] at HRb
  have HRc := Lib.hid (ref3_right ck cn cc cs · ZC.out)
  rw [rc] at HRc
  clear ra rb rc
  go_enter Tryz.func5, Tryz.ntmps5
  go_wp2_with fail
  refine (first3_true V _ T0.out.env).mono ?_
  rintro e w1 ⟨rfl, hb⟩
  have T1 := Lib.hid (T0.out.keep hb)
  clear hb T0
  have a0 := T1.out.a.c0; have a1 := T1.out.a.c1; have a2 := T1.out.a.c2; have a3 := T1.out.a.c3; have b0 := T1.out.b.c0; have b1 := T1.out.b.c1; have b2 := T1.out.b.c2; have b3 := T1.out.b.c3; have c0 := T1.out.c.c0; have c1 := T1.out.c.c1; have c2 := T1.out.c.c2; have c3 := T1.out.c.c3
  go_wp2_with fail
  refine (HRa.out _).mono ?_
  rintro e w2 ⟨rfl, hb⟩
  have T2 := Lib.hid (T1.out.keep hb)
  clear hb HRa T1
  clear a0 a1 a2 a3 b0 b1 b2 b3 c0 c1 c2 c3
  have a0 := T2.out.a.c0; have a1 := T2.out.a.c1; have a2 := T2.out.a.c2; have a3 := T2.out.a.c3; have b0 := T2.out.b.c0; have b1 := T2.out.b.c1; have b2 := T2.out.b.c2; have b3 := T2.out.b.c3; have c0 := T2.out.c.c0; have c1 := T2.out.c.c1; have c2 := T2.out.c.c2; have c3 := T2.out.c.c3
  go_wp2_with fail
  refine (HRb.out _).mono ?_
  rintro e w3 ⟨rfl, hb⟩
  have T3 := Lib.hid (T2.out.keep hb)
  clear hb HRb T2
  clear a0 a1 a2 a3 b0 b1 b2 b3 c0 c1 c2 c3
  have a0 := T3.out.a.c0; have a1 := T3.out.a.c1; have a2 := T3.out.a.c2; have a3 := T3.out.a.c3; have b0 := T3.out.b.c0; have b1 := T3.out.b.c1; have b2 := T3.out.b.c2; have b3 := T3.out.b.c3; have c0 := T3.out.c.c0; have c1 := T3.out.c.c1; have c2 := T3.out.c.c2; have c3 := T3.out.c.c3
  go_wp2_with fail
  refine (HRc.out _).mono ?_
  rintro e w4 ⟨rfl, hb⟩
  have T4 := Lib.hid (T3.out.keep hb)
  clear hb HRc T3
  clear a0 a1 a2 a3 b0 b1 b2 b3 c0 c1 c2 c3
  have a0 := T4.out.a.c0; have a1 := T4.out.a.c1; have a2 := T4.out.a.c2; have a3 := T4.out.a.c3; have b0 := T4.out.b.c0; have b1 := T4.out.b.c1; have b2 := T4.out.b.c2; have b3 := T4.out.b.c3; have c0 := T4.out.c.c0; have c1 := T4.out.c.c1; have c2 := T4.out.c.c2; have c3 := T4.out.c.c3
  go_wp2
  go_ret
  exact Says.mk (by first | rfl | simp) T4.out.bel
end Go.Proofs.YtpbmjknhfgdnnaaGreatDoor
/- The laws of layer 3 walked, over the bundle of contracts: ValueOrder where all three values are right. -/
namespace Go.Proofs.YtpbmjknhfgdnnaaGreatDoor
open Go.RowKit

set_option maxRecDepth 100000 in
set_option maxHeartbeats 4000000 in
theorem ord_all (V : ValCon) (ak an ac : Int) (as' : ByteArray) (bk bn bc : Int) (bs : ByteArray) (ck cn cc : Int) (cs : ByteArray) (w : World) (he : EnvV w) (ha : ValOk ⟨ak, an, ac, as'⟩) (hb : ValOk ⟨bk, bn, bc, bs⟩) (hc : ValOk ⟨ck, cn, cc, cs⟩) (hbig : as'.size ≤ 500 ∧ bs.size ≤ 500 ∧ cs.size ≤ 500) (ra : Vm.rightB ⟨ak, an, ac, as'⟩ = true) (rb : Vm.rightB ⟨bk, bn, bc, bs⟩ = true) (rc : Vm.rightB ⟨ck, cn, cc, cs⟩ = true) :
    Calls Tryz.prog 5 #[.agg #[.int .i64 ak, .int .i64 an, .int .i64 ac, .string as'], .agg #[.int .i64 bk, .int .i64 bn, .int .i64 bc, .string bs], .agg #[.int .i64 ck, .int .i64 cn, .int .i64 cc, .string cs]] w (Says true w) := by
  have za := ha.s; have zb := hb.s; have zc := hc.s
  have ia := Lib.hid ha.i; have ib := Lib.hid hb.i; have ic' := Lib.hid hc.i
  dsimp only at za zb zc ia ib ic'
  have T0 := Lib.hid (Three.start w he ak an ac as' bk bn bc bs ck cn cc cs 24)
  have ZA := Lib.hid za; have ZB := Lib.hid zb; have ZC := Lib.hid zc
  unfold maxLen at za zb zc
  clear he ha hb hc
  obtain ⟨M, hM⟩ : ∃ M : Int, (if (cs.size : Int) > (if (bs.size : Int) > (as'.size : Int) then (bs.size : Int) else (as'.size : Int)) then (cs.size : Int) else (if (bs.size : Int) > (as'.size : Int) then (bs.size : Int) else (as'.size : Int))) = M := ⟨_, rfl⟩
  have hmx := max3 (as'.size : Int) (bs.size : Int) (cs.size : Int) M hM
  have hm : M ≤ 500 := by rw [← hM]; repeat' split
                          all_goals omega
  clear hbig hM
  have HRa := Lib.hid (ref3_right ak an ac as' · ZA.out)
  rw [ra] at HRa
  have HRb := Lib.hid (ref3_right bk bn bc bs · ZB.out)
  rw [rb] at HRb
  have HRc := Lib.hid (ref3_right ck cn cc cs · ZC.out)
  rw [rc] at HRc
  have oab := V.order ⟨ak, an, ac, as'⟩ ⟨bk, bn, bc, bs⟩; have oba := V.order ⟨bk, bn, bc, bs⟩ ⟨ak, an, ac, as'⟩
  have obc := V.order ⟨bk, bn, bc, bs⟩ ⟨ck, cn, cc, cs⟩; have oac := V.order ⟨ak, an, ac, as'⟩ ⟨ck, cn, cc, cs⟩
  have cab := V.compare ⟨ak, an, ac, as'⟩ ⟨bk, bn, bc, bs⟩
  rw [plain_of ra, plain_of rb] at oab oba cab
  rw [plain_of rb, plain_of rc] at obc
  rw [plain_of ra, plain_of rc] at oac
  have f1 := Vm.order_anti _ _ ra rb
  have f2 := Vm.order_zero _ _ ra rb
  have f3 := Vm.comp_order ⟨ak, an, ac, as'⟩ ⟨bk, bn, bc, bs⟩
  have f4 := Vm.order_trans _ _ _ ra rb rc
  have f5 := Vm.order_range ⟨ak, an, ac, as'⟩ ⟨bk, bn, bc, bs⟩
  have f6 := eqB_val ⟨ak, an, ac, as'⟩ ⟨bk, bn, bc, bs⟩
  clear ra rb rc
  have OAB := Lib.hid oab; have OBA := Lib.hid oba; have OBC := Lib.hid obc; have OAC := Lib.hid oac; have CAB := Lib.hid cab
  clear oab oba obc oac cab
  revert OAB OBA OBC OAC CAB f1 f2 f3 f4 f5
  generalize Vm.order ⟨ak, an, ac, as'⟩ ⟨bk, bn, bc, bs⟩ = xab
  generalize Vm.order ⟨bk, bn, bc, bs⟩ ⟨ak, an, ac, as'⟩ = xba
  generalize Vm.order ⟨bk, bn, bc, bs⟩ ⟨ck, cn, cc, cs⟩ = xbc
  generalize Vm.order ⟨ak, an, ac, as'⟩ ⟨ck, cn, cc, cs⟩ = xac
  generalize Vm.comp ⟨ak, an, ac, as'⟩ ⟨bk, bn, bc, bs⟩ = y
  obtain ⟨y1, y2⟩ := y
  intro f1 f2 f3 f4 f5 OAB OBA OBC OAC CAB
  have heq := val_eql ak an ac as' bk bn bc bs
  have hz : eqB ak an ac as' bk bn bc bs = decide (xab = 0) := by
    have h : eqB ak an ac as' bk bn bc bs = decide ((⟨ak, an, ac, as'⟩ : Vm.Cl) = ⟨bk, bn, bc, bs⟩) := f6
    rw [h]; exact decide_eq_decide.2 f2.symm
  rw [hz] at heq
  have hq1 : (xab != -xba) = false := by rw [f1]; simp
  have hq2 : ((xab == 0) != decide (xab = 0)) = false := by rw [beq_dec]; simp
  have hq3 : y2 = true → y1 ≠ 0 → y1 = xab := f3
  have hw1 : IntKind.i64.wrap (-xba) = -xba := IntWalk.i64_in _ (by omega)
  clear f2 f3 f6 hz
  go_enter Tryz.func5, Tryz.ntmps5
  go_wp2_with fail
  refine (first3_true V _ T0.out.env).mono ?_
  rintro e w1 ⟨rfl, hb⟩
  have T1 := Lib.hid (T0.out.keep hb)
  clear hb T0
  have a0 := T1.out.a.c0; have a1 := T1.out.a.c1; have a2 := T1.out.a.c2; have a3 := T1.out.a.c3; have b0 := T1.out.b.c0; have b1 := T1.out.b.c1; have b2 := T1.out.b.c2; have b3 := T1.out.b.c3; have c0 := T1.out.c.c0; have c1 := T1.out.c.c1; have c2 := T1.out.c.c2; have c3 := T1.out.c.c3
  go_wp2_with fail
  refine (HRa.out _).mono ?_
  rintro e w2 ⟨rfl, hb⟩
  have T2 := Lib.hid (T1.out.keep hb)
  clear hb HRa T1
  clear a0 a1 a2 a3 b0 b1 b2 b3 c0 c1 c2 c3
  have a0 := T2.out.a.c0; have a1 := T2.out.a.c1; have a2 := T2.out.a.c2; have a3 := T2.out.a.c3; have b0 := T2.out.b.c0; have b1 := T2.out.b.c1; have b2 := T2.out.b.c2; have b3 := T2.out.b.c3; have c0 := T2.out.c.c0; have c1 := T2.out.c.c1; have c2 := T2.out.c.c2; have c3 := T2.out.c.c3
  go_wp2_with fail
  refine (HRb.out _).mono ?_
  rintro e w3 ⟨rfl, hb⟩
  have T3 := Lib.hid (T2.out.keep hb)
  clear hb HRb T2
  clear a0 a1 a2 a3 b0 b1 b2 b3 c0 c1 c2 c3
  have a0 := T3.out.a.c0; have a1 := T3.out.a.c1; have a2 := T3.out.a.c2; have a3 := T3.out.a.c3; have b0 := T3.out.b.c0; have b1 := T3.out.b.c1; have b2 := T3.out.b.c2; have b3 := T3.out.b.c3; have c0 := T3.out.c.c0; have c1 := T3.out.c.c1; have c2 := T3.out.c.c2; have c3 := T3.out.c.c3
  go_wp2_with fail
  refine (HRc.out _).mono ?_
  rintro e w4 ⟨rfl, hb⟩
  have T4 := Lib.hid (T3.out.keep hb)
  clear hb HRc T3
  clear a0 a1 a2 a3 b0 b1 b2 b3 c0 c1 c2 c3
  have a0 := T4.out.a.c0; have a1 := T4.out.a.c1; have a2 := T4.out.a.c2; have a3 := T4.out.a.c3; have b0 := T4.out.b.c0; have b1 := T4.out.b.c1; have b2 := T4.out.b.c2; have b3 := T4.out.b.c3; have c0 := T4.out.c.c0; have c1 := T4.out.c.c1; have c2 := T4.out.c.c2; have c3 := T4.out.c.c3
  go_wp2_with fail
  refine (OAB.out _ T4.out.env ia.out ib.out ZA.out ZB.out).mono ?_
  rintro e w5 ⟨rfl, hb⟩
  have T5 := Lib.hid (T4.out.keep hb)
  clear hb OAB T4
  clear a0 a1 a2 a3 b0 b1 b2 b3 c0 c1 c2 c3
  have a0 := T5.out.a.c0; have a1 := T5.out.a.c1; have a2 := T5.out.a.c2; have a3 := T5.out.a.c3; have b0 := T5.out.b.c0; have b1 := T5.out.b.c1; have b2 := T5.out.b.c2; have b3 := T5.out.b.c3; have c0 := T5.out.c.c0; have c1 := T5.out.c.c1; have c2 := T5.out.c.c2; have c3 := T5.out.c.c3
  go_wp2_with fail
  refine (CAB.out _ T5.out.env ia.out ib.out ZA.out ZB.out).mono ?_
  rintro e w6 ⟨rfl, hb⟩
  have T6 := Lib.hid (T5.out.keep hb)
  clear hb CAB T5
  clear a0 a1 a2 a3 b0 b1 b2 b3 c0 c1 c2 c3
  have a0 := T6.out.a.c0; have a1 := T6.out.a.c1; have a2 := T6.out.a.c2; have a3 := T6.out.a.c3; have b0 := T6.out.b.c0; have b1 := T6.out.b.c1; have b2 := T6.out.b.c2; have b3 := T6.out.b.c3; have c0 := T6.out.c.c0; have c1 := T6.out.c.c1; have c2 := T6.out.c.c2; have c3 := T6.out.c.c3
  dsimp only
  go_wp2_with fail
  refine (OBA.out _ T6.out.env ib.out ia.out ZB.out ZA.out).mono ?_
  rintro e w7 ⟨rfl, hb⟩
  have T7 := Lib.hid (T6.out.keep hb)
  clear hb OBA T6
  clear a0 a1 a2 a3 b0 b1 b2 b3 c0 c1 c2 c3
  have a0 := T7.out.a.c0; have a1 := T7.out.a.c1; have a2 := T7.out.a.c2; have a3 := T7.out.a.c3; have b0 := T7.out.b.c0; have b1 := T7.out.b.c1; have b2 := T7.out.b.c2; have b3 := T7.out.b.c3; have c0 := T7.out.c.c0; have c1 := T7.out.c.c1; have c2 := T7.out.c.c2; have c3 := T7.out.c.c3
  by_cases hx0 : xab = 0
  · rw [decide_eq_true hx0] at heq
    have q0 : (xab == 0) = true := by rw [hx0]; rfl
    have hab : xab ≤ 0 := by omega
    have hxba : xba = 0 := by omega
    clear f1
    subst hx0 hxba
    clear hq1 hq2
    cases y2
    · go_wp2_with fail
      refine (OBC.out _ T7.out.env ib.out ic'.out ZB.out ZC.out).mono ?_
      rintro e w8 ⟨rfl, hb⟩
      have T8 := Lib.hid (T7.out.keep hb)
      clear hb OBC T7
      clear a0 a1 a2 a3 b0 b1 b2 b3 c0 c1 c2 c3
      have a0 := T8.out.a.c0; have a1 := T8.out.a.c1; have a2 := T8.out.a.c2; have a3 := T8.out.a.c3; have b0 := T8.out.b.c0; have b1 := T8.out.b.c1; have b2 := T8.out.b.c2; have b3 := T8.out.b.c3; have c0 := T8.out.c.c0; have c1 := T8.out.c.c1; have c2 := T8.out.c.c2; have c3 := T8.out.c.c3
      by_cases hbc : xbc ≤ 0
      · have hac := f4 hab hbc
        go_wp2_with fail
        refine (OAC.out _ T8.out.env ia.out ic'.out ZA.out ZC.out).mono ?_
        rintro e w9 ⟨rfl, hb⟩
        have T9 := Lib.hid (T8.out.keep hb)
        clear hb
        go_wp2
        go_ret
        exact Says.mk (by first | rfl | simp | (simp; omega)) T9.out.bel
      · have hbc2 : 0 < xbc := by omega
        go_wp2
        go_ret
        exact Says.mk (by first | rfl | simp | (simp; omega)) T8.out.bel
    · have hy : y1 = 0 := by
        by_cases h : y1 = 0
        · exact h
        · exact absurd (hq3 rfl h) h
      subst hy
      go_wp2_with fail
      refine (OBC.out _ T7.out.env ib.out ic'.out ZB.out ZC.out).mono ?_
      rintro e w8 ⟨rfl, hb⟩
      have T8 := Lib.hid (T7.out.keep hb)
      clear hb OBC T7
      clear a0 a1 a2 a3 b0 b1 b2 b3 c0 c1 c2 c3
      have a0 := T8.out.a.c0; have a1 := T8.out.a.c1; have a2 := T8.out.a.c2; have a3 := T8.out.a.c3; have b0 := T8.out.b.c0; have b1 := T8.out.b.c1; have b2 := T8.out.b.c2; have b3 := T8.out.b.c3; have c0 := T8.out.c.c0; have c1 := T8.out.c.c1; have c2 := T8.out.c.c2; have c3 := T8.out.c.c3
      by_cases hbc : xbc ≤ 0
      · have hac := f4 hab hbc
        go_wp2_with fail
        refine (OAC.out _ T8.out.env ia.out ic'.out ZA.out ZC.out).mono ?_
        rintro e w9 ⟨rfl, hb⟩
        have T9 := Lib.hid (T8.out.keep hb)
        clear hb
        go_wp2
        go_ret
        exact Says.mk (by first | rfl | simp | (simp; omega)) T9.out.bel
      · have hbc2 : 0 < xbc := by omega
        go_wp2
        go_ret
        exact Says.mk (by first | rfl | simp | (simp; omega)) T8.out.bel
  · rw [decide_eq_false hx0] at heq
    have q0 : (xab == 0) = false := by rw [beq_eq_false_iff_ne]; exact hx0
    have q00 : (xab != 0) = true := by simp; exact hx0
    have q01 : (xab != xab) = false := by simp
    clear hq2
    by_cases hab : xab ≤ 0
    · cases y2
      · go_wp2_with fail
        refine (OBC.out _ T7.out.env ib.out ic'.out ZB.out ZC.out).mono ?_
        rintro e w8 ⟨rfl, hb⟩
        have T8 := Lib.hid (T7.out.keep hb)
        clear hb OBC T7
        clear a0 a1 a2 a3 b0 b1 b2 b3 c0 c1 c2 c3
        have a0 := T8.out.a.c0; have a1 := T8.out.a.c1; have a2 := T8.out.a.c2; have a3 := T8.out.a.c3; have b0 := T8.out.b.c0; have b1 := T8.out.b.c1; have b2 := T8.out.b.c2; have b3 := T8.out.b.c3; have c0 := T8.out.c.c0; have c1 := T8.out.c.c1; have c2 := T8.out.c.c2; have c3 := T8.out.c.c3
        by_cases hbc : xbc ≤ 0
        · have hac := f4 hab hbc
          go_wp2_with fail
          refine (OAC.out _ T8.out.env ia.out ic'.out ZA.out ZC.out).mono ?_
          rintro e w9 ⟨rfl, hb⟩
          have T9 := Lib.hid (T8.out.keep hb)
          clear hb
          go_wp2
          go_ret
          exact Says.mk (by first | rfl | simp | (simp; omega)) T9.out.bel
        · have hbc2 : 0 < xbc := by omega
          go_wp2
          go_ret
          exact Says.mk (by first | rfl | simp | (simp; omega)) T8.out.bel
      · by_cases hy : y1 = 0
        · subst hy
          go_wp2_with fail
          refine (OBC.out _ T7.out.env ib.out ic'.out ZB.out ZC.out).mono ?_
          rintro e w8 ⟨rfl, hb⟩
          have T8 := Lib.hid (T7.out.keep hb)
          clear hb OBC T7
          clear a0 a1 a2 a3 b0 b1 b2 b3 c0 c1 c2 c3
          have a0 := T8.out.a.c0; have a1 := T8.out.a.c1; have a2 := T8.out.a.c2; have a3 := T8.out.a.c3; have b0 := T8.out.b.c0; have b1 := T8.out.b.c1; have b2 := T8.out.b.c2; have b3 := T8.out.b.c3; have c0 := T8.out.c.c0; have c1 := T8.out.c.c1; have c2 := T8.out.c.c2; have c3 := T8.out.c.c3
          by_cases hbc : xbc ≤ 0
          · have hac := f4 hab hbc
            go_wp2_with fail
            refine (OAC.out _ T8.out.env ia.out ic'.out ZA.out ZC.out).mono ?_
            rintro e w9 ⟨rfl, hb⟩
            have T9 := Lib.hid (T8.out.keep hb)
            clear hb
            go_wp2
            go_ret
            exact Says.mk (by first | rfl | simp | (simp; omega)) T9.out.bel
          · have hbc2 : 0 < xbc := by omega
            go_wp2
            go_ret
            exact Says.mk (by first | rfl | simp | (simp; omega)) T8.out.bel
        · have hy2 := hq3 rfl hy
          subst hy2
          clear hy
          go_wp2_with fail
          refine (OBC.out _ T7.out.env ib.out ic'.out ZB.out ZC.out).mono ?_
          rintro e w8 ⟨rfl, hb⟩
          have T8 := Lib.hid (T7.out.keep hb)
          clear hb OBC T7
          clear a0 a1 a2 a3 b0 b1 b2 b3 c0 c1 c2 c3
          have a0 := T8.out.a.c0; have a1 := T8.out.a.c1; have a2 := T8.out.a.c2; have a3 := T8.out.a.c3; have b0 := T8.out.b.c0; have b1 := T8.out.b.c1; have b2 := T8.out.b.c2; have b3 := T8.out.b.c3; have c0 := T8.out.c.c0; have c1 := T8.out.c.c1; have c2 := T8.out.c.c2; have c3 := T8.out.c.c3
          by_cases hbc : xbc ≤ 0
          · have hac := f4 hab hbc
            go_wp2_with fail
            refine (OAC.out _ T8.out.env ia.out ic'.out ZA.out ZC.out).mono ?_
            rintro e w9 ⟨rfl, hb⟩
            have T9 := Lib.hid (T8.out.keep hb)
            clear hb
            go_wp2
            go_ret
            exact Says.mk (by first | rfl | simp | (simp; omega)) T9.out.bel
          · have hbc2 : 0 < xbc := by omega
            go_wp2
            go_ret
            exact Says.mk (by first | rfl | simp | (simp; omega)) T8.out.bel
    · have hab2 : 0 < xab := by omega
      cases y2
      · go_wp2
        go_ret
        exact Says.mk (by first | rfl | simp | (simp; omega)) T7.out.bel
      · by_cases hy : y1 = 0
        · subst hy
          go_wp2
          go_ret
          exact Says.mk (by first | rfl | simp | (simp; omega)) T7.out.bel
        · have hy2 := hq3 rfl hy
          subst hy2
          clear hy
          go_wp2
          go_ret
          exact Says.mk (by first | rfl | simp | (simp; omega)) T7.out.bel

theorem walk_order (V : ValCon) (a b c : Vm.Cl) (w : World) (he : EnvV w) (ha : ValOk a) (hb : ValOk b) (hc : ValOk c) :
    Calls Tryz.prog 5 #[.agg #[.int .i64 a.k, .int .i64 a.n, .int .i64 a.sc, .string a.s], .agg #[.int .i64 b.k, .int .i64 b.n, .int .i64 b.sc, .string b.s], .agg #[.int .i64 c.k, .int .i64 c.n, .int .i64 c.sc, .string c.s]] w (Says true w) := by
  obtain ⟨ak, an, ac, as'⟩ := a
  obtain ⟨bk, bn, bc, bs⟩ := b
  obtain ⟨ck, cn, cc, cs⟩ := c
  by_cases hbig : 500 < as'.size ∨ 500 < bs.size ∨ 500 < cs.size
  · exact ord_big V _ _ _ _ _ _ _ _ _ _ _ _ w he ha hb hc hbig
  · have hsm : as'.size ≤ 500 ∧ bs.size ≤ 500 ∧ cs.size ≤ 500 := by omega
    cases ra : Vm.rightB ⟨ak, an, ac, as'⟩
    · exact ord_na V _ _ _ _ _ _ _ _ _ _ _ _ w he ha hb hc hsm ra
    · cases rb : Vm.rightB ⟨bk, bn, bc, bs⟩
      · exact ord_nb V _ _ _ _ _ _ _ _ _ _ _ _ w he ha hb hc hsm ra rb
      · cases rc : Vm.rightB ⟨ck, cn, cc, cs⟩
        · exact ord_nc V _ _ _ _ _ _ _ _ _ _ _ _ w he ha hb hc hsm ra rb rc
        · exact ord_all V _ _ _ _ _ _ _ _ _ _ _ _ w he ha hb hc hsm ra rb rc
end Go.Proofs.YtpbmjknhfgdnnaaGreatDoor
