/- The reference of layer 4: Cast. -/
import Derived.Test.YtfnnhhhkdfgefaaGreatDoorCastRef1
import Derived.Test.YtfnnhhhkdfgefaaGreatDoorDecSm
import Derived.Test.YtfnnhhhkdfgefaaGreatDoorDecP6
namespace Go.Proofs.YtfnnhhhkdfgefaaGreatDoor
open Go.RowKit

theorem ne_lst (s : ByteArray) (l : List UInt8) (h : s.data.toList ≠ l) : (s.toList == l) = false := by
  rw [Lib.toList_data]
  exact beq_eq_false_iff_ne.2 h
theorem ne_byt (s t : ByteArray) (h : s ≠ t) : s.data.toList ≠ t.data.toList := fun e => h (ByteArray.ext (Array.toList_inj.1 e))
/-- a value, a type and the answer in blocks of their own -/
structure Cx (w : World) (ck cn cc : Int) (cs : ByteArray) (k s : Int) (w' : World) : Prop where
  v : Bx w.heap.size ck cn cc cs w'
  t : Tx (w.heap.size + 1) k s w'
  r : Fx (w.heap.size + 1 + 1) 0 0 0 ⟨#[]⟩ w'
  bel : Below w.heap.size w w'
theorem Cx.new (w : World) (ck cn cc : Int) (cs : ByteArray) (k s : Int) (u x : TypeId) : Cx w ck cn cc cs k s (((w.alloc (.cells #[.int .i64 ck, .int .i64 cn, .int .i64 cc, .string cs] u)).alloc (.cells #[.int .i64 k, .int .i64 s] x)).alloc (.cells #[.int .i64 0, .int .i64 0, .int .i64 0, .string ⟨#[]⟩] u)) := by
  have h := Tx.new (w.alloc (.cells #[.int .i64 ck, .int .i64 cn, .int .i64 cc, .string cs] u)) k s x
  rw [show (w.alloc (.cells #[.int .i64 ck, .int .i64 cn, .int .i64 cc, .string cs] u)).heap.size = w.heap.size + 1 by simp] at h
  have hr := Fx.new ((w.alloc (.cells #[.int .i64 ck, .int .i64 cn, .int .i64 cc, .string cs] u)).alloc (.cells #[.int .i64 k, .int .i64 s] x)) 0 0 0 ⟨#[]⟩ u
  rw [show ((w.alloc (.cells #[.int .i64 ck, .int .i64 cn, .int .i64 cc, .string cs] u)).alloc (.cells #[.int .i64 k, .int .i64 s] x)).heap.size = w.heap.size + 1 + 1 by simp] at hr
  exact ⟨((Bx.new w ck cn cc cs u).alloc _).alloc _, h.keep (one _ _), hr, three w _ _ _⟩
theorem Cx.keep {w w1 w2 : World} {ck cn cc : Int} {cs : ByteArray} {k s : Int} (h : Cx w ck cn cc cs k s w1) (hb : Below w1.heap.size w1 w2) : Cx w ck cn cc cs k s w2 :=
  ⟨h.v.keep hb, h.t.keep hb, h.r.keep hb, h.bel.trans (hb.mono h.bel.size)⟩
theorem Cx.fin {w w1 : World} {ck cn cc : Int} {cs : ByteArray} {k s : Int} (h : Cx w ck cn cc cs k s w1) (x y z u : Value) :
    Below w.heap.size w ((((w1.setCell ⟨w.heap.size + 1 + 1, 0, none⟩ x).setCell ⟨w.heap.size + 1 + 1, 1, none⟩ y).setCell ⟨w.heap.size + 1 + 1, 2, none⟩ z).setCell ⟨w.heap.size + 1 + 1, 3, none⟩ u) := set4 h.bel (by omega) _ _ _ _

set_option maxRecDepth 100000 in
theorem r4_type (ck cn cc : Int) (cs : ByteArray) (k s : Int) (w : World) (HT : Hid (∀ W, Calls Tryz.prog 22 #[.agg #[.int .i64 k, .int .i64 s]] W (Says false W))) : Calls Tryz.prog 9 #[.agg #[.int .i64 ck, .int .i64 cn, .int .i64 cc, .string cs], .agg #[.int .i64 k, .int .i64 s]] w (CastA (Vm.nil, 2) w) := by
  have C0 := Lib.hid (Cx.new w ck cn cc cs k s 24 26)
  go_enter Tryz.func9, Tryz.ntmps9
  go_wp2_with fail
  refine (HT.out _).mono ?_
  rintro e w1 ⟨rfl, hb⟩
  have C1 := Lib.hid (C0.out.keep hb)
  clear hb HT C0
  have f0 := C1.out.t.c0; have f1 := C1.out.t.c1
  have r0 := C1.out.r.bx.c0; have r1 := C1.out.r.bx.c1; have r2 := C1.out.r.bx.c2; have r3 := C1.out.r.bx.c3; have rf := C1.out.r.fz; have rl := C1.out.r.bx.lt
  go_wp2
  refine bodyPost_ret (v := .tuple #[.agg #[.int .i64 0, .int .i64 0, .int .i64 0, .string ⟨#[]⟩], .int .i64 2]) (by simp [results, Tryz.results9, go_sem, r0, r1, r2, r3]) rfl (CastA.mk rfl ?_)
  exact C1.out.fin _ _ _ _

set_option maxRecDepth 100000 in
set_option maxHeartbeats 1000000 in
theorem r4_null (ck cn cc : Int) (cs : ByteArray) (k s : Int) (w : World)  (HT : Hid (∀ W, Calls Tryz.prog 22 #[.agg #[.int .i64 k, .int .i64 s]] W (Says true W))) (HP : Hid (∀ W, Calls Tryz.prog 23 #[.agg #[.int .i64 ck, .int .i64 cn, .int .i64 cc, .string cs]] W (Val ⟨0, 0, 0, ⟨#[]⟩⟩ W)))  : Calls Tryz.prog 9 #[.agg #[.int .i64 ck, .int .i64 cn, .int .i64 cc, .string cs], .agg #[.int .i64 k, .int .i64 s]] w (CastA (⟨0, 0, 0, ⟨#[]⟩⟩, 0) w) := by
  have C0 := Lib.hid (Cx.new w ck cn cc cs k s 24 26)
  go_enter Tryz.func9, Tryz.ntmps9
  go_wp2_with fail
  refine (HT.out _).mono ?_
  rintro e w1 ⟨rfl, hb⟩
  have C1 := Lib.hid (C0.out.keep hb)
  clear hb HT C0
  have d0 := C1.out.v.c0; have d1 := C1.out.v.c1; have d2 := C1.out.v.c2; have d3 := C1.out.v.c3
  go_wp2_with fail
  refine (HP.out _).mono ?_
  rintro e w2 ⟨rfl, hb⟩
  dsimp only
  have C2 := Lib.hid (C1.out.keep (hb.alloc hb.size (.cells #[.int .i64 0, .int .i64 0, .int .i64 0, .string ⟨#[]⟩] 24)))
  have A2 := Lib.hid (Bx.new w2 0 0 0 ⟨#[]⟩ 24)
  clear hb HP C1 d0 d1 d2 d3
  have a0 := A2.out.c0; have a1 := A2.out.c1; have a2 := A2.out.c2; have a3 := A2.out.c3
  have f0 := C2.out.t.c0; have f1 := C2.out.t.c1
  have r0 := C2.out.r.bx.c0; have r1 := C2.out.r.bx.c1; have r2 := C2.out.r.bx.c2; have r3 := C2.out.r.bx.c3; have rf := C2.out.r.fz; have rl := C2.out.r.bx.lt
  go_wp2
  refine bodyPost_ret (v := .tuple #[.agg #[.int .i64 0, .int .i64 0, .int .i64 0, .string ⟨#[]⟩], .int .i64 0]) (by simp [results, Tryz.results9, go_sem, r0, r1, r2, r3]) rfl (CastA.mk rfl ?_)
  exact C2.out.fin _ _ _ _

set_option maxRecDepth 100000 in
set_option maxHeartbeats 1000000 in
theorem r4_own (ck cn cc : Int) (cs : ByteArray) (k s : Int) (w : World) (pk pn pc : Int) (ps : ByteArray) (HT : Hid (∀ W, Calls Tryz.prog 22 #[.agg #[.int .i64 k, .int .i64 s]] W (Says true W))) (HP : Hid (∀ W, Calls Tryz.prog 23 #[.agg #[.int .i64 ck, .int .i64 cn, .int .i64 cc, .string cs]] W (Val ⟨pk, pn, pc, ps⟩ W))) (q0 : (pk == 0) = false) (q1 : (pk == k) = true) (q2 : (pc == s) = true) : Calls Tryz.prog 9 #[.agg #[.int .i64 ck, .int .i64 cn, .int .i64 cc, .string cs], .agg #[.int .i64 k, .int .i64 s]] w (CastA (⟨pk, pn, pc, ps⟩, 0) w) := by
  have C0 := Lib.hid (Cx.new w ck cn cc cs k s 24 26)
  go_enter Tryz.func9, Tryz.ntmps9
  go_wp2_with fail
  refine (HT.out _).mono ?_
  rintro e w1 ⟨rfl, hb⟩
  have C1 := Lib.hid (C0.out.keep hb)
  clear hb HT C0
  have d0 := C1.out.v.c0; have d1 := C1.out.v.c1; have d2 := C1.out.v.c2; have d3 := C1.out.v.c3
  go_wp2_with fail
  refine (HP.out _).mono ?_
  rintro e w2 ⟨rfl, hb⟩
  dsimp only
  have C2 := Lib.hid (C1.out.keep (hb.alloc hb.size (.cells #[.int .i64 pk, .int .i64 pn, .int .i64 pc, .string ps] 24)))
  have A2 := Lib.hid (Bx.new w2 pk pn pc ps 24)
  clear hb HP C1 d0 d1 d2 d3
  have a0 := A2.out.c0; have a1 := A2.out.c1; have a2 := A2.out.c2; have a3 := A2.out.c3
  have f0 := C2.out.t.c0; have f1 := C2.out.t.c1
  have r0 := C2.out.r.bx.c0; have r1 := C2.out.r.bx.c1; have r2 := C2.out.r.bx.c2; have r3 := C2.out.r.bx.c3; have rf := C2.out.r.fz; have rl := C2.out.r.bx.lt
  go_wp2
  refine bodyPost_ret (v := .tuple #[.agg #[.int .i64 pk, .int .i64 pn, .int .i64 pc, .string ps], .int .i64 0]) (by simp [results, Tryz.results9, go_sem, r0, r1, r2, r3]) rfl (CastA.mk rfl ?_)
  exact C2.out.fin _ _ _ _

set_option maxRecDepth 100000 in
set_option maxHeartbeats 1000000 in
theorem r4_12_0 (ck cn cc : Int) (cs : ByteArray) (w : World)  (HT : Hid (∀ W, Calls Tryz.prog 22 #[.agg #[.int .i64 2, .int .i64 0]] W (Says true W))) (HP : Hid (∀ W, Calls Tryz.prog 23 #[.agg #[.int .i64 ck, .int .i64 cn, .int .i64 cc, .string cs]] W (Val ⟨1, 0, 0, ⟨#[]⟩⟩ W)))  : Calls Tryz.prog 9 #[.agg #[.int .i64 ck, .int .i64 cn, .int .i64 cc, .string cs], .agg #[.int .i64 2, .int .i64 0]] w (CastA (⟨2, 0, 0, ⟨#[]⟩⟩, 0) w) := by
  have C0 := Lib.hid (Cx.new w ck cn cc cs 2 0 24 26)
  go_enter Tryz.func9, Tryz.ntmps9
  go_wp2_with fail
  refine (HT.out _).mono ?_
  rintro e w1 ⟨rfl, hb⟩
  have C1 := Lib.hid (C0.out.keep hb)
  clear hb HT C0
  have d0 := C1.out.v.c0; have d1 := C1.out.v.c1; have d2 := C1.out.v.c2; have d3 := C1.out.v.c3
  go_wp2_with fail
  refine (HP.out _).mono ?_
  rintro e w2 ⟨rfl, hb⟩
  dsimp only
  have C2 := Lib.hid (C1.out.keep (hb.alloc hb.size (.cells #[.int .i64 1, .int .i64 0, .int .i64 0, .string ⟨#[]⟩] 24)))
  have A2 := Lib.hid (Bx.new w2 1 0 0 ⟨#[]⟩ 24)
  clear hb HP C1 d0 d1 d2 d3
  have a0 := A2.out.c0; have a1 := A2.out.c1; have a2 := A2.out.c2; have a3 := A2.out.c3
  have f0 := C2.out.t.c0; have f1 := C2.out.t.c1
  have r0 := C2.out.r.bx.c0; have r1 := C2.out.r.bx.c1; have r2 := C2.out.r.bx.c2; have r3 := C2.out.r.bx.c3; have rf := C2.out.r.fz; have rl := C2.out.r.bx.lt
  go_wp2
  refine bodyPost_ret (v := .tuple #[.agg #[.int .i64 2, .int .i64 0, .int .i64 0, .string ⟨#[]⟩], .int .i64 0]) (by simp [results, Tryz.results9, go_sem, r0, r1, r2, r3]) rfl (CastA.mk rfl ?_)
  exact C2.out.fin _ _ _ _

set_option maxRecDepth 100000 in
set_option maxHeartbeats 1000000 in
theorem r4_14_0 (ck cn cc : Int) (cs : ByteArray) (w : World)  (HT : Hid (∀ W, Calls Tryz.prog 22 #[.agg #[.int .i64 4, .int .i64 0]] W (Says true W))) (HP : Hid (∀ W, Calls Tryz.prog 23 #[.agg #[.int .i64 ck, .int .i64 cn, .int .i64 cc, .string cs]] W (Val ⟨1, 0, 0, ⟨#[]⟩⟩ W)))  : Calls Tryz.prog 9 #[.agg #[.int .i64 ck, .int .i64 cn, .int .i64 cc, .string cs], .agg #[.int .i64 4, .int .i64 0]] w (CastA (⟨4, 0, 0, ⟨#[102, 97, 108, 115, 101]⟩⟩, 0) w) := by
  have C0 := Lib.hid (Cx.new w ck cn cc cs 4 0 24 26)
  go_enter Tryz.func9, Tryz.ntmps9
  go_wp2_with fail
  refine (HT.out _).mono ?_
  rintro e w1 ⟨rfl, hb⟩
  have C1 := Lib.hid (C0.out.keep hb)
  clear hb HT C0
  have d0 := C1.out.v.c0; have d1 := C1.out.v.c1; have d2 := C1.out.v.c2; have d3 := C1.out.v.c3
  go_wp2_with fail
  refine (HP.out _).mono ?_
  rintro e w2 ⟨rfl, hb⟩
  dsimp only
  have C2 := Lib.hid (C1.out.keep (hb.alloc hb.size (.cells #[.int .i64 1, .int .i64 0, .int .i64 0, .string ⟨#[]⟩] 24)))
  have A2 := Lib.hid (Bx.new w2 1 0 0 ⟨#[]⟩ 24)
  clear hb HP C1 d0 d1 d2 d3
  have a0 := A2.out.c0; have a1 := A2.out.c1; have a2 := A2.out.c2; have a3 := A2.out.c3
  have f0 := C2.out.t.c0; have f1 := C2.out.t.c1
  have r0 := C2.out.r.bx.c0; have r1 := C2.out.r.bx.c1; have r2 := C2.out.r.bx.c2; have r3 := C2.out.r.bx.c3; have rf := C2.out.r.fz; have rl := C2.out.r.bx.lt
  have C2b := Lib.hid (C2.out.keep (one _ (.cells #[.string ⟨#[102, 97, 108, 115, 101]⟩, .string ⟨#[116, 114, 117, 101]⟩] 9)))
  clear r0 r1 r2 r3 rf rl
  have r0 := C2b.out.r.bx.c0; have r1 := C2b.out.r.bx.c1; have r2 := C2b.out.r.bx.c2; have r3 := C2b.out.r.bx.c3; have rf := C2b.out.r.fz; have rl := C2b.out.r.bx.lt
  go_wp2
  refine bodyPost_ret (v := .tuple #[.agg #[.int .i64 4, .int .i64 0, .int .i64 0, .string ⟨#[102, 97, 108, 115, 101]⟩], .int .i64 0]) (by simp [results, Tryz.results9, go_sem, r0, r1, r2, r3]) rfl (CastA.mk rfl ?_)
  exact C2b.out.fin _ _ _ _

set_option maxRecDepth 100000 in
set_option maxHeartbeats 1000000 in
theorem r4_12_1 (ck cn cc : Int) (cs : ByteArray) (w : World)  (HT : Hid (∀ W, Calls Tryz.prog 22 #[.agg #[.int .i64 2, .int .i64 0]] W (Says true W))) (HP : Hid (∀ W, Calls Tryz.prog 23 #[.agg #[.int .i64 ck, .int .i64 cn, .int .i64 cc, .string cs]] W (Val ⟨1, 1, 0, ⟨#[]⟩⟩ W)))  : Calls Tryz.prog 9 #[.agg #[.int .i64 ck, .int .i64 cn, .int .i64 cc, .string cs], .agg #[.int .i64 2, .int .i64 0]] w (CastA (⟨2, 1, 0, ⟨#[]⟩⟩, 0) w) := by
  have C0 := Lib.hid (Cx.new w ck cn cc cs 2 0 24 26)
  go_enter Tryz.func9, Tryz.ntmps9
  go_wp2_with fail
  refine (HT.out _).mono ?_
  rintro e w1 ⟨rfl, hb⟩
  have C1 := Lib.hid (C0.out.keep hb)
  clear hb HT C0
  have d0 := C1.out.v.c0; have d1 := C1.out.v.c1; have d2 := C1.out.v.c2; have d3 := C1.out.v.c3
  go_wp2_with fail
  refine (HP.out _).mono ?_
  rintro e w2 ⟨rfl, hb⟩
  dsimp only
  have C2 := Lib.hid (C1.out.keep (hb.alloc hb.size (.cells #[.int .i64 1, .int .i64 1, .int .i64 0, .string ⟨#[]⟩] 24)))
  have A2 := Lib.hid (Bx.new w2 1 1 0 ⟨#[]⟩ 24)
  clear hb HP C1 d0 d1 d2 d3
  have a0 := A2.out.c0; have a1 := A2.out.c1; have a2 := A2.out.c2; have a3 := A2.out.c3
  have f0 := C2.out.t.c0; have f1 := C2.out.t.c1
  have r0 := C2.out.r.bx.c0; have r1 := C2.out.r.bx.c1; have r2 := C2.out.r.bx.c2; have r3 := C2.out.r.bx.c3; have rf := C2.out.r.fz; have rl := C2.out.r.bx.lt
  go_wp2
  refine bodyPost_ret (v := .tuple #[.agg #[.int .i64 2, .int .i64 1, .int .i64 0, .string ⟨#[]⟩], .int .i64 0]) (by simp [results, Tryz.results9, go_sem, r0, r1, r2, r3]) rfl (CastA.mk rfl ?_)
  exact C2.out.fin _ _ _ _

set_option maxRecDepth 100000 in
set_option maxHeartbeats 1000000 in
theorem r4_14_1 (ck cn cc : Int) (cs : ByteArray) (w : World)  (HT : Hid (∀ W, Calls Tryz.prog 22 #[.agg #[.int .i64 4, .int .i64 0]] W (Says true W))) (HP : Hid (∀ W, Calls Tryz.prog 23 #[.agg #[.int .i64 ck, .int .i64 cn, .int .i64 cc, .string cs]] W (Val ⟨1, 1, 0, ⟨#[]⟩⟩ W)))  : Calls Tryz.prog 9 #[.agg #[.int .i64 ck, .int .i64 cn, .int .i64 cc, .string cs], .agg #[.int .i64 4, .int .i64 0]] w (CastA (⟨4, 0, 0, ⟨#[116, 114, 117, 101]⟩⟩, 0) w) := by
  have C0 := Lib.hid (Cx.new w ck cn cc cs 4 0 24 26)
  go_enter Tryz.func9, Tryz.ntmps9
  go_wp2_with fail
  refine (HT.out _).mono ?_
  rintro e w1 ⟨rfl, hb⟩
  have C1 := Lib.hid (C0.out.keep hb)
  clear hb HT C0
  have d0 := C1.out.v.c0; have d1 := C1.out.v.c1; have d2 := C1.out.v.c2; have d3 := C1.out.v.c3
  go_wp2_with fail
  refine (HP.out _).mono ?_
  rintro e w2 ⟨rfl, hb⟩
  dsimp only
  have C2 := Lib.hid (C1.out.keep (hb.alloc hb.size (.cells #[.int .i64 1, .int .i64 1, .int .i64 0, .string ⟨#[]⟩] 24)))
  have A2 := Lib.hid (Bx.new w2 1 1 0 ⟨#[]⟩ 24)
  clear hb HP C1 d0 d1 d2 d3
  have a0 := A2.out.c0; have a1 := A2.out.c1; have a2 := A2.out.c2; have a3 := A2.out.c3
  have f0 := C2.out.t.c0; have f1 := C2.out.t.c1
  have r0 := C2.out.r.bx.c0; have r1 := C2.out.r.bx.c1; have r2 := C2.out.r.bx.c2; have r3 := C2.out.r.bx.c3; have rf := C2.out.r.fz; have rl := C2.out.r.bx.lt
  have C2b := Lib.hid (C2.out.keep (one _ (.cells #[.string ⟨#[102, 97, 108, 115, 101]⟩, .string ⟨#[116, 114, 117, 101]⟩] 9)))
  clear r0 r1 r2 r3 rf rl
  have r0 := C2b.out.r.bx.c0; have r1 := C2b.out.r.bx.c1; have r2 := C2b.out.r.bx.c2; have r3 := C2b.out.r.bx.c3; have rf := C2b.out.r.fz; have rl := C2b.out.r.bx.lt
  go_wp2
  refine bodyPost_ret (v := .tuple #[.agg #[.int .i64 4, .int .i64 0, .int .i64 0, .string ⟨#[116, 114, 117, 101]⟩], .int .i64 0]) (by simp [results, Tryz.results9, go_sem, r0, r1, r2, r3]) rfl (CastA.mk rfl ?_)
  exact C2b.out.fin _ _ _ _

set_option maxRecDepth 100000 in
set_option maxHeartbeats 1000000 in
theorem r4_13 (ck cn cc : Int) (cs : ByteArray) (s : Int) (w : World) (pn : Int) (HT : Hid (∀ W, Calls Tryz.prog 22 #[.agg #[.int .i64 3, .int .i64 s]] W (Says true W))) (HP : Hid (∀ W, Calls Tryz.prog 23 #[.agg #[.int .i64 ck, .int .i64 cn, .int .i64 cc, .string cs]] W (Val ⟨1, pn, 0, ⟨#[]⟩⟩ W)))  : Calls Tryz.prog 9 #[.agg #[.int .i64 ck, .int .i64 cn, .int .i64 cc, .string cs], .agg #[.int .i64 3, .int .i64 s]] w (CastA (⟨0, 0, 0, ⟨#[]⟩⟩, 40) w) := by
  have C0 := Lib.hid (Cx.new w ck cn cc cs 3 s 24 26)
  go_enter Tryz.func9, Tryz.ntmps9
  go_wp2_with fail
  refine (HT.out _).mono ?_
  rintro e w1 ⟨rfl, hb⟩
  have C1 := Lib.hid (C0.out.keep hb)
  clear hb HT C0
  have d0 := C1.out.v.c0; have d1 := C1.out.v.c1; have d2 := C1.out.v.c2; have d3 := C1.out.v.c3
  go_wp2_with fail
  refine (HP.out _).mono ?_
  rintro e w2 ⟨rfl, hb⟩
  dsimp only
  have C2 := Lib.hid (C1.out.keep (hb.alloc hb.size (.cells #[.int .i64 1, .int .i64 pn, .int .i64 0, .string ⟨#[]⟩] 24)))
  have A2 := Lib.hid (Bx.new w2 1 pn 0 ⟨#[]⟩ 24)
  clear hb HP C1 d0 d1 d2 d3
  have a0 := A2.out.c0; have a1 := A2.out.c1; have a2 := A2.out.c2; have a3 := A2.out.c3
  have f0 := C2.out.t.c0; have f1 := C2.out.t.c1
  have r0 := C2.out.r.bx.c0; have r1 := C2.out.r.bx.c1; have r2 := C2.out.r.bx.c2; have r3 := C2.out.r.bx.c3; have rf := C2.out.r.fz; have rl := C2.out.r.bx.lt
  go_wp2
  refine bodyPost_ret (v := .tuple #[.agg #[.int .i64 0, .int .i64 0, .int .i64 0, .string ⟨#[]⟩], .int .i64 40]) (by simp [results, Tryz.results9, go_sem, r0, r1, r2, r3]) rfl (CastA.mk rfl ?_)
  exact C2.out.fin _ _ _ _

set_option maxRecDepth 100000 in
set_option maxHeartbeats 1000000 in
theorem r4_15 (ck cn cc : Int) (cs : ByteArray) (w : World) (pn : Int) (HT : Hid (∀ W, Calls Tryz.prog 22 #[.agg #[.int .i64 5, .int .i64 0]] W (Says true W))) (HP : Hid (∀ W, Calls Tryz.prog 23 #[.agg #[.int .i64 ck, .int .i64 cn, .int .i64 cc, .string cs]] W (Val ⟨1, pn, 0, ⟨#[]⟩⟩ W)))  : Calls Tryz.prog 9 #[.agg #[.int .i64 ck, .int .i64 cn, .int .i64 cc, .string cs], .agg #[.int .i64 5, .int .i64 0]] w (CastA (⟨0, 0, 0, ⟨#[]⟩⟩, 40) w) := by
  have C0 := Lib.hid (Cx.new w ck cn cc cs 5 0 24 26)
  go_enter Tryz.func9, Tryz.ntmps9
  go_wp2_with fail
  refine (HT.out _).mono ?_
  rintro e w1 ⟨rfl, hb⟩
  have C1 := Lib.hid (C0.out.keep hb)
  clear hb HT C0
  have d0 := C1.out.v.c0; have d1 := C1.out.v.c1; have d2 := C1.out.v.c2; have d3 := C1.out.v.c3
  go_wp2_with fail
  refine (HP.out _).mono ?_
  rintro e w2 ⟨rfl, hb⟩
  dsimp only
  have C2 := Lib.hid (C1.out.keep (hb.alloc hb.size (.cells #[.int .i64 1, .int .i64 pn, .int .i64 0, .string ⟨#[]⟩] 24)))
  have A2 := Lib.hid (Bx.new w2 1 pn 0 ⟨#[]⟩ 24)
  clear hb HP C1 d0 d1 d2 d3
  have a0 := A2.out.c0; have a1 := A2.out.c1; have a2 := A2.out.c2; have a3 := A2.out.c3
  have f0 := C2.out.t.c0; have f1 := C2.out.t.c1
  have r0 := C2.out.r.bx.c0; have r1 := C2.out.r.bx.c1; have r2 := C2.out.r.bx.c2; have r3 := C2.out.r.bx.c3; have rf := C2.out.r.fz; have rl := C2.out.r.bx.lt
  go_wp2
  refine bodyPost_ret (v := .tuple #[.agg #[.int .i64 0, .int .i64 0, .int .i64 0, .string ⟨#[]⟩], .int .i64 40]) (by simp [results, Tryz.results9, go_sem, r0, r1, r2, r3]) rfl (CastA.mk rfl ?_)
  exact C2.out.fin _ _ _ _

set_option maxRecDepth 100000 in
set_option maxHeartbeats 1000000 in
theorem r4_21_0 (ck cn cc : Int) (cs : ByteArray) (w : World)  (HT : Hid (∀ W, Calls Tryz.prog 22 #[.agg #[.int .i64 1, .int .i64 0]] W (Says true W))) (HP : Hid (∀ W, Calls Tryz.prog 23 #[.agg #[.int .i64 ck, .int .i64 cn, .int .i64 cc, .string cs]] W (Val ⟨2, 0, 0, ⟨#[]⟩⟩ W)))  : Calls Tryz.prog 9 #[.agg #[.int .i64 ck, .int .i64 cn, .int .i64 cc, .string cs], .agg #[.int .i64 1, .int .i64 0]] w (CastA (⟨1, 0, 0, ⟨#[]⟩⟩, 0) w) := by
  have C0 := Lib.hid (Cx.new w ck cn cc cs 1 0 24 26)
  go_enter Tryz.func9, Tryz.ntmps9
  go_wp2_with fail
  refine (HT.out _).mono ?_
  rintro e w1 ⟨rfl, hb⟩
  have C1 := Lib.hid (C0.out.keep hb)
  clear hb HT C0
  have d0 := C1.out.v.c0; have d1 := C1.out.v.c1; have d2 := C1.out.v.c2; have d3 := C1.out.v.c3
  go_wp2_with fail
  refine (HP.out _).mono ?_
  rintro e w2 ⟨rfl, hb⟩
  dsimp only
  have C2 := Lib.hid (C1.out.keep (hb.alloc hb.size (.cells #[.int .i64 2, .int .i64 0, .int .i64 0, .string ⟨#[]⟩] 24)))
  have A2 := Lib.hid (Bx.new w2 2 0 0 ⟨#[]⟩ 24)
  clear hb HP C1 d0 d1 d2 d3
  have a0 := A2.out.c0; have a1 := A2.out.c1; have a2 := A2.out.c2; have a3 := A2.out.c3
  have f0 := C2.out.t.c0; have f1 := C2.out.t.c1
  have r0 := C2.out.r.bx.c0; have r1 := C2.out.r.bx.c1; have r2 := C2.out.r.bx.c2; have r3 := C2.out.r.bx.c3; have rf := C2.out.r.fz; have rl := C2.out.r.bx.lt
  go_wp2
  refine bodyPost_ret (v := .tuple #[.agg #[.int .i64 1, .int .i64 0, .int .i64 0, .string ⟨#[]⟩], .int .i64 0]) (by simp [results, Tryz.results9, go_sem, r0, r1, r2, r3]) rfl (CastA.mk rfl ?_)
  exact C2.out.fin _ _ _ _

set_option maxRecDepth 100000 in
set_option maxHeartbeats 1000000 in
theorem r4_21_1 (ck cn cc : Int) (cs : ByteArray) (w : World)  (HT : Hid (∀ W, Calls Tryz.prog 22 #[.agg #[.int .i64 1, .int .i64 0]] W (Says true W))) (HP : Hid (∀ W, Calls Tryz.prog 23 #[.agg #[.int .i64 ck, .int .i64 cn, .int .i64 cc, .string cs]] W (Val ⟨2, 1, 0, ⟨#[]⟩⟩ W)))  : Calls Tryz.prog 9 #[.agg #[.int .i64 ck, .int .i64 cn, .int .i64 cc, .string cs], .agg #[.int .i64 1, .int .i64 0]] w (CastA (⟨1, 1, 0, ⟨#[]⟩⟩, 0) w) := by
  have C0 := Lib.hid (Cx.new w ck cn cc cs 1 0 24 26)
  go_enter Tryz.func9, Tryz.ntmps9
  go_wp2_with fail
  refine (HT.out _).mono ?_
  rintro e w1 ⟨rfl, hb⟩
  have C1 := Lib.hid (C0.out.keep hb)
  clear hb HT C0
  have d0 := C1.out.v.c0; have d1 := C1.out.v.c1; have d2 := C1.out.v.c2; have d3 := C1.out.v.c3
  go_wp2_with fail
  refine (HP.out _).mono ?_
  rintro e w2 ⟨rfl, hb⟩
  dsimp only
  have C2 := Lib.hid (C1.out.keep (hb.alloc hb.size (.cells #[.int .i64 2, .int .i64 1, .int .i64 0, .string ⟨#[]⟩] 24)))
  have A2 := Lib.hid (Bx.new w2 2 1 0 ⟨#[]⟩ 24)
  clear hb HP C1 d0 d1 d2 d3
  have a0 := A2.out.c0; have a1 := A2.out.c1; have a2 := A2.out.c2; have a3 := A2.out.c3
  have f0 := C2.out.t.c0; have f1 := C2.out.t.c1
  have r0 := C2.out.r.bx.c0; have r1 := C2.out.r.bx.c1; have r2 := C2.out.r.bx.c2; have r3 := C2.out.r.bx.c3; have rf := C2.out.r.fz; have rl := C2.out.r.bx.lt
  go_wp2
  refine bodyPost_ret (v := .tuple #[.agg #[.int .i64 1, .int .i64 1, .int .i64 0, .string ⟨#[]⟩], .int .i64 0]) (by simp [results, Tryz.results9, go_sem, r0, r1, r2, r3]) rfl (CastA.mk rfl ?_)
  exact C2.out.fin _ _ _ _

set_option maxRecDepth 100000 in
set_option maxHeartbeats 1000000 in
theorem r4_21_a (ck cn cc : Int) (cs : ByteArray) (w : World) (pn : Int) (HT : Hid (∀ W, Calls Tryz.prog 22 #[.agg #[.int .i64 1, .int .i64 0]] W (Says true W))) (HP : Hid (∀ W, Calls Tryz.prog 23 #[.agg #[.int .i64 ck, .int .i64 cn, .int .i64 cc, .string cs]] W (Val ⟨2, pn, 0, ⟨#[]⟩⟩ W))) (qn : pn < 0) : Calls Tryz.prog 9 #[.agg #[.int .i64 ck, .int .i64 cn, .int .i64 cc, .string cs], .agg #[.int .i64 1, .int .i64 0]] w (CastA (⟨0, 0, 0, ⟨#[]⟩⟩, 40) w) := by
  have C0 := Lib.hid (Cx.new w ck cn cc cs 1 0 24 26)
  go_enter Tryz.func9, Tryz.ntmps9
  go_wp2_with fail
  refine (HT.out _).mono ?_
  rintro e w1 ⟨rfl, hb⟩
  have C1 := Lib.hid (C0.out.keep hb)
  clear hb HT C0
  have d0 := C1.out.v.c0; have d1 := C1.out.v.c1; have d2 := C1.out.v.c2; have d3 := C1.out.v.c3
  go_wp2_with fail
  refine (HP.out _).mono ?_
  rintro e w2 ⟨rfl, hb⟩
  dsimp only
  have C2 := Lib.hid (C1.out.keep (hb.alloc hb.size (.cells #[.int .i64 2, .int .i64 pn, .int .i64 0, .string ⟨#[]⟩] 24)))
  have A2 := Lib.hid (Bx.new w2 2 pn 0 ⟨#[]⟩ 24)
  clear hb HP C1 d0 d1 d2 d3
  have a0 := A2.out.c0; have a1 := A2.out.c1; have a2 := A2.out.c2; have a3 := A2.out.c3
  have f0 := C2.out.t.c0; have f1 := C2.out.t.c1
  have r0 := C2.out.r.bx.c0; have r1 := C2.out.r.bx.c1; have r2 := C2.out.r.bx.c2; have r3 := C2.out.r.bx.c3; have rf := C2.out.r.fz; have rl := C2.out.r.bx.lt
  go_wp2
  refine bodyPost_ret (v := .tuple #[.agg #[.int .i64 0, .int .i64 0, .int .i64 0, .string ⟨#[]⟩], .int .i64 40]) (by simp [results, Tryz.results9, go_sem, r0, r1, r2, r3]) rfl (CastA.mk rfl ?_)
  exact C2.out.fin _ _ _ _

set_option maxRecDepth 100000 in
set_option maxHeartbeats 1000000 in
theorem r4_21_b (ck cn cc : Int) (cs : ByteArray) (w : World) (pn : Int) (HT : Hid (∀ W, Calls Tryz.prog 22 #[.agg #[.int .i64 1, .int .i64 0]] W (Says true W))) (HP : Hid (∀ W, Calls Tryz.prog 23 #[.agg #[.int .i64 ck, .int .i64 cn, .int .i64 cc, .string cs]] W (Val ⟨2, pn, 0, ⟨#[]⟩⟩ W))) (qn : 2 ≤ pn) : Calls Tryz.prog 9 #[.agg #[.int .i64 ck, .int .i64 cn, .int .i64 cc, .string cs], .agg #[.int .i64 1, .int .i64 0]] w (CastA (⟨0, 0, 0, ⟨#[]⟩⟩, 40) w) := by
  have C0 := Lib.hid (Cx.new w ck cn cc cs 1 0 24 26)
  go_enter Tryz.func9, Tryz.ntmps9
  go_wp2_with fail
  refine (HT.out _).mono ?_
  rintro e w1 ⟨rfl, hb⟩
  have C1 := Lib.hid (C0.out.keep hb)
  clear hb HT C0
  have d0 := C1.out.v.c0; have d1 := C1.out.v.c1; have d2 := C1.out.v.c2; have d3 := C1.out.v.c3
  go_wp2_with fail
  refine (HP.out _).mono ?_
  rintro e w2 ⟨rfl, hb⟩
  dsimp only
  have C2 := Lib.hid (C1.out.keep (hb.alloc hb.size (.cells #[.int .i64 2, .int .i64 pn, .int .i64 0, .string ⟨#[]⟩] 24)))
  have A2 := Lib.hid (Bx.new w2 2 pn 0 ⟨#[]⟩ 24)
  clear hb HP C1 d0 d1 d2 d3
  have a0 := A2.out.c0; have a1 := A2.out.c1; have a2 := A2.out.c2; have a3 := A2.out.c3
  have f0 := C2.out.t.c0; have f1 := C2.out.t.c1
  have r0 := C2.out.r.bx.c0; have r1 := C2.out.r.bx.c1; have r2 := C2.out.r.bx.c2; have r3 := C2.out.r.bx.c3; have rf := C2.out.r.fz; have rl := C2.out.r.bx.lt
  go_wp2
  refine bodyPost_ret (v := .tuple #[.agg #[.int .i64 0, .int .i64 0, .int .i64 0, .string ⟨#[]⟩], .int .i64 40]) (by simp [results, Tryz.results9, go_sem, r0, r1, r2, r3]) rfl (CastA.mk rfl ?_)
  exact C2.out.fin _ _ _ _

set_option maxRecDepth 100000 in
set_option maxHeartbeats 1000000 in
theorem r4_23 (ck cn cc : Int) (cs : ByteArray) (s : Int) (w : World) (pn : Int) (HT : Hid (∀ W, Calls Tryz.prog 22 #[.agg #[.int .i64 3, .int .i64 s]] W (Says true W))) (HP : Hid (∀ W, Calls Tryz.prog 23 #[.agg #[.int .i64 ck, .int .i64 cn, .int .i64 cc, .string cs]] W (Val ⟨2, pn, 0, ⟨#[]⟩⟩ W))) (hn : i64 pn)  : Calls Tryz.prog 9 #[.agg #[.int .i64 ck, .int .i64 cn, .int .i64 cc, .string cs], .agg #[.int .i64 3, .int .i64 s]] w (CastA (Vm.scaled pn 0 3 s) w) := by
  have HS := Lib.hid (ref4_scaled pn 0 3 s · hn)
  clear hn
  revert HS
  generalize Vm.scaled pn 0 3 s = q
  obtain ⟨⟨x0, x1, x2, x3⟩, x4⟩ := q
  intro HS
  have C0 := Lib.hid (Cx.new w ck cn cc cs 3 s 24 26)
  go_enter Tryz.func9, Tryz.ntmps9
  go_wp2_with fail
  refine (HT.out _).mono ?_
  rintro e w1 ⟨rfl, hb⟩
  have C1 := Lib.hid (C0.out.keep hb)
  clear hb HT C0
  have d0 := C1.out.v.c0; have d1 := C1.out.v.c1; have d2 := C1.out.v.c2; have d3 := C1.out.v.c3
  go_wp2_with fail
  refine (HP.out _).mono ?_
  rintro e w2 ⟨rfl, hb⟩
  dsimp only
  have C2 := Lib.hid (C1.out.keep (hb.alloc hb.size (.cells #[.int .i64 2, .int .i64 pn, .int .i64 0, .string ⟨#[]⟩] 24)))
  have A2 := Lib.hid (Bx.new w2 2 pn 0 ⟨#[]⟩ 24)
  clear hb HP C1 d0 d1 d2 d3
  have a0 := A2.out.c0; have a1 := A2.out.c1; have a2 := A2.out.c2; have a3 := A2.out.c3
  have f0 := C2.out.t.c0; have f1 := C2.out.t.c1
  have r0 := C2.out.r.bx.c0; have r1 := C2.out.r.bx.c1; have r2 := C2.out.r.bx.c2; have r3 := C2.out.r.bx.c3; have rf := C2.out.r.fz; have rl := C2.out.r.bx.lt
  go_wp2_with fail
  refine (HS.out _).mono ?_
  rintro e w3 ⟨rfl, hb⟩
  have C3 := Lib.hid (C2.out.keep hb)
  clear hb HS r0 r1 r2 r3 rf rl f0 f1
  have f0 := C3.out.t.c0; have f1 := C3.out.t.c1
  have r0 := C3.out.r.bx.c0; have r1 := C3.out.r.bx.c1; have r2 := C3.out.r.bx.c2; have r3 := C3.out.r.bx.c3; have rf := C3.out.r.fz; have rl := C3.out.r.bx.lt
  dsimp only
  go_wp2
  refine bodyPost_ret (v := .tuple #[.agg #[.int .i64 x0, .int .i64 x1, .int .i64 x2, .string x3], .int .i64 x4]) (by simp [results, Tryz.results9, go_sem, r0, r1, r2, r3]) rfl (CastA.mk rfl ?_)
  exact C3.out.fin _ _ _ _

set_option maxRecDepth 100000 in
set_option maxHeartbeats 1000000 in
theorem r4_32 (ck cn cc : Int) (cs : ByteArray) (w : World) (pn : Int) (pc : Int) (HT : Hid (∀ W, Calls Tryz.prog 22 #[.agg #[.int .i64 2, .int .i64 0]] W (Says true W))) (HP : Hid (∀ W, Calls Tryz.prog 23 #[.agg #[.int .i64 ck, .int .i64 cn, .int .i64 cc, .string cs]] W (Val ⟨3, pn, pc, ⟨#[]⟩⟩ W))) (hn : i64 pn)  : Calls Tryz.prog 9 #[.agg #[.int .i64 ck, .int .i64 cn, .int .i64 cc, .string cs], .agg #[.int .i64 2, .int .i64 0]] w (CastA (Vm.scaled pn pc 2 0) w) := by
  have HS := Lib.hid (ref4_scaled pn pc 2 0 · hn)
  clear hn
  revert HS
  generalize Vm.scaled pn pc 2 0 = q
  obtain ⟨⟨x0, x1, x2, x3⟩, x4⟩ := q
  intro HS
  have C0 := Lib.hid (Cx.new w ck cn cc cs 2 0 24 26)
  go_enter Tryz.func9, Tryz.ntmps9
  go_wp2_with fail
  refine (HT.out _).mono ?_
  rintro e w1 ⟨rfl, hb⟩
  have C1 := Lib.hid (C0.out.keep hb)
  clear hb HT C0
  have d0 := C1.out.v.c0; have d1 := C1.out.v.c1; have d2 := C1.out.v.c2; have d3 := C1.out.v.c3
  go_wp2_with fail
  refine (HP.out _).mono ?_
  rintro e w2 ⟨rfl, hb⟩
  dsimp only
  have C2 := Lib.hid (C1.out.keep (hb.alloc hb.size (.cells #[.int .i64 3, .int .i64 pn, .int .i64 pc, .string ⟨#[]⟩] 24)))
  have A2 := Lib.hid (Bx.new w2 3 pn pc ⟨#[]⟩ 24)
  clear hb HP C1 d0 d1 d2 d3
  have a0 := A2.out.c0; have a1 := A2.out.c1; have a2 := A2.out.c2; have a3 := A2.out.c3
  have f0 := C2.out.t.c0; have f1 := C2.out.t.c1
  have r0 := C2.out.r.bx.c0; have r1 := C2.out.r.bx.c1; have r2 := C2.out.r.bx.c2; have r3 := C2.out.r.bx.c3; have rf := C2.out.r.fz; have rl := C2.out.r.bx.lt
  go_wp2_with fail
  refine (HS.out _).mono ?_
  rintro e w3 ⟨rfl, hb⟩
  have C3 := Lib.hid (C2.out.keep hb)
  clear hb HS r0 r1 r2 r3 rf rl f0 f1
  have f0 := C3.out.t.c0; have f1 := C3.out.t.c1
  have r0 := C3.out.r.bx.c0; have r1 := C3.out.r.bx.c1; have r2 := C3.out.r.bx.c2; have r3 := C3.out.r.bx.c3; have rf := C3.out.r.fz; have rl := C3.out.r.bx.lt
  dsimp only
  go_wp2
  refine bodyPost_ret (v := .tuple #[.agg #[.int .i64 x0, .int .i64 x1, .int .i64 x2, .string x3], .int .i64 x4]) (by simp [results, Tryz.results9, go_sem, r0, r1, r2, r3]) rfl (CastA.mk rfl ?_)
  exact C3.out.fin _ _ _ _

set_option maxRecDepth 100000 in
set_option maxHeartbeats 1000000 in
theorem r4_33 (ck cn cc : Int) (cs : ByteArray) (s : Int) (w : World) (pn : Int) (pc : Int) (HT : Hid (∀ W, Calls Tryz.prog 22 #[.agg #[.int .i64 3, .int .i64 s]] W (Says true W))) (HP : Hid (∀ W, Calls Tryz.prog 23 #[.agg #[.int .i64 ck, .int .i64 cn, .int .i64 cc, .string cs]] W (Val ⟨3, pn, pc, ⟨#[]⟩⟩ W))) (hn : i64 pn) (q2 : (pc == s) = false) : Calls Tryz.prog 9 #[.agg #[.int .i64 ck, .int .i64 cn, .int .i64 cc, .string cs], .agg #[.int .i64 3, .int .i64 s]] w (CastA (Vm.scaled pn pc 3 s) w) := by
  have HS := Lib.hid (ref4_scaled pn pc 3 s · hn)
  clear hn
  revert HS
  generalize Vm.scaled pn pc 3 s = q
  obtain ⟨⟨x0, x1, x2, x3⟩, x4⟩ := q
  intro HS
  have C0 := Lib.hid (Cx.new w ck cn cc cs 3 s 24 26)
  go_enter Tryz.func9, Tryz.ntmps9
  go_wp2_with fail
  refine (HT.out _).mono ?_
  rintro e w1 ⟨rfl, hb⟩
  have C1 := Lib.hid (C0.out.keep hb)
  clear hb HT C0
  have d0 := C1.out.v.c0; have d1 := C1.out.v.c1; have d2 := C1.out.v.c2; have d3 := C1.out.v.c3
  go_wp2_with fail
  refine (HP.out _).mono ?_
  rintro e w2 ⟨rfl, hb⟩
  dsimp only
  have C2 := Lib.hid (C1.out.keep (hb.alloc hb.size (.cells #[.int .i64 3, .int .i64 pn, .int .i64 pc, .string ⟨#[]⟩] 24)))
  have A2 := Lib.hid (Bx.new w2 3 pn pc ⟨#[]⟩ 24)
  clear hb HP C1 d0 d1 d2 d3
  have a0 := A2.out.c0; have a1 := A2.out.c1; have a2 := A2.out.c2; have a3 := A2.out.c3
  have f0 := C2.out.t.c0; have f1 := C2.out.t.c1
  have r0 := C2.out.r.bx.c0; have r1 := C2.out.r.bx.c1; have r2 := C2.out.r.bx.c2; have r3 := C2.out.r.bx.c3; have rf := C2.out.r.fz; have rl := C2.out.r.bx.lt
  go_wp2_with fail
  refine (HS.out _).mono ?_
  rintro e w3 ⟨rfl, hb⟩
  have C3 := Lib.hid (C2.out.keep hb)
  clear hb HS r0 r1 r2 r3 rf rl f0 f1
  have f0 := C3.out.t.c0; have f1 := C3.out.t.c1
  have r0 := C3.out.r.bx.c0; have r1 := C3.out.r.bx.c1; have r2 := C3.out.r.bx.c2; have r3 := C3.out.r.bx.c3; have rf := C3.out.r.fz; have rl := C3.out.r.bx.lt
  dsimp only
  go_wp2
  refine bodyPost_ret (v := .tuple #[.agg #[.int .i64 x0, .int .i64 x1, .int .i64 x2, .string x3], .int .i64 x4]) (by simp [results, Tryz.results9, go_sem, r0, r1, r2, r3]) rfl (CastA.mk rfl ?_)
  exact C3.out.fin _ _ _ _

set_option maxRecDepth 100000 in
set_option maxHeartbeats 1000000 in
theorem r4_24 (ck cn cc : Int) (cs : ByteArray) (w : World) (pn : Int) (HT : Hid (∀ W, Calls Tryz.prog 22 #[.agg #[.int .i64 4, .int .i64 0]] W (Says true W))) (HP : Hid (∀ W, Calls Tryz.prog 23 #[.agg #[.int .i64 ck, .int .i64 cn, .int .i64 cc, .string cs]] W (Val ⟨2, pn, 0, ⟨#[]⟩⟩ W))) (hn : i64 pn) : Calls Tryz.prog 9 #[.agg #[.int .i64 ck, .int .i64 cn, .int .i64 cc, .string cs], .agg #[.int .i64 4, .int .i64 0]] w (CastA (⟨4, 0, 0, ⟨(printM pn 0).toArray⟩⟩, 0) w) := by
  have HS : Hid (∀ W, Calls Tryz.prog 25 #[.int .i64 pn, .int .i64 0] W fun e w' => e = .returned (.string ⟨(printM pn 0).toArray⟩) ∧ Below W.heap.size W w') := (ref_print pn 0 · hn)
  clear hn
  revert HS
  generalize (⟨(printM pn 0).toArray⟩ : ByteArray) = T
  intro HS
  have C0 := Lib.hid (Cx.new w ck cn cc cs 4 0 24 26)
  go_enter Tryz.func9, Tryz.ntmps9
  go_wp2_with fail
  refine (HT.out _).mono ?_
  rintro e w1 ⟨rfl, hb⟩
  have C1 := Lib.hid (C0.out.keep hb)
  clear hb HT C0
  have d0 := C1.out.v.c0; have d1 := C1.out.v.c1; have d2 := C1.out.v.c2; have d3 := C1.out.v.c3
  go_wp2_with fail
  refine (HP.out _).mono ?_
  rintro e w2 ⟨rfl, hb⟩
  dsimp only
  have C2 := Lib.hid (C1.out.keep (hb.alloc hb.size (.cells #[.int .i64 2, .int .i64 pn, .int .i64 0, .string ⟨#[]⟩] 24)))
  have A2 := Lib.hid (Bx.new w2 2 pn 0 ⟨#[]⟩ 24)
  clear hb HP C1 d0 d1 d2 d3
  have a0 := A2.out.c0; have a1 := A2.out.c1; have a2 := A2.out.c2; have a3 := A2.out.c3
  have f0 := C2.out.t.c0; have f1 := C2.out.t.c1
  have r0 := C2.out.r.bx.c0; have r1 := C2.out.r.bx.c1; have r2 := C2.out.r.bx.c2; have r3 := C2.out.r.bx.c3; have rf := C2.out.r.fz; have rl := C2.out.r.bx.lt
  go_wp2_with fail
  refine (HS.out _).mono ?_
  rintro e w3 ⟨rfl, hb⟩
  have C3 := Lib.hid (C2.out.keep hb)
  clear hb HS r0 r1 r2 r3 rf rl f0 f1
  have f0 := C3.out.t.c0; have f1 := C3.out.t.c1
  have r0 := C3.out.r.bx.c0; have r1 := C3.out.r.bx.c1; have r2 := C3.out.r.bx.c2; have r3 := C3.out.r.bx.c3; have rf := C3.out.r.fz; have rl := C3.out.r.bx.lt
  go_wp2
  refine bodyPost_ret (v := .tuple #[.agg #[.int .i64 4, .int .i64 0, .int .i64 0, .string T], .int .i64 0]) (by simp [results, Tryz.results9, go_sem, r0, r1, r2, r3]) rfl (CastA.mk rfl ?_)
  exact C3.out.fin _ _ _ _

set_option maxRecDepth 100000 in
set_option maxHeartbeats 1000000 in
theorem r4_34 (ck cn cc : Int) (cs : ByteArray) (w : World) (pn : Int) (pc : Int) (HT : Hid (∀ W, Calls Tryz.prog 22 #[.agg #[.int .i64 4, .int .i64 0]] W (Says true W))) (HP : Hid (∀ W, Calls Tryz.prog 23 #[.agg #[.int .i64 ck, .int .i64 cn, .int .i64 cc, .string cs]] W (Val ⟨3, pn, pc, ⟨#[]⟩⟩ W))) (hn : i64 pn) : Calls Tryz.prog 9 #[.agg #[.int .i64 ck, .int .i64 cn, .int .i64 cc, .string cs], .agg #[.int .i64 4, .int .i64 0]] w (CastA (⟨4, 0, 0, ⟨(printM pn pc).toArray⟩⟩, 0) w) := by
  have HS : Hid (∀ W, Calls Tryz.prog 25 #[.int .i64 pn, .int .i64 pc] W fun e w' => e = .returned (.string ⟨(printM pn pc).toArray⟩) ∧ Below W.heap.size W w') := (ref_print pn pc · hn)
  clear hn
  revert HS
  generalize (⟨(printM pn pc).toArray⟩ : ByteArray) = T
  intro HS
  have C0 := Lib.hid (Cx.new w ck cn cc cs 4 0 24 26)
  go_enter Tryz.func9, Tryz.ntmps9
  go_wp2_with fail
  refine (HT.out _).mono ?_
  rintro e w1 ⟨rfl, hb⟩
  have C1 := Lib.hid (C0.out.keep hb)
  clear hb HT C0
  have d0 := C1.out.v.c0; have d1 := C1.out.v.c1; have d2 := C1.out.v.c2; have d3 := C1.out.v.c3
  go_wp2_with fail
  refine (HP.out _).mono ?_
  rintro e w2 ⟨rfl, hb⟩
  dsimp only
  have C2 := Lib.hid (C1.out.keep (hb.alloc hb.size (.cells #[.int .i64 3, .int .i64 pn, .int .i64 pc, .string ⟨#[]⟩] 24)))
  have A2 := Lib.hid (Bx.new w2 3 pn pc ⟨#[]⟩ 24)
  clear hb HP C1 d0 d1 d2 d3
  have a0 := A2.out.c0; have a1 := A2.out.c1; have a2 := A2.out.c2; have a3 := A2.out.c3
  have f0 := C2.out.t.c0; have f1 := C2.out.t.c1
  have r0 := C2.out.r.bx.c0; have r1 := C2.out.r.bx.c1; have r2 := C2.out.r.bx.c2; have r3 := C2.out.r.bx.c3; have rf := C2.out.r.fz; have rl := C2.out.r.bx.lt
  go_wp2_with fail
  refine (HS.out _).mono ?_
  rintro e w3 ⟨rfl, hb⟩
  have C3 := Lib.hid (C2.out.keep hb)
  clear hb HS r0 r1 r2 r3 rf rl f0 f1
  have f0 := C3.out.t.c0; have f1 := C3.out.t.c1
  have r0 := C3.out.r.bx.c0; have r1 := C3.out.r.bx.c1; have r2 := C3.out.r.bx.c2; have r3 := C3.out.r.bx.c3; have rf := C3.out.r.fz; have rl := C3.out.r.bx.lt
  go_wp2
  refine bodyPost_ret (v := .tuple #[.agg #[.int .i64 4, .int .i64 0, .int .i64 0, .string T], .int .i64 0]) (by simp [results, Tryz.results9, go_sem, r0, r1, r2, r3]) rfl (CastA.mk rfl ?_)
  exact C3.out.fin _ _ _ _

set_option maxRecDepth 100000 in
set_option maxHeartbeats 1000000 in
theorem r4_25 (ck cn cc : Int) (cs : ByteArray) (w : World) (pn : Int) (HT : Hid (∀ W, Calls Tryz.prog 22 #[.agg #[.int .i64 5, .int .i64 0]] W (Says true W))) (HP : Hid (∀ W, Calls Tryz.prog 23 #[.agg #[.int .i64 ck, .int .i64 cn, .int .i64 cc, .string cs]] W (Val ⟨2, pn, 0, ⟨#[]⟩⟩ W)))  : Calls Tryz.prog 9 #[.agg #[.int .i64 ck, .int .i64 cn, .int .i64 cc, .string cs], .agg #[.int .i64 5, .int .i64 0]] w (CastA (⟨0, 0, 0, ⟨#[]⟩⟩, 40) w) := by
  have C0 := Lib.hid (Cx.new w ck cn cc cs 5 0 24 26)
  go_enter Tryz.func9, Tryz.ntmps9
  go_wp2_with fail
  refine (HT.out _).mono ?_
  rintro e w1 ⟨rfl, hb⟩
  have C1 := Lib.hid (C0.out.keep hb)
  clear hb HT C0
  have d0 := C1.out.v.c0; have d1 := C1.out.v.c1; have d2 := C1.out.v.c2; have d3 := C1.out.v.c3
  go_wp2_with fail
  refine (HP.out _).mono ?_
  rintro e w2 ⟨rfl, hb⟩
  dsimp only
  have C2 := Lib.hid (C1.out.keep (hb.alloc hb.size (.cells #[.int .i64 2, .int .i64 pn, .int .i64 0, .string ⟨#[]⟩] 24)))
  have A2 := Lib.hid (Bx.new w2 2 pn 0 ⟨#[]⟩ 24)
  clear hb HP C1 d0 d1 d2 d3
  have a0 := A2.out.c0; have a1 := A2.out.c1; have a2 := A2.out.c2; have a3 := A2.out.c3
  have f0 := C2.out.t.c0; have f1 := C2.out.t.c1
  have r0 := C2.out.r.bx.c0; have r1 := C2.out.r.bx.c1; have r2 := C2.out.r.bx.c2; have r3 := C2.out.r.bx.c3; have rf := C2.out.r.fz; have rl := C2.out.r.bx.lt
  go_wp2
  refine bodyPost_ret (v := .tuple #[.agg #[.int .i64 0, .int .i64 0, .int .i64 0, .string ⟨#[]⟩], .int .i64 40]) (by simp [results, Tryz.results9, go_sem, r0, r1, r2, r3]) rfl (CastA.mk rfl ?_)
  exact C2.out.fin _ _ _ _

set_option maxRecDepth 100000 in
set_option maxHeartbeats 1000000 in
theorem r4_31 (ck cn cc : Int) (cs : ByteArray) (w : World) (pn pc : Int) (HT : Hid (∀ W, Calls Tryz.prog 22 #[.agg #[.int .i64 1, .int .i64 0]] W (Says true W))) (HP : Hid (∀ W, Calls Tryz.prog 23 #[.agg #[.int .i64 ck, .int .i64 cn, .int .i64 cc, .string cs]] W (Val ⟨3, pn, pc, ⟨#[]⟩⟩ W)))  : Calls Tryz.prog 9 #[.agg #[.int .i64 ck, .int .i64 cn, .int .i64 cc, .string cs], .agg #[.int .i64 1, .int .i64 0]] w (CastA (⟨0, 0, 0, ⟨#[]⟩⟩, 40) w) := by
  have C0 := Lib.hid (Cx.new w ck cn cc cs 1 0 24 26)
  go_enter Tryz.func9, Tryz.ntmps9
  go_wp2_with fail
  refine (HT.out _).mono ?_
  rintro e w1 ⟨rfl, hb⟩
  have C1 := Lib.hid (C0.out.keep hb)
  clear hb HT C0
  have d0 := C1.out.v.c0; have d1 := C1.out.v.c1; have d2 := C1.out.v.c2; have d3 := C1.out.v.c3
  go_wp2_with fail
  refine (HP.out _).mono ?_
  rintro e w2 ⟨rfl, hb⟩
  dsimp only
  have C2 := Lib.hid (C1.out.keep (hb.alloc hb.size (.cells #[.int .i64 3, .int .i64 pn, .int .i64 pc, .string ⟨#[]⟩] 24)))
  have A2 := Lib.hid (Bx.new w2 3 pn pc ⟨#[]⟩ 24)
  clear hb HP C1 d0 d1 d2 d3
  have a0 := A2.out.c0; have a1 := A2.out.c1; have a2 := A2.out.c2; have a3 := A2.out.c3
  have f0 := C2.out.t.c0; have f1 := C2.out.t.c1
  have r0 := C2.out.r.bx.c0; have r1 := C2.out.r.bx.c1; have r2 := C2.out.r.bx.c2; have r3 := C2.out.r.bx.c3; have rf := C2.out.r.fz; have rl := C2.out.r.bx.lt
  go_wp2
  refine bodyPost_ret (v := .tuple #[.agg #[.int .i64 0, .int .i64 0, .int .i64 0, .string ⟨#[]⟩], .int .i64 40]) (by simp [results, Tryz.results9, go_sem, r0, r1, r2, r3]) rfl (CastA.mk rfl ?_)
  exact C2.out.fin _ _ _ _

set_option maxRecDepth 100000 in
set_option maxHeartbeats 1000000 in
theorem r4_35 (ck cn cc : Int) (cs : ByteArray) (w : World) (pn pc : Int) (HT : Hid (∀ W, Calls Tryz.prog 22 #[.agg #[.int .i64 5, .int .i64 0]] W (Says true W))) (HP : Hid (∀ W, Calls Tryz.prog 23 #[.agg #[.int .i64 ck, .int .i64 cn, .int .i64 cc, .string cs]] W (Val ⟨3, pn, pc, ⟨#[]⟩⟩ W)))  : Calls Tryz.prog 9 #[.agg #[.int .i64 ck, .int .i64 cn, .int .i64 cc, .string cs], .agg #[.int .i64 5, .int .i64 0]] w (CastA (⟨0, 0, 0, ⟨#[]⟩⟩, 40) w) := by
  have C0 := Lib.hid (Cx.new w ck cn cc cs 5 0 24 26)
  go_enter Tryz.func9, Tryz.ntmps9
  go_wp2_with fail
  refine (HT.out _).mono ?_
  rintro e w1 ⟨rfl, hb⟩
  have C1 := Lib.hid (C0.out.keep hb)
  clear hb HT C0
  have d0 := C1.out.v.c0; have d1 := C1.out.v.c1; have d2 := C1.out.v.c2; have d3 := C1.out.v.c3
  go_wp2_with fail
  refine (HP.out _).mono ?_
  rintro e w2 ⟨rfl, hb⟩
  dsimp only
  have C2 := Lib.hid (C1.out.keep (hb.alloc hb.size (.cells #[.int .i64 3, .int .i64 pn, .int .i64 pc, .string ⟨#[]⟩] 24)))
  have A2 := Lib.hid (Bx.new w2 3 pn pc ⟨#[]⟩ 24)
  clear hb HP C1 d0 d1 d2 d3
  have a0 := A2.out.c0; have a1 := A2.out.c1; have a2 := A2.out.c2; have a3 := A2.out.c3
  have f0 := C2.out.t.c0; have f1 := C2.out.t.c1
  have r0 := C2.out.r.bx.c0; have r1 := C2.out.r.bx.c1; have r2 := C2.out.r.bx.c2; have r3 := C2.out.r.bx.c3; have rf := C2.out.r.fz; have rl := C2.out.r.bx.lt
  go_wp2
  refine bodyPost_ret (v := .tuple #[.agg #[.int .i64 0, .int .i64 0, .int .i64 0, .string ⟨#[]⟩], .int .i64 40]) (by simp [results, Tryz.results9, go_sem, r0, r1, r2, r3]) rfl (CastA.mk rfl ?_)
  exact C2.out.fin _ _ _ _

set_option maxRecDepth 100000 in
set_option maxHeartbeats 1000000 in
theorem r4_41_t (ck cn cc : Int) (cs : ByteArray) (w : World)  (HT : Hid (∀ W, Calls Tryz.prog 22 #[.agg #[.int .i64 1, .int .i64 0]] W (Says true W))) (HP : Hid (∀ W, Calls Tryz.prog 23 #[.agg #[.int .i64 ck, .int .i64 cn, .int .i64 cc, .string cs]] W (Val ⟨4, 0, 0, ⟨#[116, 114, 117, 101]⟩⟩ W)))  : Calls Tryz.prog 9 #[.agg #[.int .i64 ck, .int .i64 cn, .int .i64 cc, .string cs], .agg #[.int .i64 1, .int .i64 0]] w (CastA (⟨1, 1, 0, ⟨#[]⟩⟩, 0) w) := by
  have C0 := Lib.hid (Cx.new w ck cn cc cs 1 0 24 26)
  go_enter Tryz.func9, Tryz.ntmps9
  go_wp2_with fail
  refine (HT.out _).mono ?_
  rintro e w1 ⟨rfl, hb⟩
  have C1 := Lib.hid (C0.out.keep hb)
  clear hb HT C0
  have d0 := C1.out.v.c0; have d1 := C1.out.v.c1; have d2 := C1.out.v.c2; have d3 := C1.out.v.c3
  go_wp2_with fail
  refine (HP.out _).mono ?_
  rintro e w2 ⟨rfl, hb⟩
  dsimp only
  have C2 := Lib.hid (C1.out.keep (hb.alloc hb.size (.cells #[.int .i64 4, .int .i64 0, .int .i64 0, .string ⟨#[116, 114, 117, 101]⟩] 24)))
  have A2 := Lib.hid (Bx.new w2 4 0 0 ⟨#[116, 114, 117, 101]⟩ 24)
  clear hb HP C1 d0 d1 d2 d3
  have a0 := A2.out.c0; have a1 := A2.out.c1; have a2 := A2.out.c2; have a3 := A2.out.c3
  have f0 := C2.out.t.c0; have f1 := C2.out.t.c1
  have r0 := C2.out.r.bx.c0; have r1 := C2.out.r.bx.c1; have r2 := C2.out.r.bx.c2; have r3 := C2.out.r.bx.c3; have rf := C2.out.r.fz; have rl := C2.out.r.bx.lt
  go_wp2
  refine bodyPost_ret (v := .tuple #[.agg #[.int .i64 1, .int .i64 1, .int .i64 0, .string ⟨#[]⟩], .int .i64 0]) (by simp [results, Tryz.results9, go_sem, r0, r1, r2, r3]) rfl (CastA.mk rfl ?_)
  exact C2.out.fin _ _ _ _

set_option maxRecDepth 100000 in
set_option maxHeartbeats 1000000 in
theorem r4_41_f (ck cn cc : Int) (cs : ByteArray) (w : World)  (HT : Hid (∀ W, Calls Tryz.prog 22 #[.agg #[.int .i64 1, .int .i64 0]] W (Says true W))) (HP : Hid (∀ W, Calls Tryz.prog 23 #[.agg #[.int .i64 ck, .int .i64 cn, .int .i64 cc, .string cs]] W (Val ⟨4, 0, 0, ⟨#[102, 97, 108, 115, 101]⟩⟩ W)))  : Calls Tryz.prog 9 #[.agg #[.int .i64 ck, .int .i64 cn, .int .i64 cc, .string cs], .agg #[.int .i64 1, .int .i64 0]] w (CastA (⟨1, 0, 0, ⟨#[]⟩⟩, 0) w) := by
  have C0 := Lib.hid (Cx.new w ck cn cc cs 1 0 24 26)
  go_enter Tryz.func9, Tryz.ntmps9
  go_wp2_with fail
  refine (HT.out _).mono ?_
  rintro e w1 ⟨rfl, hb⟩
  have C1 := Lib.hid (C0.out.keep hb)
  clear hb HT C0
  have d0 := C1.out.v.c0; have d1 := C1.out.v.c1; have d2 := C1.out.v.c2; have d3 := C1.out.v.c3
  go_wp2_with fail
  refine (HP.out _).mono ?_
  rintro e w2 ⟨rfl, hb⟩
  dsimp only
  have C2 := Lib.hid (C1.out.keep (hb.alloc hb.size (.cells #[.int .i64 4, .int .i64 0, .int .i64 0, .string ⟨#[102, 97, 108, 115, 101]⟩] 24)))
  have A2 := Lib.hid (Bx.new w2 4 0 0 ⟨#[102, 97, 108, 115, 101]⟩ 24)
  clear hb HP C1 d0 d1 d2 d3
  have a0 := A2.out.c0; have a1 := A2.out.c1; have a2 := A2.out.c2; have a3 := A2.out.c3
  have f0 := C2.out.t.c0; have f1 := C2.out.t.c1
  have r0 := C2.out.r.bx.c0; have r1 := C2.out.r.bx.c1; have r2 := C2.out.r.bx.c2; have r3 := C2.out.r.bx.c3; have rf := C2.out.r.fz; have rl := C2.out.r.bx.lt
  go_wp2
  refine bodyPost_ret (v := .tuple #[.agg #[.int .i64 1, .int .i64 0, .int .i64 0, .string ⟨#[]⟩], .int .i64 0]) (by simp [results, Tryz.results9, go_sem, r0, r1, r2, r3]) rfl (CastA.mk rfl ?_)
  exact C2.out.fin _ _ _ _

set_option maxRecDepth 100000 in
set_option maxHeartbeats 1000000 in
theorem r4_41_x (ck cn cc : Int) (cs : ByteArray) (w : World) (ps : ByteArray) (m j : Int) (b : Bool) (HT : Hid (∀ W, Calls Tryz.prog 22 #[.agg #[.int .i64 1, .int .i64 0]] W (Says true W))) (HP : Hid (∀ W, Calls Tryz.prog 23 #[.agg #[.int .i64 ck, .int .i64 cn, .int .i64 cc, .string cs]] W (Val ⟨4, 0, 0, ps⟩ W))) (hl : ps.size ≤ 1000) (q1 : (ps.toList == [116, 114, 117, 101]) = false) (q2 : (ps.toList == [102, 97, 108, 115, 101]) = false) (hp : Pm.parseM ps.data.toList = (m, j, b)) : Calls Tryz.prog 9 #[.agg #[.int .i64 ck, .int .i64 cn, .int .i64 cc, .string cs], .agg #[.int .i64 1, .int .i64 0]] w (CastA (⟨0, 0, 0, ⟨#[]⟩⟩, 40) w) := by
  have HS := Lib.hid (ref_parse ps · hl)
  rw [hp] at HS
  clear hp hl
  have C0 := Lib.hid (Cx.new w ck cn cc cs 1 0 24 26)
  go_enter Tryz.func9, Tryz.ntmps9
  go_wp2_with fail
  refine (HT.out _).mono ?_
  rintro e w1 ⟨rfl, hb⟩
  have C1 := Lib.hid (C0.out.keep hb)
  clear hb HT C0
  have d0 := C1.out.v.c0; have d1 := C1.out.v.c1; have d2 := C1.out.v.c2; have d3 := C1.out.v.c3
  go_wp2_with fail
  refine (HP.out _).mono ?_
  rintro e w2 ⟨rfl, hb⟩
  dsimp only
  have C2 := Lib.hid (C1.out.keep (hb.alloc hb.size (.cells #[.int .i64 4, .int .i64 0, .int .i64 0, .string ps] 24)))
  have A2 := Lib.hid (Bx.new w2 4 0 0 ps 24)
  clear hb HP C1 d0 d1 d2 d3
  have a0 := A2.out.c0; have a1 := A2.out.c1; have a2 := A2.out.c2; have a3 := A2.out.c3
  have f0 := C2.out.t.c0; have f1 := C2.out.t.c1
  have r0 := C2.out.r.bx.c0; have r1 := C2.out.r.bx.c1; have r2 := C2.out.r.bx.c2; have r3 := C2.out.r.bx.c3; have rf := C2.out.r.fz; have rl := C2.out.r.bx.lt
  go_wp2_with fail
  refine (HS.out _).mono ?_
  rintro e w3 ⟨rfl, hb⟩
  have C3 := Lib.hid (C2.out.keep hb); have A3 := Lib.hid (A2.out.keep hb)
  clear hb HS r0 r1 r2 r3 rf rl f0 f1 a0 a1 a2 a3
  have a0 := A3.out.c0; have a1 := A3.out.c1; have a2 := A3.out.c2; have a3 := A3.out.c3
  have f0 := C3.out.t.c0; have f1 := C3.out.t.c1
  have r0 := C3.out.r.bx.c0; have r1 := C3.out.r.bx.c1; have r2 := C3.out.r.bx.c2; have r3 := C3.out.r.bx.c3; have rf := C3.out.r.fz; have rl := C3.out.r.bx.lt
  dsimp only
  go_wp2
  refine bodyPost_ret (v := .tuple #[.agg #[.int .i64 0, .int .i64 0, .int .i64 0, .string ⟨#[]⟩], .int .i64 40]) (by simp [results, Tryz.results9, go_sem, r0, r1, r2, r3]) rfl (CastA.mk rfl ?_)
  exact C3.out.fin _ _ _ _

set_option maxRecDepth 100000 in
set_option maxHeartbeats 1000000 in
theorem r4_42_no (ck cn cc : Int) (cs : ByteArray) (w : World) (ps : ByteArray) (m j : Int) (HT : Hid (∀ W, Calls Tryz.prog 22 #[.agg #[.int .i64 2, .int .i64 0]] W (Says true W))) (HP : Hid (∀ W, Calls Tryz.prog 23 #[.agg #[.int .i64 ck, .int .i64 cn, .int .i64 cc, .string cs]] W (Val ⟨4, 0, 0, ps⟩ W))) (hl : ps.size ≤ 1000) (hp : Pm.parseM ps.data.toList = (m, j, false)) : Calls Tryz.prog 9 #[.agg #[.int .i64 ck, .int .i64 cn, .int .i64 cc, .string cs], .agg #[.int .i64 2, .int .i64 0]] w (CastA (⟨0, 0, 0, ⟨#[]⟩⟩, 40) w) := by
  have HS := Lib.hid (ref_parse ps · hl)
  rw [hp] at HS
  clear hp hl
  have C0 := Lib.hid (Cx.new w ck cn cc cs 2 0 24 26)
  go_enter Tryz.func9, Tryz.ntmps9
  go_wp2_with fail
  refine (HT.out _).mono ?_
  rintro e w1 ⟨rfl, hb⟩
  have C1 := Lib.hid (C0.out.keep hb)
  clear hb HT C0
  have d0 := C1.out.v.c0; have d1 := C1.out.v.c1; have d2 := C1.out.v.c2; have d3 := C1.out.v.c3
  go_wp2_with fail
  refine (HP.out _).mono ?_
  rintro e w2 ⟨rfl, hb⟩
  dsimp only
  have C2 := Lib.hid (C1.out.keep (hb.alloc hb.size (.cells #[.int .i64 4, .int .i64 0, .int .i64 0, .string ps] 24)))
  have A2 := Lib.hid (Bx.new w2 4 0 0 ps 24)
  clear hb HP C1 d0 d1 d2 d3
  have a0 := A2.out.c0; have a1 := A2.out.c1; have a2 := A2.out.c2; have a3 := A2.out.c3
  have f0 := C2.out.t.c0; have f1 := C2.out.t.c1
  have r0 := C2.out.r.bx.c0; have r1 := C2.out.r.bx.c1; have r2 := C2.out.r.bx.c2; have r3 := C2.out.r.bx.c3; have rf := C2.out.r.fz; have rl := C2.out.r.bx.lt
  go_wp2_with fail
  refine (HS.out _).mono ?_
  rintro e w3 ⟨rfl, hb⟩
  have C3 := Lib.hid (C2.out.keep hb); have A3 := Lib.hid (A2.out.keep hb)
  clear hb HS r0 r1 r2 r3 rf rl f0 f1 a0 a1 a2 a3
  have a0 := A3.out.c0; have a1 := A3.out.c1; have a2 := A3.out.c2; have a3 := A3.out.c3
  have f0 := C3.out.t.c0; have f1 := C3.out.t.c1
  have r0 := C3.out.r.bx.c0; have r1 := C3.out.r.bx.c1; have r2 := C3.out.r.bx.c2; have r3 := C3.out.r.bx.c3; have rf := C3.out.r.fz; have rl := C3.out.r.bx.lt
  dsimp only
  go_wp2
  refine bodyPost_ret (v := .tuple #[.agg #[.int .i64 0, .int .i64 0, .int .i64 0, .string ⟨#[]⟩], .int .i64 40]) (by simp [results, Tryz.results9, go_sem, r0, r1, r2, r3]) rfl (CastA.mk rfl ?_)
  exact C3.out.fin _ _ _ _

set_option maxRecDepth 100000 in
set_option maxHeartbeats 1000000 in
theorem r4_42_ok (ck cn cc : Int) (cs : ByteArray) (w : World) (ps : ByteArray) (m j : Int) (HT : Hid (∀ W, Calls Tryz.prog 22 #[.agg #[.int .i64 2, .int .i64 0]] W (Says true W))) (HP : Hid (∀ W, Calls Tryz.prog 23 #[.agg #[.int .i64 ck, .int .i64 cn, .int .i64 cc, .string cs]] W (Val ⟨4, 0, 0, ps⟩ W))) (hl : ps.size ≤ 1000) (hp : Pm.parseM ps.data.toList = (m, j, true)) (hm : i64 m) : Calls Tryz.prog 9 #[.agg #[.int .i64 ck, .int .i64 cn, .int .i64 cc, .string cs], .agg #[.int .i64 2, .int .i64 0]] w (CastA (Vm.scaled m j 2 0) w) := by
  have HS := Lib.hid (ref_parse ps · hl)
  rw [hp] at HS
  clear hp hl
  have HQ := Lib.hid (ref4_scaled m j 2 0 · hm)
  clear hm
  revert HQ
  generalize Vm.scaled m j 2 0 = q
  obtain ⟨⟨x0, x1, x2, x3⟩, x4⟩ := q
  intro HQ
  have C0 := Lib.hid (Cx.new w ck cn cc cs 2 0 24 26)
  go_enter Tryz.func9, Tryz.ntmps9
  go_wp2_with fail
  refine (HT.out _).mono ?_
  rintro e w1 ⟨rfl, hb⟩
  have C1 := Lib.hid (C0.out.keep hb)
  clear hb HT C0
  have d0 := C1.out.v.c0; have d1 := C1.out.v.c1; have d2 := C1.out.v.c2; have d3 := C1.out.v.c3
  go_wp2_with fail
  refine (HP.out _).mono ?_
  rintro e w2 ⟨rfl, hb⟩
  dsimp only
  have C2 := Lib.hid (C1.out.keep (hb.alloc hb.size (.cells #[.int .i64 4, .int .i64 0, .int .i64 0, .string ps] 24)))
  have A2 := Lib.hid (Bx.new w2 4 0 0 ps 24)
  clear hb HP C1 d0 d1 d2 d3
  have a0 := A2.out.c0; have a1 := A2.out.c1; have a2 := A2.out.c2; have a3 := A2.out.c3
  have f0 := C2.out.t.c0; have f1 := C2.out.t.c1
  have r0 := C2.out.r.bx.c0; have r1 := C2.out.r.bx.c1; have r2 := C2.out.r.bx.c2; have r3 := C2.out.r.bx.c3; have rf := C2.out.r.fz; have rl := C2.out.r.bx.lt
  go_wp2_with fail
  refine (HS.out _).mono ?_
  rintro e w3 ⟨rfl, hb⟩
  have C3 := Lib.hid (C2.out.keep hb); have A3 := Lib.hid (A2.out.keep hb)
  clear hb HS r0 r1 r2 r3 rf rl f0 f1 a0 a1 a2 a3
  have a0 := A3.out.c0; have a1 := A3.out.c1; have a2 := A3.out.c2; have a3 := A3.out.c3
  have f0 := C3.out.t.c0; have f1 := C3.out.t.c1
  have r0 := C3.out.r.bx.c0; have r1 := C3.out.r.bx.c1; have r2 := C3.out.r.bx.c2; have r3 := C3.out.r.bx.c3; have rf := C3.out.r.fz; have rl := C3.out.r.bx.lt
  dsimp only
  go_wp2_with fail
  refine (HQ.out _).mono ?_
  rintro e w4 ⟨rfl, hb⟩
  have C4 := Lib.hid (C3.out.keep hb)
  clear hb HQ r0 r1 r2 r3 rf rl f0 f1
  have f0 := C4.out.t.c0; have f1 := C4.out.t.c1
  have r0 := C4.out.r.bx.c0; have r1 := C4.out.r.bx.c1; have r2 := C4.out.r.bx.c2; have r3 := C4.out.r.bx.c3; have rf := C4.out.r.fz; have rl := C4.out.r.bx.lt
  dsimp only
  go_wp2
  refine bodyPost_ret (v := .tuple #[.agg #[.int .i64 x0, .int .i64 x1, .int .i64 x2, .string x3], .int .i64 x4]) (by simp [results, Tryz.results9, go_sem, r0, r1, r2, r3]) rfl (CastA.mk rfl ?_)
  exact C4.out.fin _ _ _ _

set_option maxRecDepth 100000 in
set_option maxHeartbeats 1000000 in
theorem r4_43_no (ck cn cc : Int) (cs : ByteArray) (s : Int) (w : World) (ps : ByteArray) (m j : Int) (HT : Hid (∀ W, Calls Tryz.prog 22 #[.agg #[.int .i64 3, .int .i64 s]] W (Says true W))) (HP : Hid (∀ W, Calls Tryz.prog 23 #[.agg #[.int .i64 ck, .int .i64 cn, .int .i64 cc, .string cs]] W (Val ⟨4, 0, 0, ps⟩ W))) (hl : ps.size ≤ 1000) (hp : Pm.parseM ps.data.toList = (m, j, false)) : Calls Tryz.prog 9 #[.agg #[.int .i64 ck, .int .i64 cn, .int .i64 cc, .string cs], .agg #[.int .i64 3, .int .i64 s]] w (CastA (⟨0, 0, 0, ⟨#[]⟩⟩, 40) w) := by
  have HS := Lib.hid (ref_parse ps · hl)
  rw [hp] at HS
  clear hp hl
  have C0 := Lib.hid (Cx.new w ck cn cc cs 3 s 24 26)
  go_enter Tryz.func9, Tryz.ntmps9
  go_wp2_with fail
  refine (HT.out _).mono ?_
  rintro e w1 ⟨rfl, hb⟩
  have C1 := Lib.hid (C0.out.keep hb)
  clear hb HT C0
  have d0 := C1.out.v.c0; have d1 := C1.out.v.c1; have d2 := C1.out.v.c2; have d3 := C1.out.v.c3
  go_wp2_with fail
  refine (HP.out _).mono ?_
  rintro e w2 ⟨rfl, hb⟩
  dsimp only
  have C2 := Lib.hid (C1.out.keep (hb.alloc hb.size (.cells #[.int .i64 4, .int .i64 0, .int .i64 0, .string ps] 24)))
  have A2 := Lib.hid (Bx.new w2 4 0 0 ps 24)
  clear hb HP C1 d0 d1 d2 d3
  have a0 := A2.out.c0; have a1 := A2.out.c1; have a2 := A2.out.c2; have a3 := A2.out.c3
  have f0 := C2.out.t.c0; have f1 := C2.out.t.c1
  have r0 := C2.out.r.bx.c0; have r1 := C2.out.r.bx.c1; have r2 := C2.out.r.bx.c2; have r3 := C2.out.r.bx.c3; have rf := C2.out.r.fz; have rl := C2.out.r.bx.lt
  go_wp2_with fail
  refine (HS.out _).mono ?_
  rintro e w3 ⟨rfl, hb⟩
  have C3 := Lib.hid (C2.out.keep hb); have A3 := Lib.hid (A2.out.keep hb)
  clear hb HS r0 r1 r2 r3 rf rl f0 f1 a0 a1 a2 a3
  have a0 := A3.out.c0; have a1 := A3.out.c1; have a2 := A3.out.c2; have a3 := A3.out.c3
  have f0 := C3.out.t.c0; have f1 := C3.out.t.c1
  have r0 := C3.out.r.bx.c0; have r1 := C3.out.r.bx.c1; have r2 := C3.out.r.bx.c2; have r3 := C3.out.r.bx.c3; have rf := C3.out.r.fz; have rl := C3.out.r.bx.lt
  dsimp only
  go_wp2
  refine bodyPost_ret (v := .tuple #[.agg #[.int .i64 0, .int .i64 0, .int .i64 0, .string ⟨#[]⟩], .int .i64 40]) (by simp [results, Tryz.results9, go_sem, r0, r1, r2, r3]) rfl (CastA.mk rfl ?_)
  exact C3.out.fin _ _ _ _

set_option maxRecDepth 100000 in
set_option maxHeartbeats 1000000 in
theorem r4_43_ok (ck cn cc : Int) (cs : ByteArray) (s : Int) (w : World) (ps : ByteArray) (m j : Int) (HT : Hid (∀ W, Calls Tryz.prog 22 #[.agg #[.int .i64 3, .int .i64 s]] W (Says true W))) (HP : Hid (∀ W, Calls Tryz.prog 23 #[.agg #[.int .i64 ck, .int .i64 cn, .int .i64 cc, .string cs]] W (Val ⟨4, 0, 0, ps⟩ W))) (hl : ps.size ≤ 1000) (hp : Pm.parseM ps.data.toList = (m, j, true)) (hm : i64 m) : Calls Tryz.prog 9 #[.agg #[.int .i64 ck, .int .i64 cn, .int .i64 cc, .string cs], .agg #[.int .i64 3, .int .i64 s]] w (CastA (Vm.scaled m j 3 s) w) := by
  have HS := Lib.hid (ref_parse ps · hl)
  rw [hp] at HS
  clear hp hl
  have HQ := Lib.hid (ref4_scaled m j 3 s · hm)
  clear hm
  revert HQ
  generalize Vm.scaled m j 3 s = q
  obtain ⟨⟨x0, x1, x2, x3⟩, x4⟩ := q
  intro HQ
  have C0 := Lib.hid (Cx.new w ck cn cc cs 3 s 24 26)
  go_enter Tryz.func9, Tryz.ntmps9
  go_wp2_with fail
  refine (HT.out _).mono ?_
  rintro e w1 ⟨rfl, hb⟩
  have C1 := Lib.hid (C0.out.keep hb)
  clear hb HT C0
  have d0 := C1.out.v.c0; have d1 := C1.out.v.c1; have d2 := C1.out.v.c2; have d3 := C1.out.v.c3
  go_wp2_with fail
  refine (HP.out _).mono ?_
  rintro e w2 ⟨rfl, hb⟩
  dsimp only
  have C2 := Lib.hid (C1.out.keep (hb.alloc hb.size (.cells #[.int .i64 4, .int .i64 0, .int .i64 0, .string ps] 24)))
  have A2 := Lib.hid (Bx.new w2 4 0 0 ps 24)
  clear hb HP C1 d0 d1 d2 d3
  have a0 := A2.out.c0; have a1 := A2.out.c1; have a2 := A2.out.c2; have a3 := A2.out.c3
  have f0 := C2.out.t.c0; have f1 := C2.out.t.c1
  have r0 := C2.out.r.bx.c0; have r1 := C2.out.r.bx.c1; have r2 := C2.out.r.bx.c2; have r3 := C2.out.r.bx.c3; have rf := C2.out.r.fz; have rl := C2.out.r.bx.lt
  go_wp2_with fail
  refine (HS.out _).mono ?_
  rintro e w3 ⟨rfl, hb⟩
  have C3 := Lib.hid (C2.out.keep hb); have A3 := Lib.hid (A2.out.keep hb)
  clear hb HS r0 r1 r2 r3 rf rl f0 f1 a0 a1 a2 a3
  have a0 := A3.out.c0; have a1 := A3.out.c1; have a2 := A3.out.c2; have a3 := A3.out.c3
  have f0 := C3.out.t.c0; have f1 := C3.out.t.c1
  have r0 := C3.out.r.bx.c0; have r1 := C3.out.r.bx.c1; have r2 := C3.out.r.bx.c2; have r3 := C3.out.r.bx.c3; have rf := C3.out.r.fz; have rl := C3.out.r.bx.lt
  dsimp only
  go_wp2_with fail
  refine (HQ.out _).mono ?_
  rintro e w4 ⟨rfl, hb⟩
  have C4 := Lib.hid (C3.out.keep hb)
  clear hb HQ r0 r1 r2 r3 rf rl f0 f1
  have f0 := C4.out.t.c0; have f1 := C4.out.t.c1
  have r0 := C4.out.r.bx.c0; have r1 := C4.out.r.bx.c1; have r2 := C4.out.r.bx.c2; have r3 := C4.out.r.bx.c3; have rf := C4.out.r.fz; have rl := C4.out.r.bx.lt
  dsimp only
  go_wp2
  refine bodyPost_ret (v := .tuple #[.agg #[.int .i64 x0, .int .i64 x1, .int .i64 x2, .string x3], .int .i64 x4]) (by simp [results, Tryz.results9, go_sem, r0, r1, r2, r3]) rfl (CastA.mk rfl ?_)
  exact C4.out.fin _ _ _ _

set_option maxRecDepth 100000 in
set_option maxHeartbeats 1000000 in
theorem r4_45 (ck cn cc : Int) (cs : ByteArray) (w : World) (ps : ByteArray) (m j : Int) (b : Bool) (HT : Hid (∀ W, Calls Tryz.prog 22 #[.agg #[.int .i64 5, .int .i64 0]] W (Says true W))) (HP : Hid (∀ W, Calls Tryz.prog 23 #[.agg #[.int .i64 ck, .int .i64 cn, .int .i64 cc, .string cs]] W (Val ⟨4, 0, 0, ps⟩ W))) (hl : ps.size ≤ 1000) (hp : Pm.parseM ps.data.toList = (m, j, b)) : Calls Tryz.prog 9 #[.agg #[.int .i64 ck, .int .i64 cn, .int .i64 cc, .string cs], .agg #[.int .i64 5, .int .i64 0]] w (CastA (⟨5, 0, 0, ps⟩, 0) w) := by
  have HS := Lib.hid (ref_parse ps · hl)
  rw [hp] at HS
  clear hp hl
  have C0 := Lib.hid (Cx.new w ck cn cc cs 5 0 24 26)
  go_enter Tryz.func9, Tryz.ntmps9
  go_wp2_with fail
  refine (HT.out _).mono ?_
  rintro e w1 ⟨rfl, hb⟩
  have C1 := Lib.hid (C0.out.keep hb)
  clear hb HT C0
  have d0 := C1.out.v.c0; have d1 := C1.out.v.c1; have d2 := C1.out.v.c2; have d3 := C1.out.v.c3
  go_wp2_with fail
  refine (HP.out _).mono ?_
  rintro e w2 ⟨rfl, hb⟩
  dsimp only
  have C2 := Lib.hid (C1.out.keep (hb.alloc hb.size (.cells #[.int .i64 4, .int .i64 0, .int .i64 0, .string ps] 24)))
  have A2 := Lib.hid (Bx.new w2 4 0 0 ps 24)
  clear hb HP C1 d0 d1 d2 d3
  have a0 := A2.out.c0; have a1 := A2.out.c1; have a2 := A2.out.c2; have a3 := A2.out.c3
  have f0 := C2.out.t.c0; have f1 := C2.out.t.c1
  have r0 := C2.out.r.bx.c0; have r1 := C2.out.r.bx.c1; have r2 := C2.out.r.bx.c2; have r3 := C2.out.r.bx.c3; have rf := C2.out.r.fz; have rl := C2.out.r.bx.lt
  go_wp2_with fail
  refine (HS.out _).mono ?_
  rintro e w3 ⟨rfl, hb⟩
  have C3 := Lib.hid (C2.out.keep hb); have A3 := Lib.hid (A2.out.keep hb)
  clear hb HS r0 r1 r2 r3 rf rl f0 f1 a0 a1 a2 a3
  have a0 := A3.out.c0; have a1 := A3.out.c1; have a2 := A3.out.c2; have a3 := A3.out.c3
  have f0 := C3.out.t.c0; have f1 := C3.out.t.c1
  have r0 := C3.out.r.bx.c0; have r1 := C3.out.r.bx.c1; have r2 := C3.out.r.bx.c2; have r3 := C3.out.r.bx.c3; have rf := C3.out.r.fz; have rl := C3.out.r.bx.lt
  dsimp only
  go_wp2
  refine bodyPost_ret (v := .tuple #[.agg #[.int .i64 5, .int .i64 0, .int .i64 0, .string ps], .int .i64 0]) (by simp [results, Tryz.results9, go_sem, r0, r1, r2, r3]) rfl (CastA.mk rfl ?_)
  exact C3.out.fin _ _ _ _

set_option maxRecDepth 100000 in
set_option maxHeartbeats 1000000 in
theorem r4_54_true (ck cn cc : Int) (cs : ByteArray) (w : World) (ps : ByteArray) (HT : Hid (∀ W, Calls Tryz.prog 22 #[.agg #[.int .i64 4, .int .i64 0]] W (Says true W))) (HP : Hid (∀ W, Calls Tryz.prog 23 #[.agg #[.int .i64 ck, .int .i64 cn, .int .i64 cc, .string cs]] W (Val ⟨5, 0, 0, ps⟩ W))) (hz : ps.size ≤ maxLen) (hr : Vm.rightB ⟨4, 0, 0, ps⟩ = true) : Calls Tryz.prog 9 #[.agg #[.int .i64 ck, .int .i64 cn, .int .i64 cc, .string cs], .agg #[.int .i64 4, .int .i64 0]] w (CastA (⟨4, 0, 0, ps⟩, 0) w) := by
  have HS := Lib.hid (ref3_right 4 0 0 ps · hz)
  rw [hr] at HS
  clear hr hz
  have C0 := Lib.hid (Cx.new w ck cn cc cs 4 0 24 26)
  go_enter Tryz.func9, Tryz.ntmps9
  go_wp2_with fail
  refine (HT.out _).mono ?_
  rintro e w1 ⟨rfl, hb⟩
  have C1 := Lib.hid (C0.out.keep hb)
  clear hb HT C0
  have d0 := C1.out.v.c0; have d1 := C1.out.v.c1; have d2 := C1.out.v.c2; have d3 := C1.out.v.c3
  go_wp2_with fail
  refine (HP.out _).mono ?_
  rintro e w2 ⟨rfl, hb⟩
  dsimp only
  have C2 := Lib.hid (C1.out.keep (hb.alloc hb.size (.cells #[.int .i64 5, .int .i64 0, .int .i64 0, .string ps] 24)))
  have A2 := Lib.hid (Bx.new w2 5 0 0 ps 24)
  clear hb HP C1 d0 d1 d2 d3
  have a0 := A2.out.c0; have a1 := A2.out.c1; have a2 := A2.out.c2; have a3 := A2.out.c3
  have f0 := C2.out.t.c0; have f1 := C2.out.t.c1
  have r0 := C2.out.r.bx.c0; have r1 := C2.out.r.bx.c1; have r2 := C2.out.r.bx.c2; have r3 := C2.out.r.bx.c3; have rf := C2.out.r.fz; have rl := C2.out.r.bx.lt
  have D2 := Lib.hid ((Fx.next w2 (.cells #[.int .i64 5, .int .i64 0, .int .i64 0, .string ps] 24) 4 0 0 ps 24).bx)
  have C2b := Lib.hid (C2.out.keep (one _ (.cells #[.int .i64 4, .int .i64 0, .int .i64 0, .string ps] 24)))
  go_wp2_with fail
  refine (HS.out _).mono ?_
  rintro e w3 ⟨rfl, hb⟩
  have C3 := Lib.hid (C2b.out.keep hb); have D3 := Lib.hid (D2.out.keep hb)
  clear hb HS r0 r1 r2 r3 rf rl f0 f1 a0 a1 a2 a3
  have a0 := D3.out.c0; have a1 := D3.out.c1; have a2 := D3.out.c2; have a3 := D3.out.c3
  have f0 := C3.out.t.c0; have f1 := C3.out.t.c1
  have r0 := C3.out.r.bx.c0; have r1 := C3.out.r.bx.c1; have r2 := C3.out.r.bx.c2; have r3 := C3.out.r.bx.c3; have rf := C3.out.r.fz; have rl := C3.out.r.bx.lt
  go_wp2
  refine bodyPost_ret (v := .tuple #[.agg #[.int .i64 4, .int .i64 0, .int .i64 0, .string ps], .int .i64 0]) (by simp [results, Tryz.results9, go_sem, r0, r1, r2, r3]) rfl (CastA.mk rfl ?_)
  exact C3.out.fin _ _ _ _

set_option maxRecDepth 100000 in
set_option maxHeartbeats 1000000 in
theorem r4_54_false (ck cn cc : Int) (cs : ByteArray) (w : World) (ps : ByteArray) (HT : Hid (∀ W, Calls Tryz.prog 22 #[.agg #[.int .i64 4, .int .i64 0]] W (Says true W))) (HP : Hid (∀ W, Calls Tryz.prog 23 #[.agg #[.int .i64 ck, .int .i64 cn, .int .i64 cc, .string cs]] W (Val ⟨5, 0, 0, ps⟩ W))) (hz : ps.size ≤ maxLen) (hr : Vm.rightB ⟨4, 0, 0, ps⟩ = false) : Calls Tryz.prog 9 #[.agg #[.int .i64 ck, .int .i64 cn, .int .i64 cc, .string cs], .agg #[.int .i64 4, .int .i64 0]] w (CastA (⟨0, 0, 0, ⟨#[]⟩⟩, 40) w) := by
  have HS := Lib.hid (ref3_right 4 0 0 ps · hz)
  rw [hr] at HS
  clear hr hz
  have C0 := Lib.hid (Cx.new w ck cn cc cs 4 0 24 26)
  go_enter Tryz.func9, Tryz.ntmps9
  go_wp2_with fail
  refine (HT.out _).mono ?_
  rintro e w1 ⟨rfl, hb⟩
  have C1 := Lib.hid (C0.out.keep hb)
  clear hb HT C0
  have d0 := C1.out.v.c0; have d1 := C1.out.v.c1; have d2 := C1.out.v.c2; have d3 := C1.out.v.c3
  go_wp2_with fail
  refine (HP.out _).mono ?_
  rintro e w2 ⟨rfl, hb⟩
  dsimp only
  have C2 := Lib.hid (C1.out.keep (hb.alloc hb.size (.cells #[.int .i64 5, .int .i64 0, .int .i64 0, .string ps] 24)))
  have A2 := Lib.hid (Bx.new w2 5 0 0 ps 24)
  clear hb HP C1 d0 d1 d2 d3
  have a0 := A2.out.c0; have a1 := A2.out.c1; have a2 := A2.out.c2; have a3 := A2.out.c3
  have f0 := C2.out.t.c0; have f1 := C2.out.t.c1
  have r0 := C2.out.r.bx.c0; have r1 := C2.out.r.bx.c1; have r2 := C2.out.r.bx.c2; have r3 := C2.out.r.bx.c3; have rf := C2.out.r.fz; have rl := C2.out.r.bx.lt
  have D2 := Lib.hid ((Fx.next w2 (.cells #[.int .i64 5, .int .i64 0, .int .i64 0, .string ps] 24) 4 0 0 ps 24).bx)
  have C2b := Lib.hid (C2.out.keep (one _ (.cells #[.int .i64 4, .int .i64 0, .int .i64 0, .string ps] 24)))
  go_wp2_with fail
  refine (HS.out _).mono ?_
  rintro e w3 ⟨rfl, hb⟩
  have C3 := Lib.hid (C2b.out.keep hb); have D3 := Lib.hid (D2.out.keep hb)
  clear hb HS r0 r1 r2 r3 rf rl f0 f1 a0 a1 a2 a3
  have a0 := D3.out.c0; have a1 := D3.out.c1; have a2 := D3.out.c2; have a3 := D3.out.c3
  have f0 := C3.out.t.c0; have f1 := C3.out.t.c1
  have r0 := C3.out.r.bx.c0; have r1 := C3.out.r.bx.c1; have r2 := C3.out.r.bx.c2; have r3 := C3.out.r.bx.c3; have rf := C3.out.r.fz; have rl := C3.out.r.bx.lt
  go_wp2
  refine bodyPost_ret (v := .tuple #[.agg #[.int .i64 0, .int .i64 0, .int .i64 0, .string ⟨#[]⟩], .int .i64 40]) (by simp [results, Tryz.results9, go_sem, r0, r1, r2, r3]) rfl (CastA.mk rfl ?_)
  exact C3.out.fin _ _ _ _

set_option maxRecDepth 100000 in
set_option maxHeartbeats 1000000 in
theorem r4_51 (ck cn cc : Int) (cs : ByteArray) (w : World) (ps : ByteArray) (HT : Hid (∀ W, Calls Tryz.prog 22 #[.agg #[.int .i64 1, .int .i64 0]] W (Says true W))) (HP : Hid (∀ W, Calls Tryz.prog 23 #[.agg #[.int .i64 ck, .int .i64 cn, .int .i64 cc, .string cs]] W (Val ⟨5, 0, 0, ps⟩ W)))  : Calls Tryz.prog 9 #[.agg #[.int .i64 ck, .int .i64 cn, .int .i64 cc, .string cs], .agg #[.int .i64 1, .int .i64 0]] w (CastA (⟨0, 0, 0, ⟨#[]⟩⟩, 40) w) := by
  have C0 := Lib.hid (Cx.new w ck cn cc cs 1 0 24 26)
  go_enter Tryz.func9, Tryz.ntmps9
  go_wp2_with fail
  refine (HT.out _).mono ?_
  rintro e w1 ⟨rfl, hb⟩
  have C1 := Lib.hid (C0.out.keep hb)
  clear hb HT C0
  have d0 := C1.out.v.c0; have d1 := C1.out.v.c1; have d2 := C1.out.v.c2; have d3 := C1.out.v.c3
  go_wp2_with fail
  refine (HP.out _).mono ?_
  rintro e w2 ⟨rfl, hb⟩
  dsimp only
  have C2 := Lib.hid (C1.out.keep (hb.alloc hb.size (.cells #[.int .i64 5, .int .i64 0, .int .i64 0, .string ps] 24)))
  have A2 := Lib.hid (Bx.new w2 5 0 0 ps 24)
  clear hb HP C1 d0 d1 d2 d3
  have a0 := A2.out.c0; have a1 := A2.out.c1; have a2 := A2.out.c2; have a3 := A2.out.c3
  have f0 := C2.out.t.c0; have f1 := C2.out.t.c1
  have r0 := C2.out.r.bx.c0; have r1 := C2.out.r.bx.c1; have r2 := C2.out.r.bx.c2; have r3 := C2.out.r.bx.c3; have rf := C2.out.r.fz; have rl := C2.out.r.bx.lt
  have C2b := Lib.hid (C2.out.keep (one _ (.cells #[.int .i64 4, .int .i64 0, .int .i64 0, .string ps] 24)))
  clear r0 r1 r2 r3 rf rl
  have r0 := C2b.out.r.bx.c0; have r1 := C2b.out.r.bx.c1; have r2 := C2b.out.r.bx.c2; have r3 := C2b.out.r.bx.c3; have rf := C2b.out.r.fz; have rl := C2b.out.r.bx.lt
  go_wp2
  refine bodyPost_ret (v := .tuple #[.agg #[.int .i64 0, .int .i64 0, .int .i64 0, .string ⟨#[]⟩], .int .i64 40]) (by simp [results, Tryz.results9, go_sem, r0, r1, r2, r3]) rfl (CastA.mk rfl ?_)
  exact C2b.out.fin _ _ _ _

set_option maxRecDepth 100000 in
set_option maxHeartbeats 1000000 in
theorem r4_52 (ck cn cc : Int) (cs : ByteArray) (w : World) (ps : ByteArray) (HT : Hid (∀ W, Calls Tryz.prog 22 #[.agg #[.int .i64 2, .int .i64 0]] W (Says true W))) (HP : Hid (∀ W, Calls Tryz.prog 23 #[.agg #[.int .i64 ck, .int .i64 cn, .int .i64 cc, .string cs]] W (Val ⟨5, 0, 0, ps⟩ W)))  : Calls Tryz.prog 9 #[.agg #[.int .i64 ck, .int .i64 cn, .int .i64 cc, .string cs], .agg #[.int .i64 2, .int .i64 0]] w (CastA (⟨0, 0, 0, ⟨#[]⟩⟩, 40) w) := by
  have C0 := Lib.hid (Cx.new w ck cn cc cs 2 0 24 26)
  go_enter Tryz.func9, Tryz.ntmps9
  go_wp2_with fail
  refine (HT.out _).mono ?_
  rintro e w1 ⟨rfl, hb⟩
  have C1 := Lib.hid (C0.out.keep hb)
  clear hb HT C0
  have d0 := C1.out.v.c0; have d1 := C1.out.v.c1; have d2 := C1.out.v.c2; have d3 := C1.out.v.c3
  go_wp2_with fail
  refine (HP.out _).mono ?_
  rintro e w2 ⟨rfl, hb⟩
  dsimp only
  have C2 := Lib.hid (C1.out.keep (hb.alloc hb.size (.cells #[.int .i64 5, .int .i64 0, .int .i64 0, .string ps] 24)))
  have A2 := Lib.hid (Bx.new w2 5 0 0 ps 24)
  clear hb HP C1 d0 d1 d2 d3
  have a0 := A2.out.c0; have a1 := A2.out.c1; have a2 := A2.out.c2; have a3 := A2.out.c3
  have f0 := C2.out.t.c0; have f1 := C2.out.t.c1
  have r0 := C2.out.r.bx.c0; have r1 := C2.out.r.bx.c1; have r2 := C2.out.r.bx.c2; have r3 := C2.out.r.bx.c3; have rf := C2.out.r.fz; have rl := C2.out.r.bx.lt
  have C2b := Lib.hid (C2.out.keep (one _ (.cells #[.int .i64 4, .int .i64 0, .int .i64 0, .string ps] 24)))
  clear r0 r1 r2 r3 rf rl
  have r0 := C2b.out.r.bx.c0; have r1 := C2b.out.r.bx.c1; have r2 := C2b.out.r.bx.c2; have r3 := C2b.out.r.bx.c3; have rf := C2b.out.r.fz; have rl := C2b.out.r.bx.lt
  go_wp2
  refine bodyPost_ret (v := .tuple #[.agg #[.int .i64 0, .int .i64 0, .int .i64 0, .string ⟨#[]⟩], .int .i64 40]) (by simp [results, Tryz.results9, go_sem, r0, r1, r2, r3]) rfl (CastA.mk rfl ?_)
  exact C2b.out.fin _ _ _ _

set_option maxRecDepth 100000 in
set_option maxHeartbeats 1000000 in
theorem r4_53 (ck cn cc : Int) (cs : ByteArray) (s : Int) (w : World) (ps : ByteArray) (HT : Hid (∀ W, Calls Tryz.prog 22 #[.agg #[.int .i64 3, .int .i64 s]] W (Says true W))) (HP : Hid (∀ W, Calls Tryz.prog 23 #[.agg #[.int .i64 ck, .int .i64 cn, .int .i64 cc, .string cs]] W (Val ⟨5, 0, 0, ps⟩ W)))  : Calls Tryz.prog 9 #[.agg #[.int .i64 ck, .int .i64 cn, .int .i64 cc, .string cs], .agg #[.int .i64 3, .int .i64 s]] w (CastA (⟨0, 0, 0, ⟨#[]⟩⟩, 40) w) := by
  have C0 := Lib.hid (Cx.new w ck cn cc cs 3 s 24 26)
  go_enter Tryz.func9, Tryz.ntmps9
  go_wp2_with fail
  refine (HT.out _).mono ?_
  rintro e w1 ⟨rfl, hb⟩
  have C1 := Lib.hid (C0.out.keep hb)
  clear hb HT C0
  have d0 := C1.out.v.c0; have d1 := C1.out.v.c1; have d2 := C1.out.v.c2; have d3 := C1.out.v.c3
  go_wp2_with fail
  refine (HP.out _).mono ?_
  rintro e w2 ⟨rfl, hb⟩
  dsimp only
  have C2 := Lib.hid (C1.out.keep (hb.alloc hb.size (.cells #[.int .i64 5, .int .i64 0, .int .i64 0, .string ps] 24)))
  have A2 := Lib.hid (Bx.new w2 5 0 0 ps 24)
  clear hb HP C1 d0 d1 d2 d3
  have a0 := A2.out.c0; have a1 := A2.out.c1; have a2 := A2.out.c2; have a3 := A2.out.c3
  have f0 := C2.out.t.c0; have f1 := C2.out.t.c1
  have r0 := C2.out.r.bx.c0; have r1 := C2.out.r.bx.c1; have r2 := C2.out.r.bx.c2; have r3 := C2.out.r.bx.c3; have rf := C2.out.r.fz; have rl := C2.out.r.bx.lt
  have C2b := Lib.hid (C2.out.keep (one _ (.cells #[.int .i64 4, .int .i64 0, .int .i64 0, .string ps] 24)))
  clear r0 r1 r2 r3 rf rl
  have r0 := C2b.out.r.bx.c0; have r1 := C2b.out.r.bx.c1; have r2 := C2b.out.r.bx.c2; have r3 := C2b.out.r.bx.c3; have rf := C2b.out.r.fz; have rl := C2b.out.r.bx.lt
  go_wp2
  refine bodyPost_ret (v := .tuple #[.agg #[.int .i64 0, .int .i64 0, .int .i64 0, .string ⟨#[]⟩], .int .i64 40]) (by simp [results, Tryz.results9, go_sem, r0, r1, r2, r3]) rfl (CastA.mk rfl ?_)
  exact C2b.out.fin _ _ _ _
end Go.Proofs.YtfnnhhhkdfgefaaGreatDoor
