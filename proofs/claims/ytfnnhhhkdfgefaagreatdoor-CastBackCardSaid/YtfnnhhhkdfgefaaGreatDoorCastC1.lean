/- Package cast: toBool, characters. -/
import Derived.Test.YtfnnhhhkdfgefaaGreatDoorCastRef1
import Derived.Test.YtfnnhhhkdfgefaaGreatDoorValFrame
import Derived.Test.YtfnnhhhkdfgefaaGreatDoorValCa
import Derived.Test.YtfnnhhhkdfgefaaGreatDoorDecP4
import Derived.Test.YtfnnhhhkdfgefaaGreatDoorDecSm
import Derived.Test.YtfnnhhhkdfgefaaGreatDoorDecAm
namespace Go.Proofs.YtfnnhhhkdfgefaaGreatDoor
open Go.RowKit
/-- a value and the answer in blocks of their own -/
structure Dx (w : World) (ck cn cc : Int) (cs : ByteArray) (w' : World) : Prop where
  v : Bx w.heap.size ck cn cc cs w'
  r : Fx (w.heap.size + 1) 0 0 0 ⟨#[]⟩ w'
  bel : Below w.heap.size w w'
theorem Dx.new (w : World) (ck cn cc : Int) (cs : ByteArray) (u : TypeId) : Dx w ck cn cc cs ((w.alloc (.cells #[.int .i64 ck, .int .i64 cn, .int .i64 cc, .string cs] u)).alloc (.cells #[.int .i64 0, .int .i64 0, .int .i64 0, .string ⟨#[]⟩] u)) :=
  ⟨(Bx.new w ck cn cc cs u).keep (one _ _), Fx.next w _ 0 0 0 _ u, two w _ _⟩
theorem Dx.keep {w w1 w2 : World} {ck cn cc : Int} {cs : ByteArray} (h : Dx w ck cn cc cs w1) (hb : Below w1.heap.size w1 w2) : Dx w ck cn cc cs w2 :=
  ⟨h.v.keep hb, h.r.keep hb, h.bel.trans (hb.mono h.bel.size)⟩
theorem Dx.fin {w w1 : World} {ck cn cc : Int} {cs : ByteArray} (h : Dx w ck cn cc cs w1) (x y z u : Value) :
    Below w.heap.size w ((((w1.setCell ⟨w.heap.size + 1, 0, none⟩ x).setCell ⟨w.heap.size + 1, 1, none⟩ y).setCell ⟨w.heap.size + 1, 2, none⟩ z).setCell ⟨w.heap.size + 1, 3, none⟩ u) := set4 h.bel (by omega) _ _ _ _

set_option maxRecDepth 100000 in
set_option maxHeartbeats 4000000 in
theorem tb_f (k n sc : Int) (s : ByteArray) (w : World) (h_f : eqB k n sc s 1 0 0 ⟨#[]⟩ = true) : Calls Tryz.prog 18 #[.agg #[.int .i64 k, .int .i64 n, .int .i64 sc, .string s]] w (CastA (⟨1, 0, 0, ⟨#[]⟩⟩, 0) w) := by
  have e_f := val_eql k n sc s 1 0 0 ⟨#[]⟩
  simp only [h_f] at e_f
  clear h_f
  have D0 := Lib.hid (Dx.new w k n sc s 24)
  go_enter Tryz.func18, Tryz.ntmps18
  go_wp2_with fail
  refine (val_false _).mono ?_
  rintro e w1 ⟨rfl, hb⟩
  have D1 := Lib.hid (D0.out.keep hb)
  clear hb D0
  go_wp2_with fail
  refine (val_false _).mono ?_
  rintro e w2 ⟨rfl, hb⟩
  have D2 := Lib.hid (D1.out.keep hb)
  clear hb D1
  have r0 := D2.out.r.bx.c0; have r1 := D2.out.r.bx.c1; have r2 := D2.out.r.bx.c2; have r3 := D2.out.r.bx.c3; have rf := D2.out.r.fz; have rl := D2.out.r.bx.lt
  go_wp2
  refine bodyPost_ret (v := .tuple #[.agg #[.int .i64 1, .int .i64 0, .int .i64 0, .string ⟨#[]⟩], .int .i64 0]) (by simp [results, Tryz.results18, go_sem, r0, r1, r2, r3]) rfl (CastA.mk rfl ?_)
  exact D2.out.fin _ _ _ _

set_option maxRecDepth 100000 in
set_option maxHeartbeats 4000000 in
theorem tb_i0 (k n sc : Int) (s : ByteArray) (w : World) (h_f : eqB k n sc s 1 0 0 ⟨#[]⟩ = false) (h_i0 : eqB k n sc s 2 0 0 ⟨#[]⟩ = true) : Calls Tryz.prog 18 #[.agg #[.int .i64 k, .int .i64 n, .int .i64 sc, .string s]] w (CastA (⟨1, 0, 0, ⟨#[]⟩⟩, 0) w) := by
  have e_f := val_eql k n sc s 1 0 0 ⟨#[]⟩
  simp only [h_f] at e_f
  have e_i0 := val_eql k n sc s 2 0 0 ⟨#[]⟩
  simp only [h_i0] at e_i0
  clear h_f h_i0
  have D0 := Lib.hid (Dx.new w k n sc s 24)
  go_enter Tryz.func18, Tryz.ntmps18
  go_wp2_with fail
  refine (val_false _).mono ?_
  rintro e w1 ⟨rfl, hb⟩
  have D1 := Lib.hid (D0.out.keep hb)
  clear hb D0
  go_wp2_with fail
  refine (val_false _).mono ?_
  rintro e w2 ⟨rfl, hb⟩
  have D2 := Lib.hid (D1.out.keep hb)
  clear hb D1
  have r0 := D2.out.r.bx.c0; have r1 := D2.out.r.bx.c1; have r2 := D2.out.r.bx.c2; have r3 := D2.out.r.bx.c3; have rf := D2.out.r.fz; have rl := D2.out.r.bx.lt
  go_wp2
  refine bodyPost_ret (v := .tuple #[.agg #[.int .i64 1, .int .i64 0, .int .i64 0, .string ⟨#[]⟩], .int .i64 0]) (by simp [results, Tryz.results18, go_sem, r0, r1, r2, r3]) rfl (CastA.mk rfl ?_)
  exact D2.out.fin _ _ _ _

set_option maxRecDepth 100000 in
set_option maxHeartbeats 4000000 in
theorem tb_tf (k n sc : Int) (s : ByteArray) (w : World) (h_f : eqB k n sc s 1 0 0 ⟨#[]⟩ = false) (h_i0 : eqB k n sc s 2 0 0 ⟨#[]⟩ = false) (h_tf : eqB k n sc s 4 0 0 ⟨#[102, 97, 108, 115, 101]⟩ = true) : Calls Tryz.prog 18 #[.agg #[.int .i64 k, .int .i64 n, .int .i64 sc, .string s]] w (CastA (⟨1, 0, 0, ⟨#[]⟩⟩, 0) w) := by
  have e_f := val_eql k n sc s 1 0 0 ⟨#[]⟩
  simp only [h_f] at e_f
  have e_i0 := val_eql k n sc s 2 0 0 ⟨#[]⟩
  simp only [h_i0] at e_i0
  have e_tf := val_eql k n sc s 4 0 0 ⟨#[102, 97, 108, 115, 101]⟩
  simp only [h_tf] at e_tf
  clear h_f h_i0 h_tf
  have D0 := Lib.hid (Dx.new w k n sc s 24)
  go_enter Tryz.func18, Tryz.ntmps18
  go_wp2_with fail
  refine (val_false _).mono ?_
  rintro e w1 ⟨rfl, hb⟩
  have D1 := Lib.hid (D0.out.keep hb)
  clear hb D0
  go_wp2_with fail
  refine (val_false _).mono ?_
  rintro e w2 ⟨rfl, hb⟩
  have D2 := Lib.hid (D1.out.keep hb)
  clear hb D1
  have r0 := D2.out.r.bx.c0; have r1 := D2.out.r.bx.c1; have r2 := D2.out.r.bx.c2; have r3 := D2.out.r.bx.c3; have rf := D2.out.r.fz; have rl := D2.out.r.bx.lt
  go_wp2
  refine bodyPost_ret (v := .tuple #[.agg #[.int .i64 1, .int .i64 0, .int .i64 0, .string ⟨#[]⟩], .int .i64 0]) (by simp [results, Tryz.results18, go_sem, r0, r1, r2, r3]) rfl (CastA.mk rfl ?_)
  exact D2.out.fin _ _ _ _

set_option maxRecDepth 100000 in
set_option maxHeartbeats 4000000 in
theorem tb_t (k n sc : Int) (s : ByteArray) (w : World) (h_f : eqB k n sc s 1 0 0 ⟨#[]⟩ = false) (h_i0 : eqB k n sc s 2 0 0 ⟨#[]⟩ = false) (h_tf : eqB k n sc s 4 0 0 ⟨#[102, 97, 108, 115, 101]⟩ = false) (h_t : eqB k n sc s 1 1 0 ⟨#[]⟩ = true) : Calls Tryz.prog 18 #[.agg #[.int .i64 k, .int .i64 n, .int .i64 sc, .string s]] w (CastA (⟨1, 1, 0, ⟨#[]⟩⟩, 0) w) := by
  have e_f := val_eql k n sc s 1 0 0 ⟨#[]⟩
  simp only [h_f] at e_f
  have e_i0 := val_eql k n sc s 2 0 0 ⟨#[]⟩
  simp only [h_i0] at e_i0
  have e_tf := val_eql k n sc s 4 0 0 ⟨#[102, 97, 108, 115, 101]⟩
  simp only [h_tf] at e_tf
  have e_t := val_eql k n sc s 1 1 0 ⟨#[]⟩
  simp only [h_t] at e_t
  clear h_f h_i0 h_tf h_t
  have D0 := Lib.hid (Dx.new w k n sc s 24)
  go_enter Tryz.func18, Tryz.ntmps18
  go_wp2_with fail
  refine (val_false _).mono ?_
  rintro e w1 ⟨rfl, hb⟩
  have D1 := Lib.hid (D0.out.keep hb)
  clear hb D0
  go_wp2_with fail
  refine (val_true _).mono ?_
  rintro e w2 ⟨rfl, hb⟩
  have D2 := Lib.hid (D1.out.keep hb)
  clear hb D1
  go_wp2_with fail
  refine (val_true _).mono ?_
  rintro e w3 ⟨rfl, hb⟩
  have D3 := Lib.hid (D2.out.keep hb)
  clear hb D2
  have r0 := D3.out.r.bx.c0; have r1 := D3.out.r.bx.c1; have r2 := D3.out.r.bx.c2; have r3 := D3.out.r.bx.c3; have rf := D3.out.r.fz; have rl := D3.out.r.bx.lt
  go_wp2
  refine bodyPost_ret (v := .tuple #[.agg #[.int .i64 1, .int .i64 1, .int .i64 0, .string ⟨#[]⟩], .int .i64 0]) (by simp [results, Tryz.results18, go_sem, r0, r1, r2, r3]) rfl (CastA.mk rfl ?_)
  exact D3.out.fin _ _ _ _

set_option maxRecDepth 100000 in
set_option maxHeartbeats 4000000 in
theorem tb_i1 (k n sc : Int) (s : ByteArray) (w : World) (h_f : eqB k n sc s 1 0 0 ⟨#[]⟩ = false) (h_i0 : eqB k n sc s 2 0 0 ⟨#[]⟩ = false) (h_tf : eqB k n sc s 4 0 0 ⟨#[102, 97, 108, 115, 101]⟩ = false) (h_t : eqB k n sc s 1 1 0 ⟨#[]⟩ = false) (h_i1 : eqB k n sc s 2 1 0 ⟨#[]⟩ = true) : Calls Tryz.prog 18 #[.agg #[.int .i64 k, .int .i64 n, .int .i64 sc, .string s]] w (CastA (⟨1, 1, 0, ⟨#[]⟩⟩, 0) w) := by
  have e_f := val_eql k n sc s 1 0 0 ⟨#[]⟩
  simp only [h_f] at e_f
  have e_i0 := val_eql k n sc s 2 0 0 ⟨#[]⟩
  simp only [h_i0] at e_i0
  have e_tf := val_eql k n sc s 4 0 0 ⟨#[102, 97, 108, 115, 101]⟩
  simp only [h_tf] at e_tf
  have e_t := val_eql k n sc s 1 1 0 ⟨#[]⟩
  simp only [h_t] at e_t
  have e_i1 := val_eql k n sc s 2 1 0 ⟨#[]⟩
  simp only [h_i1] at e_i1
  clear h_f h_i0 h_tf h_t h_i1
  have D0 := Lib.hid (Dx.new w k n sc s 24)
  go_enter Tryz.func18, Tryz.ntmps18
  go_wp2_with fail
  refine (val_false _).mono ?_
  rintro e w1 ⟨rfl, hb⟩
  have D1 := Lib.hid (D0.out.keep hb)
  clear hb D0
  go_wp2_with fail
  refine (val_true _).mono ?_
  rintro e w2 ⟨rfl, hb⟩
  have D2 := Lib.hid (D1.out.keep hb)
  clear hb D1
  go_wp2_with fail
  refine (val_true _).mono ?_
  rintro e w3 ⟨rfl, hb⟩
  have D3 := Lib.hid (D2.out.keep hb)
  clear hb D2
  have r0 := D3.out.r.bx.c0; have r1 := D3.out.r.bx.c1; have r2 := D3.out.r.bx.c2; have r3 := D3.out.r.bx.c3; have rf := D3.out.r.fz; have rl := D3.out.r.bx.lt
  go_wp2
  refine bodyPost_ret (v := .tuple #[.agg #[.int .i64 1, .int .i64 1, .int .i64 0, .string ⟨#[]⟩], .int .i64 0]) (by simp [results, Tryz.results18, go_sem, r0, r1, r2, r3]) rfl (CastA.mk rfl ?_)
  exact D3.out.fin _ _ _ _

set_option maxRecDepth 100000 in
set_option maxHeartbeats 4000000 in
theorem tb_tt (k n sc : Int) (s : ByteArray) (w : World) (h_f : eqB k n sc s 1 0 0 ⟨#[]⟩ = false) (h_i0 : eqB k n sc s 2 0 0 ⟨#[]⟩ = false) (h_tf : eqB k n sc s 4 0 0 ⟨#[102, 97, 108, 115, 101]⟩ = false) (h_t : eqB k n sc s 1 1 0 ⟨#[]⟩ = false) (h_i1 : eqB k n sc s 2 1 0 ⟨#[]⟩ = false) (h_tt : eqB k n sc s 4 0 0 ⟨#[116, 114, 117, 101]⟩ = true) : Calls Tryz.prog 18 #[.agg #[.int .i64 k, .int .i64 n, .int .i64 sc, .string s]] w (CastA (⟨1, 1, 0, ⟨#[]⟩⟩, 0) w) := by
  have e_f := val_eql k n sc s 1 0 0 ⟨#[]⟩
  simp only [h_f] at e_f
  have e_i0 := val_eql k n sc s 2 0 0 ⟨#[]⟩
  simp only [h_i0] at e_i0
  have e_tf := val_eql k n sc s 4 0 0 ⟨#[102, 97, 108, 115, 101]⟩
  simp only [h_tf] at e_tf
  have e_t := val_eql k n sc s 1 1 0 ⟨#[]⟩
  simp only [h_t] at e_t
  have e_i1 := val_eql k n sc s 2 1 0 ⟨#[]⟩
  simp only [h_i1] at e_i1
  have e_tt := val_eql k n sc s 4 0 0 ⟨#[116, 114, 117, 101]⟩
  simp only [h_tt] at e_tt
  clear h_f h_i0 h_tf h_t h_i1 h_tt
  have D0 := Lib.hid (Dx.new w k n sc s 24)
  go_enter Tryz.func18, Tryz.ntmps18
  go_wp2_with fail
  refine (val_false _).mono ?_
  rintro e w1 ⟨rfl, hb⟩
  have D1 := Lib.hid (D0.out.keep hb)
  clear hb D0
  go_wp2_with fail
  refine (val_true _).mono ?_
  rintro e w2 ⟨rfl, hb⟩
  have D2 := Lib.hid (D1.out.keep hb)
  clear hb D1
  go_wp2_with fail
  refine (val_true _).mono ?_
  rintro e w3 ⟨rfl, hb⟩
  have D3 := Lib.hid (D2.out.keep hb)
  clear hb D2
  have r0 := D3.out.r.bx.c0; have r1 := D3.out.r.bx.c1; have r2 := D3.out.r.bx.c2; have r3 := D3.out.r.bx.c3; have rf := D3.out.r.fz; have rl := D3.out.r.bx.lt
  go_wp2
  refine bodyPost_ret (v := .tuple #[.agg #[.int .i64 1, .int .i64 1, .int .i64 0, .string ⟨#[]⟩], .int .i64 0]) (by simp [results, Tryz.results18, go_sem, r0, r1, r2, r3]) rfl (CastA.mk rfl ?_)
  exact D3.out.fin _ _ _ _

set_option maxRecDepth 100000 in
set_option maxHeartbeats 4000000 in
theorem tb_no (k n sc : Int) (s : ByteArray) (w : World) (h_f : eqB k n sc s 1 0 0 ⟨#[]⟩ = false) (h_i0 : eqB k n sc s 2 0 0 ⟨#[]⟩ = false) (h_tf : eqB k n sc s 4 0 0 ⟨#[102, 97, 108, 115, 101]⟩ = false) (h_t : eqB k n sc s 1 1 0 ⟨#[]⟩ = false) (h_i1 : eqB k n sc s 2 1 0 ⟨#[]⟩ = false) (h_tt : eqB k n sc s 4 0 0 ⟨#[116, 114, 117, 101]⟩ = false) : Calls Tryz.prog 18 #[.agg #[.int .i64 k, .int .i64 n, .int .i64 sc, .string s]] w (CastA (Vm.nil, 40) w) := by
  have e_f := val_eql k n sc s 1 0 0 ⟨#[]⟩
  simp only [h_f] at e_f
  have e_i0 := val_eql k n sc s 2 0 0 ⟨#[]⟩
  simp only [h_i0] at e_i0
  have e_tf := val_eql k n sc s 4 0 0 ⟨#[102, 97, 108, 115, 101]⟩
  simp only [h_tf] at e_tf
  have e_t := val_eql k n sc s 1 1 0 ⟨#[]⟩
  simp only [h_t] at e_t
  have e_i1 := val_eql k n sc s 2 1 0 ⟨#[]⟩
  simp only [h_i1] at e_i1
  have e_tt := val_eql k n sc s 4 0 0 ⟨#[116, 114, 117, 101]⟩
  simp only [h_tt] at e_tt
  clear h_f h_i0 h_tf h_t h_i1 h_tt
  have D0 := Lib.hid (Dx.new w k n sc s 24)
  go_enter Tryz.func18, Tryz.ntmps18
  go_wp2_with fail
  refine (val_false _).mono ?_
  rintro e w1 ⟨rfl, hb⟩
  have D1 := Lib.hid (D0.out.keep hb)
  clear hb D0
  go_wp2_with fail
  refine (val_true _).mono ?_
  rintro e w2 ⟨rfl, hb⟩
  have D2 := Lib.hid (D1.out.keep hb)
  clear hb D1
  have r0 := D2.out.r.bx.c0; have r1 := D2.out.r.bx.c1; have r2 := D2.out.r.bx.c2; have r3 := D2.out.r.bx.c3; have rf := D2.out.r.fz; have rl := D2.out.r.bx.lt
  go_wp2
  refine bodyPost_ret (v := .tuple #[.agg #[.int .i64 0, .int .i64 0, .int .i64 0, .string ⟨#[]⟩], .int .i64 40]) (by simp [results, Tryz.results18, go_sem, r0, r1, r2, r3]) rfl (CastA.mk rfl ?_)
  exact D2.out.fin _ _ _ _

theorem eq_no {k n sc : Int} {s : ByteArray} {k' n' sc' : Int} {s' : ByteArray} (h : ¬ (k = k' ∧ n = n' ∧ sc = sc' ∧ s = s')) : eqB k n sc s k' n' sc' s' = false := by
  have := eqB_val ⟨k, n, sc, s⟩ ⟨k', n', sc', s'⟩
  dsimp only at this
  rw [this, decide_eq_false_iff_not]
  intro e
  injection e with e0 e1 e2 e3
  exact h ⟨e0, e1, e2, e3⟩
theorem cast_tobool (c : Vm.Cl) (w : World) (hr : Vm.rightB c = true) (h0 : c.k ≠ 0) : Calls Tryz.prog 18 #[.agg #[.int .i64 c.k, .int .i64 c.n, .int .i64 c.sc, .string c.s]] w (CastA (Vm.cast c 1 0) w) := by
  have hp := Vm.plain_of hr
  have hc : Vm.cast c 1 0 = if c.k = 1 ∧ c.sc = 0 then (c, 0) else Vm.castR c 1 0 := by
    unfold Vm.cast; rw [hp, show Vm.typeB 1 0 = true by decide, if_pos rfl]
    by_cases h : c.k = 1 ∧ c.sc = 0
    · rw [if_pos h, if_pos (.inr h)]
    · rw [if_neg h, if_neg (fun e => e.elim h0 h)]
  rw [hc]
  clear hc hp
  rcases Vm.right_cases hr with rfl | ⟨n, hb, rfl⟩ | ⟨n, rfl⟩ | ⟨n, u, hu, rfl⟩ | ⟨u, hl, hv, rfl⟩ | ⟨u, hl, rfl⟩
  · exact absurd rfl h0
  · rw [if_pos ⟨rfl, rfl⟩]
    rcases hb with rfl | rfl
    · exact tb_f 1 0 0 _ w (eqB_self _ _ _ _)
    · exact tb_t 1 1 0 _ w (eq_no (by simp)) (eq_no (by simp)) (eq_no (by simp)) (eqB_self _ _ _ _)
  · rw [if_neg (by simp)]
    by_cases n0 : n = 0
    · subst n0; exact tb_i0 2 0 0 _ w (eq_no (by simp)) (eqB_self _ _ _ _)
    by_cases n1 : n = 1
    · subst n1; exact tb_i1 2 1 0 _ w (eq_no (by simp)) (eq_no (by simp)) (eq_no (by simp)) (eq_no (by simp)) (eqB_self _ _ _ _)
    have e : Vm.castR ⟨2, n, 0, ⟨#[]⟩⟩ 1 0 = (Vm.nil, 40) := by
      unfold Vm.castR
      rw [if_neg (by simp), if_pos (.inl rfl), if_neg (by rintro ⟨_, _, h⟩; exact h.elim n0 n1), if_neg (by simp), if_neg (by simp)]
    rw [e]
    exact tb_no 2 n 0 _ w (eq_no (by simp)) (eq_no (fun h => n0 h.2.1)) (eq_no (by simp)) (eq_no (by simp)) (eq_no (fun h => n1 h.2.1)) (eq_no (by simp))
  · rw [if_neg (by simp)]
    have e : Vm.castR ⟨3, n, u, ⟨#[]⟩⟩ 1 0 = (Vm.nil, 40) := by
      unfold Vm.castR
      rw [if_neg (by simp), if_pos (.inr rfl), if_neg (by rintro ⟨_, h, _⟩; simp at h), if_neg (by simp), if_neg (by simp)]
    rw [e]
    exact tb_no 3 n u _ w (eq_no (by simp)) (eq_no (by simp)) (eq_no (by simp)) (eq_no (by simp)) (eq_no (by simp)) (eq_no (by simp))
  · rw [if_neg (by simp), Vm.castR_text, if_pos rfl]
    by_cases ht : u = Vm.tru
    · subst ht; rw [if_pos rfl]
      exact tb_tt 4 0 0 _ w (eq_no (by simp)) (eq_no (by simp)) (eq_no (fun h => absurd h.2.2.2 (by decide))) (eq_no (by simp)) (eq_no (by simp)) (eqB_self _ _ _ _)
    by_cases hf : u = Vm.fal
    · subst hf; rw [if_neg ht, if_pos rfl]
      exact tb_tf 4 0 0 _ w (eq_no (by simp)) (eq_no (by simp)) (eqB_self _ _ _ _)
    rw [if_neg ht, if_neg hf]
    exact tb_no 4 0 0 _ w (eq_no (by simp)) (eq_no (by simp)) (eq_no (fun h => hf h.2.2.2)) (eq_no (by simp)) (eq_no (by simp)) (eq_no (fun h => ht h.2.2.2))
  · rw [if_neg (by simp)]
    have e : Vm.castR ⟨5, 0, 0, u⟩ 1 0 = (Vm.nil, 40) := by
      unfold Vm.castR; rw [if_neg (by simp), if_neg (by simp), if_neg (by simp), if_neg (by simp)]
    rw [e]
    exact tb_no 5 0 0 _ w (eq_no (by simp)) (eq_no (by simp)) (eq_no (by simp)) (eq_no (by simp)) (eq_no (by simp)) (eq_no (by simp))

/-- what a function that answers a string leaves -/
def StrS (t : ByteArray) (w : World) (e : Ending) (w' : World) : Prop := e = .returned (.string t) ∧ Below w.heap.size w w'
/-- a value in a block of its own -/
structure Ex (w : World) (ck cn cc : Int) (cs : ByteArray) (w' : World) : Prop where
  v : Bx w.heap.size ck cn cc cs w'
  bel : Below w.heap.size w w'
theorem Ex.new (w : World) (ck cn cc : Int) (cs : ByteArray) (u : TypeId) : Ex w ck cn cc cs (w.alloc (.cells #[.int .i64 ck, .int .i64 cn, .int .i64 cc, .string cs] u)) := ⟨Bx.new w ck cn cc cs u, one w _⟩
theorem Ex.keep {w w1 w2 : World} {ck cn cc : Int} {cs : ByteArray} (h : Ex w ck cn cc cs w1) (hb : Below w1.heap.size w1 w2) : Ex w ck cn cc cs w2 := ⟨h.v.keep hb, h.bel.trans (hb.mono h.bel.size)⟩

set_option maxRecDepth 100000 in
set_option maxHeartbeats 4000000 in
theorem ch_false  (w : World) : Calls Tryz.prog 35 #[.agg #[.int .i64 1, .int .i64 0, .int .i64 0, .string ⟨#[]⟩]] w (StrS Vm.fal w) := by
  have e_f := val_eql 1 0 0 ⟨#[]⟩ 1 0 0 ⟨#[]⟩
  rw [show eqB 1 0 0 ⟨#[]⟩ 1 0 0 ⟨#[]⟩ = true from eqB_self _ _ _ _] at e_f
  have D0 := Lib.hid (Ex.new w 1 0 0 ⟨#[]⟩ 24)
  go_enter Tryz.func35, Tryz.ntmps35
  go_wp2_with fail
  refine (val_false _).mono ?_
  rintro e w1 ⟨rfl, hb⟩
  have D1 := Lib.hid (D0.out.keep hb)
  clear hb D0
  go_wp2
  go_ret
  exact ⟨rfl, D1.out.bel⟩

set_option maxRecDepth 100000 in
set_option maxHeartbeats 4000000 in
theorem ch_true  (w : World) : Calls Tryz.prog 35 #[.agg #[.int .i64 1, .int .i64 1, .int .i64 0, .string ⟨#[]⟩]] w (StrS Vm.tru w) := by
  have e_f := val_eql 1 1 0 ⟨#[]⟩ 1 0 0 ⟨#[]⟩
  rw [show eqB 1 1 0 ⟨#[]⟩ 1 0 0 ⟨#[]⟩ = false from eq_no (by simp)] at e_f
  have e_t := val_eql 1 1 0 ⟨#[]⟩ 1 1 0 ⟨#[]⟩
  rw [show eqB 1 1 0 ⟨#[]⟩ 1 1 0 ⟨#[]⟩ = true from eqB_self _ _ _ _] at e_t
  have D0 := Lib.hid (Ex.new w 1 1 0 ⟨#[]⟩ 24)
  go_enter Tryz.func35, Tryz.ntmps35
  go_wp2_with fail
  refine (val_false _).mono ?_
  rintro e w1 ⟨rfl, hb⟩
  have D1 := Lib.hid (D0.out.keep hb)
  clear hb D0
  go_wp2_with fail
  refine (val_true _).mono ?_
  rintro e w2 ⟨rfl, hb⟩
  have D2 := Lib.hid (D1.out.keep hb)
  clear hb D1
  go_wp2
  go_ret
  exact ⟨rfl, D2.out.bel⟩

set_option maxRecDepth 100000 in
set_option maxHeartbeats 4000000 in
theorem ch_num2 (n sc : Int) (w : World) (he : EnvV w) (T : ByteArray) (HP : Hid (∀ W, Env W → Calls Tryz.prog 48 #[.int .i64 n, .int .i64 sc] W (StrS T W))) : Calls Tryz.prog 35 #[.agg #[.int .i64 2, .int .i64 n, .int .i64 sc, .string ⟨#[]⟩]] w (StrS T w) := by
  have e_f := val_eql 2 n sc ⟨#[]⟩ 1 0 0 ⟨#[]⟩
  rw [show eqB 2 n sc ⟨#[]⟩ 1 0 0 ⟨#[]⟩ = false from eq_no (by simp)] at e_f
  have e_t := val_eql 2 n sc ⟨#[]⟩ 1 1 0 ⟨#[]⟩
  rw [show eqB 2 n sc ⟨#[]⟩ 1 1 0 ⟨#[]⟩ = false from eq_no (by simp)] at e_t
  have HE := Lib.hid he
  clear he
  have D0 := Lib.hid (Ex.new w 2 n sc ⟨#[]⟩ 24)
  go_enter Tryz.func35, Tryz.ntmps35
  go_wp2_with fail
  refine (val_false _).mono ?_
  rintro e w1 ⟨rfl, hb⟩
  have D1 := Lib.hid (D0.out.keep hb)
  clear hb D0
  go_wp2_with fail
  refine (val_true _).mono ?_
  rintro e w2 ⟨rfl, hb⟩
  have D2 := Lib.hid (D1.out.keep hb)
  clear hb D1
  have d0 := D2.out.v.c0; have d1 := D2.out.v.c1; have d2 := D2.out.v.c2; have d3 := D2.out.v.c3
  go_wp2_with fail
  refine (HP.out _ (HE.out.keep D2.out.bel).env).mono ?_
  rintro e w3 ⟨rfl, hb⟩
  have D3 := Lib.hid (D2.out.keep hb)
  clear hb D2
  go_wp2
  go_ret
  exact ⟨rfl, D3.out.bel⟩

set_option maxRecDepth 100000 in
set_option maxHeartbeats 4000000 in
theorem ch_num3 (n sc : Int) (w : World) (he : EnvV w) (T : ByteArray) (HP : Hid (∀ W, Env W → Calls Tryz.prog 48 #[.int .i64 n, .int .i64 sc] W (StrS T W))) : Calls Tryz.prog 35 #[.agg #[.int .i64 3, .int .i64 n, .int .i64 sc, .string ⟨#[]⟩]] w (StrS T w) := by
  have e_f := val_eql 3 n sc ⟨#[]⟩ 1 0 0 ⟨#[]⟩
  rw [show eqB 3 n sc ⟨#[]⟩ 1 0 0 ⟨#[]⟩ = false from eq_no (by simp)] at e_f
  have e_t := val_eql 3 n sc ⟨#[]⟩ 1 1 0 ⟨#[]⟩
  rw [show eqB 3 n sc ⟨#[]⟩ 1 1 0 ⟨#[]⟩ = false from eq_no (by simp)] at e_t
  have HE := Lib.hid he
  clear he
  have D0 := Lib.hid (Ex.new w 3 n sc ⟨#[]⟩ 24)
  go_enter Tryz.func35, Tryz.ntmps35
  go_wp2_with fail
  refine (val_false _).mono ?_
  rintro e w1 ⟨rfl, hb⟩
  have D1 := Lib.hid (D0.out.keep hb)
  clear hb D0
  go_wp2_with fail
  refine (val_true _).mono ?_
  rintro e w2 ⟨rfl, hb⟩
  have D2 := Lib.hid (D1.out.keep hb)
  clear hb D1
  have d0 := D2.out.v.c0; have d1 := D2.out.v.c1; have d2 := D2.out.v.c2; have d3 := D2.out.v.c3
  go_wp2_with fail
  refine (HP.out _ (HE.out.keep D2.out.bel).env).mono ?_
  rintro e w3 ⟨rfl, hb⟩
  have D3 := Lib.hid (D2.out.keep hb)
  clear hb D2
  go_wp2
  go_ret
  exact ⟨rfl, D3.out.bel⟩

set_option maxRecDepth 100000 in
set_option maxHeartbeats 4000000 in
theorem ch_str4 (s : ByteArray) (w : World) : Calls Tryz.prog 35 #[.agg #[.int .i64 4, .int .i64 0, .int .i64 0, .string s]] w (StrS s w) := by
  have e_f := val_eql 4 0 0 s 1 0 0 ⟨#[]⟩
  rw [show eqB 4 0 0 s 1 0 0 ⟨#[]⟩ = false from eq_no (by simp)] at e_f
  have e_t := val_eql 4 0 0 s 1 1 0 ⟨#[]⟩
  rw [show eqB 4 0 0 s 1 1 0 ⟨#[]⟩ = false from eq_no (by simp)] at e_t
  have D0 := Lib.hid (Ex.new w 4 0 0 s 24)
  go_enter Tryz.func35, Tryz.ntmps35
  go_wp2_with fail
  refine (val_false _).mono ?_
  rintro e w1 ⟨rfl, hb⟩
  have D1 := Lib.hid (D0.out.keep hb)
  clear hb D0
  go_wp2_with fail
  refine (val_true _).mono ?_
  rintro e w2 ⟨rfl, hb⟩
  have D2 := Lib.hid (D1.out.keep hb)
  clear hb D1
  have d0 := D2.out.v.c0; have d1 := D2.out.v.c1; have d2 := D2.out.v.c2; have d3 := D2.out.v.c3
  go_wp2
  go_ret
  exact ⟨rfl, D2.out.bel⟩

set_option maxRecDepth 100000 in
set_option maxHeartbeats 4000000 in
theorem ch_str5 (s : ByteArray) (w : World) : Calls Tryz.prog 35 #[.agg #[.int .i64 5, .int .i64 0, .int .i64 0, .string s]] w (StrS s w) := by
  have e_f := val_eql 5 0 0 s 1 0 0 ⟨#[]⟩
  rw [show eqB 5 0 0 s 1 0 0 ⟨#[]⟩ = false from eq_no (by simp)] at e_f
  have e_t := val_eql 5 0 0 s 1 1 0 ⟨#[]⟩
  rw [show eqB 5 0 0 s 1 1 0 ⟨#[]⟩ = false from eq_no (by simp)] at e_t
  have D0 := Lib.hid (Ex.new w 5 0 0 s 24)
  go_enter Tryz.func35, Tryz.ntmps35
  go_wp2_with fail
  refine (val_false _).mono ?_
  rintro e w1 ⟨rfl, hb⟩
  have D1 := Lib.hid (D0.out.keep hb)
  clear hb D0
  go_wp2_with fail
  refine (val_true _).mono ?_
  rintro e w2 ⟨rfl, hb⟩
  have D2 := Lib.hid (D1.out.keep hb)
  clear hb D1
  have d0 := D2.out.v.c0; have d1 := D2.out.v.c1; have d2 := D2.out.v.c2; have d3 := D2.out.v.c3
  go_wp2
  go_ret
  exact ⟨rfl, D2.out.bel⟩

/-- the text of a value's own -/
def chM (c : Vm.Cl) : ByteArray := if c.k = 1 then (if c.n = 1 then Vm.tru else Vm.fal) else if c.k = 2 ∨ c.k = 3 then ⟨(printM c.n c.sc).toArray⟩ else c.s
theorem cast_chars (c : Vm.Cl) (w : World) (he : EnvV w) (hr : Vm.rightB c = true) (h0 : c.k ≠ 0) (hn : i64 c.n) : Calls Tryz.prog 35 #[.agg #[.int .i64 c.k, .int .i64 c.n, .int .i64 c.sc, .string c.s]] w (StrS (chM c) w) := by
  rcases Vm.right_cases hr with rfl | ⟨n, hb, rfl⟩ | ⟨n, rfl⟩ | ⟨n, u, hu, rfl⟩ | ⟨u, hl, hv, rfl⟩ | ⟨u, hl, rfl⟩
  · exact absurd rfl h0
  · rcases hb with rfl | rfl
    · exact ch_false w
    · exact ch_true w
  · exact ch_num2 n 0 w he _ (fun W h => dec_print n 0 W h hn)
  · exact ch_num3 n u w he _ (fun W h => dec_print n u W h hn)
  · exact ch_str4 u w
  · exact ch_str5 u w
end Go.Proofs.YtfnnhhhkdfgefaaGreatDoor
