/- Package cast: Safe, Fits. -/
import Derived.Test.YtfnnhhhkdfgefaaGreatDoorCastC2
import Derived.Test.YtfnnhhhkdfgefaaGreatDoorCastRef1b
namespace Go.Proofs.YtfnnhhhkdfgefaaGreatDoor
open Go.RowKit

set_option maxRecDepth 100000 in
set_option maxHeartbeats 4000000 in
theorem sf_no1 (k s l t : Int) (w : World) (H1 : Hid (∀ W, Calls Tryz.prog 16 #[.agg #[.int .i64 k, .int .i64 s]] W (Says false W))) : Calls Tryz.prog 11 #[.agg #[.int .i64 k, .int .i64 s], .agg #[.int .i64 l, .int .i64 t]] w (Says false w) := by
  have W0 := Lib.hid (Ty2.new w k s l t 26)
  go_enter Tryz.func11, Tryz.ntmps11
  go_wp2_with fail
  refine (H1.out _).mono ?_
  rintro e w1 ⟨rfl, hb⟩
  have W1 := Lib.hid (W0.out.keep hb)
  clear hb W0 H1
  have e0 := W1.out.a.c0; have e1 := W1.out.a.c1; have f0 := W1.out.b.c0; have f1 := W1.out.b.c1
  go_wp2
  go_ret
  exact Says.mk (by first | rfl | simp) W1.out.bel

set_option maxRecDepth 100000 in
set_option maxHeartbeats 4000000 in
theorem sf_no2 (k s l t : Int) (w : World) (H1 : Hid (∀ W, Calls Tryz.prog 16 #[.agg #[.int .i64 k, .int .i64 s]] W (Says true W))) (H2 : Hid (∀ W, Calls Tryz.prog 16 #[.agg #[.int .i64 l, .int .i64 t]] W (Says false W))) : Calls Tryz.prog 11 #[.agg #[.int .i64 k, .int .i64 s], .agg #[.int .i64 l, .int .i64 t]] w (Says false w) := by
  have W0 := Lib.hid (Ty2.new w k s l t 26)
  go_enter Tryz.func11, Tryz.ntmps11
  go_wp2_with fail
  refine (H1.out _).mono ?_
  rintro e w1 ⟨rfl, hb⟩
  have W1 := Lib.hid (W0.out.keep hb)
  clear hb W0 H1
  have e0 := W1.out.a.c0; have e1 := W1.out.a.c1; have f0 := W1.out.b.c0; have f1 := W1.out.b.c1
  go_wp2_with fail
  refine (H2.out _).mono ?_
  rintro e w2 ⟨rfl, hb⟩
  have W2 := Lib.hid (W1.out.keep hb)
  clear hb W1 H2 e0 e1 f0 f1
  have e0 := W2.out.a.c0; have e1 := W2.out.a.c1; have f0 := W2.out.b.c0; have f1 := W2.out.b.c1
  go_wp2
  go_ret
  exact Says.mk (by first | rfl | simp) W2.out.bel

set_option maxRecDepth 100000 in
set_option maxHeartbeats 4000000 in
theorem sf_eq (k s l t : Int) (w : World) (H1 : Hid (∀ W, Calls Tryz.prog 16 #[.agg #[.int .i64 k, .int .i64 s]] W (Says true W))) (H2 : Hid (∀ W, Calls Tryz.prog 16 #[.agg #[.int .i64 l, .int .i64 t]] W (Says true W))) (hq : eqT k s l t = true) : Calls Tryz.prog 11 #[.agg #[.int .i64 k, .int .i64 s], .agg #[.int .i64 l, .int .i64 t]] w (Says true w) := by
  have W0 := Lib.hid (Ty2.new w k s l t 26)
  have heq := typ_eql k s l t
  rw [hq] at heq
  clear hq
  go_enter Tryz.func11, Tryz.ntmps11
  go_wp2_with fail
  refine (H1.out _).mono ?_
  rintro e w1 ⟨rfl, hb⟩
  have W1 := Lib.hid (W0.out.keep hb)
  clear hb W0 H1
  have e0 := W1.out.a.c0; have e1 := W1.out.a.c1; have f0 := W1.out.b.c0; have f1 := W1.out.b.c1
  go_wp2_with fail
  refine (H2.out _).mono ?_
  rintro e w2 ⟨rfl, hb⟩
  have W2 := Lib.hid (W1.out.keep hb)
  clear hb W1 H2 e0 e1 f0 f1
  have e0 := W2.out.a.c0; have e1 := W2.out.a.c1; have f0 := W2.out.b.c0; have f1 := W2.out.b.c1
  go_wp2
  go_ret
  exact Says.mk (by first | rfl | simp) W2.out.bel

set_option maxRecDepth 100000 in
set_option maxHeartbeats 4000000 in
theorem sf_1a (l t : Int) (w : World) (H1 : Hid (∀ W, Calls Tryz.prog 16 #[.agg #[.int .i64 1, .int .i64 0]] W (Says true W))) (H2 : Hid (∀ W, Calls Tryz.prog 16 #[.agg #[.int .i64 l, .int .i64 t]] W (Says true W))) (hq : eqT 1 0 l t = false) (q2 : (l == 2) = true) : Calls Tryz.prog 11 #[.agg #[.int .i64 1, .int .i64 0], .agg #[.int .i64 l, .int .i64 t]] w (Says true w) := by
  have W0 := Lib.hid (Ty2.new w 1 0 l t 26)
  have heq := typ_eql 1 0 l t
  rw [hq] at heq
  clear hq
  go_enter Tryz.func11, Tryz.ntmps11
  go_wp2_with fail
  refine (H1.out _).mono ?_
  rintro e w1 ⟨rfl, hb⟩
  have W1 := Lib.hid (W0.out.keep hb)
  clear hb W0 H1
  have e0 := W1.out.a.c0; have e1 := W1.out.a.c1; have f0 := W1.out.b.c0; have f1 := W1.out.b.c1
  go_wp2_with fail
  refine (H2.out _).mono ?_
  rintro e w2 ⟨rfl, hb⟩
  have W2 := Lib.hid (W1.out.keep hb)
  clear hb W1 H2 e0 e1 f0 f1
  have e0 := W2.out.a.c0; have e1 := W2.out.a.c1; have f0 := W2.out.b.c0; have f1 := W2.out.b.c1
  go_wp2
  go_ret
  exact Says.mk (by first | rfl | simp) W2.out.bel

set_option maxRecDepth 100000 in
set_option maxHeartbeats 4000000 in
theorem sf_1b (l t : Int) (w : World) (H1 : Hid (∀ W, Calls Tryz.prog 16 #[.agg #[.int .i64 1, .int .i64 0]] W (Says true W))) (H2 : Hid (∀ W, Calls Tryz.prog 16 #[.agg #[.int .i64 l, .int .i64 t]] W (Says true W))) (hq : eqT 1 0 l t = false) (b : Bool) (q2 : (l == 2) = false) (q4 : (l == 4) = b) : Calls Tryz.prog 11 #[.agg #[.int .i64 1, .int .i64 0], .agg #[.int .i64 l, .int .i64 t]] w (Says b w) := by
  have W0 := Lib.hid (Ty2.new w 1 0 l t 26)
  have heq := typ_eql 1 0 l t
  rw [hq] at heq
  clear hq
  go_enter Tryz.func11, Tryz.ntmps11
  go_wp2_with fail
  refine (H1.out _).mono ?_
  rintro e w1 ⟨rfl, hb⟩
  have W1 := Lib.hid (W0.out.keep hb)
  clear hb W0 H1
  have e0 := W1.out.a.c0; have e1 := W1.out.a.c1; have f0 := W1.out.b.c0; have f1 := W1.out.b.c1
  go_wp2_with fail
  refine (H2.out _).mono ?_
  rintro e w2 ⟨rfl, hb⟩
  have W2 := Lib.hid (W1.out.keep hb)
  clear hb W1 H2 e0 e1 f0 f1
  have e0 := W2.out.a.c0; have e1 := W2.out.a.c1; have f0 := W2.out.b.c0; have f1 := W2.out.b.c1
  go_wp2
  go_ret
  exact Says.mk (by first | rfl | simp) W2.out.bel

set_option maxRecDepth 100000 in
set_option maxHeartbeats 4000000 in
theorem sf_2a (l t : Int) (w : World) (H1 : Hid (∀ W, Calls Tryz.prog 16 #[.agg #[.int .i64 2, .int .i64 0]] W (Says true W))) (H2 : Hid (∀ W, Calls Tryz.prog 16 #[.agg #[.int .i64 l, .int .i64 t]] W (Says true W))) (hq : eqT 2 0 l t = false) (q4 : (l == 4) = true) : Calls Tryz.prog 11 #[.agg #[.int .i64 2, .int .i64 0], .agg #[.int .i64 l, .int .i64 t]] w (Says true w) := by
  have W0 := Lib.hid (Ty2.new w 2 0 l t 26)
  have heq := typ_eql 2 0 l t
  rw [hq] at heq
  clear hq
  go_enter Tryz.func11, Tryz.ntmps11
  go_wp2_with fail
  refine (H1.out _).mono ?_
  rintro e w1 ⟨rfl, hb⟩
  have W1 := Lib.hid (W0.out.keep hb)
  clear hb W0 H1
  have e0 := W1.out.a.c0; have e1 := W1.out.a.c1; have f0 := W1.out.b.c0; have f1 := W1.out.b.c1
  go_wp2_with fail
  refine (H2.out _).mono ?_
  rintro e w2 ⟨rfl, hb⟩
  have W2 := Lib.hid (W1.out.keep hb)
  clear hb W1 H2 e0 e1 f0 f1
  have e0 := W2.out.a.c0; have e1 := W2.out.a.c1; have f0 := W2.out.b.c0; have f1 := W2.out.b.c1
  go_wp2
  go_ret
  exact Says.mk (by first | rfl | simp) W2.out.bel

set_option maxRecDepth 100000 in
set_option maxHeartbeats 4000000 in
theorem sf_2b (l t : Int) (w : World) (H1 : Hid (∀ W, Calls Tryz.prog 16 #[.agg #[.int .i64 2, .int .i64 0]] W (Says true W))) (H2 : Hid (∀ W, Calls Tryz.prog 16 #[.agg #[.int .i64 l, .int .i64 t]] W (Says true W))) (hq : eqT 2 0 l t = false) (q4 : (l == 4) = false) (HI : Hid (∀ W, Calls Tryz.prog 28 #[.agg #[.int .i64 l, .int .i64 t]] W (Says false W))) : Calls Tryz.prog 11 #[.agg #[.int .i64 2, .int .i64 0], .agg #[.int .i64 l, .int .i64 t]] w (Says false w) := by
  have W0 := Lib.hid (Ty2.new w 2 0 l t 26)
  have heq := typ_eql 2 0 l t
  rw [hq] at heq
  clear hq
  go_enter Tryz.func11, Tryz.ntmps11
  go_wp2_with fail
  refine (H1.out _).mono ?_
  rintro e w1 ⟨rfl, hb⟩
  have W1 := Lib.hid (W0.out.keep hb)
  clear hb W0 H1
  have e0 := W1.out.a.c0; have e1 := W1.out.a.c1; have f0 := W1.out.b.c0; have f1 := W1.out.b.c1
  go_wp2_with fail
  refine (H2.out _).mono ?_
  rintro e w2 ⟨rfl, hb⟩
  have W2 := Lib.hid (W1.out.keep hb)
  clear hb W1 H2 e0 e1 f0 f1
  have e0 := W2.out.a.c0; have e1 := W2.out.a.c1; have f0 := W2.out.b.c0; have f1 := W2.out.b.c1
  go_wp2_with fail
  refine (HI.out _).mono ?_
  rintro e w3 ⟨rfl, hb⟩
  have W3 := Lib.hid (W2.out.keep hb)
  clear hb W2 HI e0 e1 f0 f1
  have e0 := W3.out.a.c0; have e1 := W3.out.a.c1; have f0 := W3.out.b.c0; have f1 := W3.out.b.c1
  go_wp2
  go_ret
  exact Says.mk (by first | rfl | simp) W3.out.bel

set_option maxRecDepth 100000 in
set_option maxHeartbeats 4000000 in
theorem sf_2c (l t : Int) (w : World) (H1 : Hid (∀ W, Calls Tryz.prog 16 #[.agg #[.int .i64 2, .int .i64 0]] W (Says true W))) (H2 : Hid (∀ W, Calls Tryz.prog 16 #[.agg #[.int .i64 l, .int .i64 t]] W (Says true W))) (hq : eqT 2 0 l t = false) (b : Bool) (q4 : (l == 4) = false) (HI : Hid (∀ W, Calls Tryz.prog 28 #[.agg #[.int .i64 l, .int .i64 t]] W (Says true W))) (ql : decide (t ≤ 0) = b) : Calls Tryz.prog 11 #[.agg #[.int .i64 2, .int .i64 0], .agg #[.int .i64 l, .int .i64 t]] w (Says b w) := by
  have W0 := Lib.hid (Ty2.new w 2 0 l t 26)
  have heq := typ_eql 2 0 l t
  rw [hq] at heq
  clear hq
  go_enter Tryz.func11, Tryz.ntmps11
  go_wp2_with fail
  refine (H1.out _).mono ?_
  rintro e w1 ⟨rfl, hb⟩
  have W1 := Lib.hid (W0.out.keep hb)
  clear hb W0 H1
  have e0 := W1.out.a.c0; have e1 := W1.out.a.c1; have f0 := W1.out.b.c0; have f1 := W1.out.b.c1
  go_wp2_with fail
  refine (H2.out _).mono ?_
  rintro e w2 ⟨rfl, hb⟩
  have W2 := Lib.hid (W1.out.keep hb)
  clear hb W1 H2 e0 e1 f0 f1
  have e0 := W2.out.a.c0; have e1 := W2.out.a.c1; have f0 := W2.out.b.c0; have f1 := W2.out.b.c1
  go_wp2_with fail
  refine (HI.out _).mono ?_
  rintro e w3 ⟨rfl, hb⟩
  have W3 := Lib.hid (W2.out.keep hb)
  clear hb W2 HI e0 e1 f0 f1
  have e0 := W3.out.a.c0; have e1 := W3.out.a.c1; have f0 := W3.out.b.c0; have f1 := W3.out.b.c1
  go_wp2
  go_ret
  exact Says.mk (by first | rfl | simp) W3.out.bel

set_option maxRecDepth 100000 in
set_option maxHeartbeats 4000000 in
theorem sf_3a (s l t : Int) (w : World) (H1 : Hid (∀ W, Calls Tryz.prog 16 #[.agg #[.int .i64 3, .int .i64 s]] W (Says true W))) (H2 : Hid (∀ W, Calls Tryz.prog 16 #[.agg #[.int .i64 l, .int .i64 t]] W (Says true W))) (hq : eqT 3 s l t = false) (q4 : (l == 4) = true) : Calls Tryz.prog 11 #[.agg #[.int .i64 3, .int .i64 s], .agg #[.int .i64 l, .int .i64 t]] w (Says true w) := by
  have W0 := Lib.hid (Ty2.new w 3 s l t 26)
  have heq := typ_eql 3 s l t
  rw [hq] at heq
  clear hq
  go_enter Tryz.func11, Tryz.ntmps11
  go_wp2_with fail
  refine (H1.out _).mono ?_
  rintro e w1 ⟨rfl, hb⟩
  have W1 := Lib.hid (W0.out.keep hb)
  clear hb W0 H1
  have e0 := W1.out.a.c0; have e1 := W1.out.a.c1; have f0 := W1.out.b.c0; have f1 := W1.out.b.c1
  go_wp2_with fail
  refine (H2.out _).mono ?_
  rintro e w2 ⟨rfl, hb⟩
  have W2 := Lib.hid (W1.out.keep hb)
  clear hb W1 H2 e0 e1 f0 f1
  have e0 := W2.out.a.c0; have e1 := W2.out.a.c1; have f0 := W2.out.b.c0; have f1 := W2.out.b.c1
  go_wp2
  go_ret
  exact Says.mk (by first | rfl | simp) W2.out.bel

set_option maxRecDepth 100000 in
set_option maxHeartbeats 4000000 in
theorem sf_3b (s l t : Int) (w : World) (H1 : Hid (∀ W, Calls Tryz.prog 16 #[.agg #[.int .i64 3, .int .i64 s]] W (Says true W))) (H2 : Hid (∀ W, Calls Tryz.prog 16 #[.agg #[.int .i64 l, .int .i64 t]] W (Says true W))) (hq : eqT 3 s l t = false) (q4 : (l == 4) = false) (HI : Hid (∀ W, Calls Tryz.prog 28 #[.agg #[.int .i64 l, .int .i64 t]] W (Says false W))) : Calls Tryz.prog 11 #[.agg #[.int .i64 3, .int .i64 s], .agg #[.int .i64 l, .int .i64 t]] w (Says false w) := by
  have W0 := Lib.hid (Ty2.new w 3 s l t 26)
  have heq := typ_eql 3 s l t
  rw [hq] at heq
  clear hq
  go_enter Tryz.func11, Tryz.ntmps11
  go_wp2_with fail
  refine (H1.out _).mono ?_
  rintro e w1 ⟨rfl, hb⟩
  have W1 := Lib.hid (W0.out.keep hb)
  clear hb W0 H1
  have e0 := W1.out.a.c0; have e1 := W1.out.a.c1; have f0 := W1.out.b.c0; have f1 := W1.out.b.c1
  go_wp2_with fail
  refine (H2.out _).mono ?_
  rintro e w2 ⟨rfl, hb⟩
  have W2 := Lib.hid (W1.out.keep hb)
  clear hb W1 H2 e0 e1 f0 f1
  have e0 := W2.out.a.c0; have e1 := W2.out.a.c1; have f0 := W2.out.b.c0; have f1 := W2.out.b.c1
  go_wp2_with fail
  refine (HI.out _).mono ?_
  rintro e w3 ⟨rfl, hb⟩
  have W3 := Lib.hid (W2.out.keep hb)
  clear hb W2 HI e0 e1 f0 f1
  have e0 := W3.out.a.c0; have e1 := W3.out.a.c1; have f0 := W3.out.b.c0; have f1 := W3.out.b.c1
  go_wp2
  go_ret
  exact Says.mk (by first | rfl | simp) W3.out.bel

set_option maxRecDepth 100000 in
set_option maxHeartbeats 4000000 in
theorem sf_3c (s l t : Int) (w : World) (H1 : Hid (∀ W, Calls Tryz.prog 16 #[.agg #[.int .i64 3, .int .i64 s]] W (Says true W))) (H2 : Hid (∀ W, Calls Tryz.prog 16 #[.agg #[.int .i64 l, .int .i64 t]] W (Says true W))) (hq : eqT 3 s l t = false) (b : Bool) (q4 : (l == 4) = false) (HI : Hid (∀ W, Calls Tryz.prog 28 #[.agg #[.int .i64 l, .int .i64 t]] W (Says true W))) (ql : decide (t ≤ s) = b) : Calls Tryz.prog 11 #[.agg #[.int .i64 3, .int .i64 s], .agg #[.int .i64 l, .int .i64 t]] w (Says b w) := by
  have W0 := Lib.hid (Ty2.new w 3 s l t 26)
  have heq := typ_eql 3 s l t
  rw [hq] at heq
  clear hq
  go_enter Tryz.func11, Tryz.ntmps11
  go_wp2_with fail
  refine (H1.out _).mono ?_
  rintro e w1 ⟨rfl, hb⟩
  have W1 := Lib.hid (W0.out.keep hb)
  clear hb W0 H1
  have e0 := W1.out.a.c0; have e1 := W1.out.a.c1; have f0 := W1.out.b.c0; have f1 := W1.out.b.c1
  go_wp2_with fail
  refine (H2.out _).mono ?_
  rintro e w2 ⟨rfl, hb⟩
  have W2 := Lib.hid (W1.out.keep hb)
  clear hb W1 H2 e0 e1 f0 f1
  have e0 := W2.out.a.c0; have e1 := W2.out.a.c1; have f0 := W2.out.b.c0; have f1 := W2.out.b.c1
  go_wp2_with fail
  refine (HI.out _).mono ?_
  rintro e w3 ⟨rfl, hb⟩
  have W3 := Lib.hid (W2.out.keep hb)
  clear hb W2 HI e0 e1 f0 f1
  have e0 := W3.out.a.c0; have e1 := W3.out.a.c1; have f0 := W3.out.b.c0; have f1 := W3.out.b.c1
  go_wp2
  go_ret
  exact Says.mk (by first | rfl | simp) W3.out.bel

set_option maxRecDepth 100000 in
set_option maxHeartbeats 4000000 in
theorem sf_4 (l t : Int) (w : World) (H1 : Hid (∀ W, Calls Tryz.prog 16 #[.agg #[.int .i64 4, .int .i64 0]] W (Says true W))) (H2 : Hid (∀ W, Calls Tryz.prog 16 #[.agg #[.int .i64 l, .int .i64 t]] W (Says true W))) (hq : eqT 4 0 l t = false) (b : Bool) (q5 : (l == 5) = b) : Calls Tryz.prog 11 #[.agg #[.int .i64 4, .int .i64 0], .agg #[.int .i64 l, .int .i64 t]] w (Says b w) := by
  have W0 := Lib.hid (Ty2.new w 4 0 l t 26)
  have heq := typ_eql 4 0 l t
  rw [hq] at heq
  clear hq
  go_enter Tryz.func11, Tryz.ntmps11
  go_wp2_with fail
  refine (H1.out _).mono ?_
  rintro e w1 ⟨rfl, hb⟩
  have W1 := Lib.hid (W0.out.keep hb)
  clear hb W0 H1
  have e0 := W1.out.a.c0; have e1 := W1.out.a.c1; have f0 := W1.out.b.c0; have f1 := W1.out.b.c1
  go_wp2_with fail
  refine (H2.out _).mono ?_
  rintro e w2 ⟨rfl, hb⟩
  have W2 := Lib.hid (W1.out.keep hb)
  clear hb W1 H2 e0 e1 f0 f1
  have e0 := W2.out.a.c0; have e1 := W2.out.a.c1; have f0 := W2.out.b.c0; have f1 := W2.out.b.c1
  go_wp2
  go_ret
  exact Says.mk (by first | rfl | simp) W2.out.bel

set_option maxRecDepth 100000 in
set_option maxHeartbeats 4000000 in
theorem sf_5 (l t : Int) (w : World) (H1 : Hid (∀ W, Calls Tryz.prog 16 #[.agg #[.int .i64 5, .int .i64 0]] W (Says true W))) (H2 : Hid (∀ W, Calls Tryz.prog 16 #[.agg #[.int .i64 l, .int .i64 t]] W (Says true W))) (hq : eqT 5 0 l t = false) : Calls Tryz.prog 11 #[.agg #[.int .i64 5, .int .i64 0], .agg #[.int .i64 l, .int .i64 t]] w (Says false w) := by
  have W0 := Lib.hid (Ty2.new w 5 0 l t 26)
  have heq := typ_eql 5 0 l t
  rw [hq] at heq
  clear hq
  go_enter Tryz.func11, Tryz.ntmps11
  go_wp2_with fail
  refine (H1.out _).mono ?_
  rintro e w1 ⟨rfl, hb⟩
  have W1 := Lib.hid (W0.out.keep hb)
  clear hb W0 H1
  have e0 := W1.out.a.c0; have e1 := W1.out.a.c1; have f0 := W1.out.b.c0; have f1 := W1.out.b.c1
  go_wp2_with fail
  refine (H2.out _).mono ?_
  rintro e w2 ⟨rfl, hb⟩
  have W2 := Lib.hid (W1.out.keep hb)
  clear hb W1 H2 e0 e1 f0 f1
  have e0 := W2.out.a.c0; have e1 := W2.out.a.c1; have f0 := W2.out.b.c0; have f1 := W2.out.b.c1
  go_wp2
  go_ret
  exact Says.mk (by first | rfl | simp) W2.out.bel

theorem eqT_iff (k s l t : Int) : eqT k s l t = decide (k = l ∧ s = t) := by
  unfold eqT; rw [beq_dec, beq_dec, Bool.eq_iff_iff]; simp
theorem cast_safe (k s l t : Int) (w : World) : Calls Tryz.prog 11 #[.agg #[.int .i64 k, .int .i64 s], .agg #[.int .i64 l, .int .i64 t]] w (Says (Vm.safe k s l t) w) := by
  have H1 := Lib.hid (val_rtype k s)
  have H2 := Lib.hid (val_rtype l t)
  cases h1 : Vm.typeB k s
  · rw [safe_no1 h1]
    rw [h1] at H1
    exact sf_no1 k s l t w H1
  rw [h1] at H1
  cases h2 : Vm.typeB l t
  · rw [safe_no2 h2]
    rw [h2] at H2
    exact sf_no2 k s l t w H1 H2
  rw [h2] at H2
  have HS : Vm.safe k s l t = decide ((k = l ∧ s = t) ∨ (k = 1 ∧ (l = 2 ∨ l = 4)) ∨ (k = 2 ∧ (l = 4 ∨ (l = 3 ∧ t = 0))) ∨ (k = 3 ∧ (l = 4 ∨ l = 2 ∨ (l = 3 ∧ t ≤ s))) ∨ (k = 4 ∧ l = 5)) := by
    unfold Vm.safe; rw [h1, h2]; rfl
  by_cases he : k = l ∧ s = t
  · have e : Vm.safe k s l t = true := by rw [HS]; simp [he]
    rw [e]
    exact sf_eq k s l t w H1 H2 (by rw [eqT_iff]; simpa using he)
  have hq : eqT k s l t = false := by rw [eqT_iff]; simpa using he
  have HI : Hid (∀ W, Calls Tryz.prog 28 #[.agg #[.int .i64 l, .int .i64 t]] W (Says (Vm.isNum l) W)) := fun W => cast_isnum l t W
  have ht : Vm.isNum l = true → 0 ≤ t ∧ (l = 2 ∧ t = 0 ∨ l = 3) := by
    intro hi
    rcases Vm.typeB_cases h2 with ⟨rfl, rfl⟩ | ⟨rfl, rfl⟩ | ⟨rfl, hs⟩ | ⟨rfl, rfl⟩ | ⟨rfl, rfl⟩
    · exact absurd hi (by decide)
    · exact ⟨Int.le_refl _, .inl ⟨rfl, rfl⟩⟩
    · exact ⟨(scB_true hs).1, .inr rfl⟩
    · exact absurd hi (by decide)
    · exact absurd hi (by decide)
  have hi0 : Vm.isNum l = false → l ≠ 2 ∧ l ≠ 3 := by
    intro hi; unfold Vm.isNum at hi; simp at hi; exact hi
  rcases Vm.typeB_cases h1 with ⟨rfl, rfl⟩ | ⟨rfl, rfl⟩ | ⟨rfl, hs⟩ | ⟨rfl, rfl⟩ | ⟨rfl, rfl⟩
  · by_cases l2 : l = 2
    · rw [HS, show decide _ = true from decide_eq_true (.inr (.inl ⟨rfl, .inl l2⟩))]
      exact sf_1a l t w H1 H2 hq (by simpa using l2)
    · have e : Vm.safe 1 0 l t = decide (l = 4) := by rw [HS, Bool.eq_iff_iff]; simp [l2]; omega
      rw [e]
      exact sf_1b l t w H1 H2 hq _ (by simpa using l2) (beq_dec _ _)
  · by_cases l4 : l = 4
    · rw [HS, show decide _ = true from decide_eq_true (.inr (.inr (.inl ⟨rfl, .inl l4⟩)))]
      exact sf_2a l t w H1 H2 hq (by simpa using l4)
    · cases hi : Vm.isNum l
      · have e : Vm.safe 2 0 l t = false := by have := hi0 hi; rw [HS]; simp; omega
        rw [e]
        rw [hi] at HI
        exact sf_2b l t w H1 H2 hq (by simpa using l4) HI
      · have e : Vm.safe 2 0 l t = decide (t ≤ 0) := by have := ht hi; rw [HS, Bool.eq_iff_iff]; simp; omega
        rw [e]
        rw [hi] at HI
        exact sf_2c l t w H1 H2 hq _ (by simpa using l4) HI rfl
  · by_cases l4 : l = 4
    · rw [HS, show decide _ = true from decide_eq_true (.inr (.inr (.inr (.inl ⟨rfl, .inl l4⟩))))]
      exact sf_3a s l t w H1 H2 hq (by simpa using l4)
    · cases hi : Vm.isNum l
      · have e : Vm.safe 3 s l t = false := by have := hi0 hi; rw [HS]; simp; omega
        rw [e]
        rw [hi] at HI
        exact sf_3b s l t w H1 H2 hq (by simpa using l4) HI
      · have e : Vm.safe 3 s l t = decide (t ≤ s) := by have := ht hi; have := (scB_true hs).1; rw [HS, Bool.eq_iff_iff]; simp; omega
        rw [e]
        rw [hi] at HI
        exact sf_3c s l t w H1 H2 hq _ (by simpa using l4) HI rfl
  · have e : Vm.safe 4 0 l t = decide (l = 5) := by rw [HS, Bool.eq_iff_iff]; simp; omega
    rw [e]
    exact sf_4 l t w H1 H2 hq _ (beq_dec _ _)
  · have e : Vm.safe 5 0 l t = false := by rw [HS]; simp; omega
    rw [e]
    exact sf_5 l t w H1 H2 hq

set_option maxRecDepth 100000 in
set_option maxHeartbeats 4000000 in
theorem ft_no1 (k s l t : Int) (w : World) (H1 : Hid (∀ W, Calls Tryz.prog 16 #[.agg #[.int .i64 k, .int .i64 s]] W (Says false W))) : Calls Tryz.prog 13 #[.agg #[.int .i64 k, .int .i64 s], .agg #[.int .i64 l, .int .i64 t]] w (TypB ((0, 0), false) w) := by
  have W0 := Lib.hid (Ty3.new w k s l t 26)
  go_enter Tryz.func13, Tryz.ntmps13
  go_wp2_with fail
  refine (H1.out _).mono ?_
  rintro e w1 ⟨rfl, hb⟩
  have W1 := Lib.hid (W0.out.keep hb)
  clear hb W0 H1
  have e0 := W1.out.a.c0; have e1 := W1.out.a.c1; have f0 := W1.out.b.c0; have f1 := W1.out.b.c1
  have r0 := W1.out.r.c0; have r1 := W1.out.r.c1; have rf := W1.out.rf; have rl := W1.out.r.lt
  go_wp2
  refine bodyPost_ret (v := .tuple #[.agg #[.int .i64 0, .int .i64 0], .bool false]) (by simp [results, Tryz.results13, go_sem, r0, r1]) rfl (TypB.mk rfl ?_)
  exact set2 W1.out.bel (by omega) _ _

set_option maxRecDepth 100000 in
set_option maxHeartbeats 4000000 in
theorem ft_no2 (k s l t : Int) (w : World) (H1 : Hid (∀ W, Calls Tryz.prog 16 #[.agg #[.int .i64 k, .int .i64 s]] W (Says true W))) (H2 : Hid (∀ W, Calls Tryz.prog 16 #[.agg #[.int .i64 l, .int .i64 t]] W (Says false W))) : Calls Tryz.prog 13 #[.agg #[.int .i64 k, .int .i64 s], .agg #[.int .i64 l, .int .i64 t]] w (TypB ((0, 0), false) w) := by
  have W0 := Lib.hid (Ty3.new w k s l t 26)
  go_enter Tryz.func13, Tryz.ntmps13
  go_wp2_with fail
  refine (H1.out _).mono ?_
  rintro e w1 ⟨rfl, hb⟩
  have W1 := Lib.hid (W0.out.keep hb)
  clear hb W0 H1
  have e0 := W1.out.a.c0; have e1 := W1.out.a.c1; have f0 := W1.out.b.c0; have f1 := W1.out.b.c1
  go_wp2_with fail
  refine (H2.out _).mono ?_
  rintro e w2 ⟨rfl, hb⟩
  have W2 := Lib.hid (W1.out.keep hb)
  clear hb W1 H2 e0 e1 f0 f1
  have e0 := W2.out.a.c0; have e1 := W2.out.a.c1; have f0 := W2.out.b.c0; have f1 := W2.out.b.c1
  have r0 := W2.out.r.c0; have r1 := W2.out.r.c1; have rf := W2.out.rf; have rl := W2.out.r.lt
  go_wp2
  refine bodyPost_ret (v := .tuple #[.agg #[.int .i64 0, .int .i64 0], .bool false]) (by simp [results, Tryz.results13, go_sem, r0, r1]) rfl (TypB.mk rfl ?_)
  exact set2 W2.out.bel (by omega) _ _

set_option maxRecDepth 100000 in
set_option maxHeartbeats 4000000 in
theorem ft_eq (k s l t : Int) (w : World) (H1 : Hid (∀ W, Calls Tryz.prog 16 #[.agg #[.int .i64 k, .int .i64 s]] W (Says true W))) (H2 : Hid (∀ W, Calls Tryz.prog 16 #[.agg #[.int .i64 l, .int .i64 t]] W (Says true W))) (hq : eqT k s l t = true) : Calls Tryz.prog 13 #[.agg #[.int .i64 k, .int .i64 s], .agg #[.int .i64 l, .int .i64 t]] w (TypB ((k, s), true) w) := by
  have W0 := Lib.hid (Ty3.new w k s l t 26)
  have heq := typ_eql k s l t
  rw [hq] at heq
  clear hq
  go_enter Tryz.func13, Tryz.ntmps13
  go_wp2_with fail
  refine (H1.out _).mono ?_
  rintro e w1 ⟨rfl, hb⟩
  have W1 := Lib.hid (W0.out.keep hb)
  clear hb W0 H1
  have e0 := W1.out.a.c0; have e1 := W1.out.a.c1; have f0 := W1.out.b.c0; have f1 := W1.out.b.c1
  go_wp2_with fail
  refine (H2.out _).mono ?_
  rintro e w2 ⟨rfl, hb⟩
  have W2 := Lib.hid (W1.out.keep hb)
  clear hb W1 H2 e0 e1 f0 f1
  have e0 := W2.out.a.c0; have e1 := W2.out.a.c1; have f0 := W2.out.b.c0; have f1 := W2.out.b.c1
  have r0 := W2.out.r.c0; have r1 := W2.out.r.c1; have rf := W2.out.rf; have rl := W2.out.r.lt
  go_wp2
  refine bodyPost_ret (v := .tuple #[.agg #[.int .i64 k, .int .i64 s], .bool true]) (by simp [results, Tryz.results13, go_sem, r0, r1]) rfl (TypB.mk rfl ?_)
  exact set2 W2.out.bel (by omega) _ _

set_option maxRecDepth 100000 in
set_option maxHeartbeats 4000000 in
theorem ft_nn (k s l t : Int) (w : World) (H1 : Hid (∀ W, Calls Tryz.prog 16 #[.agg #[.int .i64 k, .int .i64 s]] W (Says true W))) (H2 : Hid (∀ W, Calls Tryz.prog 16 #[.agg #[.int .i64 l, .int .i64 t]] W (Says true W))) (hq : eqT k s l t = false) (HI : Hid (∀ W, Calls Tryz.prog 28 #[.agg #[.int .i64 k, .int .i64 s]] W (Says false W))) : Calls Tryz.prog 13 #[.agg #[.int .i64 k, .int .i64 s], .agg #[.int .i64 l, .int .i64 t]] w (TypB ((0, 0), false) w) := by
  have W0 := Lib.hid (Ty3.new w k s l t 26)
  have heq := typ_eql k s l t
  rw [hq] at heq
  clear hq
  go_enter Tryz.func13, Tryz.ntmps13
  go_wp2_with fail
  refine (H1.out _).mono ?_
  rintro e w1 ⟨rfl, hb⟩
  have W1 := Lib.hid (W0.out.keep hb)
  clear hb W0 H1
  have e0 := W1.out.a.c0; have e1 := W1.out.a.c1; have f0 := W1.out.b.c0; have f1 := W1.out.b.c1
  go_wp2_with fail
  refine (H2.out _).mono ?_
  rintro e w2 ⟨rfl, hb⟩
  have W2 := Lib.hid (W1.out.keep hb)
  clear hb W1 H2 e0 e1 f0 f1
  have e0 := W2.out.a.c0; have e1 := W2.out.a.c1; have f0 := W2.out.b.c0; have f1 := W2.out.b.c1
  go_wp2_with fail
  refine (HI.out _).mono ?_
  rintro e w3 ⟨rfl, hb⟩
  have W3 := Lib.hid (W2.out.keep hb)
  clear hb W2 HI e0 e1 f0 f1
  have e0 := W3.out.a.c0; have e1 := W3.out.a.c1; have f0 := W3.out.b.c0; have f1 := W3.out.b.c1
  have r0 := W3.out.r.c0; have r1 := W3.out.r.c1; have rf := W3.out.rf; have rl := W3.out.r.lt
  go_wp2
  refine bodyPost_ret (v := .tuple #[.agg #[.int .i64 0, .int .i64 0], .bool false]) (by simp [results, Tryz.results13, go_sem, r0, r1]) rfl (TypB.mk rfl ?_)
  exact set2 W3.out.bel (by omega) _ _

set_option maxRecDepth 100000 in
set_option maxHeartbeats 4000000 in
theorem ft_nb (k s l t : Int) (w : World) (H1 : Hid (∀ W, Calls Tryz.prog 16 #[.agg #[.int .i64 k, .int .i64 s]] W (Says true W))) (H2 : Hid (∀ W, Calls Tryz.prog 16 #[.agg #[.int .i64 l, .int .i64 t]] W (Says true W))) (hq : eqT k s l t = false) (HI : Hid (∀ W, Calls Tryz.prog 28 #[.agg #[.int .i64 k, .int .i64 s]] W (Says true W))) (HJ : Hid (∀ W, Calls Tryz.prog 28 #[.agg #[.int .i64 l, .int .i64 t]] W (Says false W))) : Calls Tryz.prog 13 #[.agg #[.int .i64 k, .int .i64 s], .agg #[.int .i64 l, .int .i64 t]] w (TypB ((0, 0), false) w) := by
  have W0 := Lib.hid (Ty3.new w k s l t 26)
  have heq := typ_eql k s l t
  rw [hq] at heq
  clear hq
  go_enter Tryz.func13, Tryz.ntmps13
  go_wp2_with fail
  refine (H1.out _).mono ?_
  rintro e w1 ⟨rfl, hb⟩
  have W1 := Lib.hid (W0.out.keep hb)
  clear hb W0 H1
  have e0 := W1.out.a.c0; have e1 := W1.out.a.c1; have f0 := W1.out.b.c0; have f1 := W1.out.b.c1
  go_wp2_with fail
  refine (H2.out _).mono ?_
  rintro e w2 ⟨rfl, hb⟩
  have W2 := Lib.hid (W1.out.keep hb)
  clear hb W1 H2 e0 e1 f0 f1
  have e0 := W2.out.a.c0; have e1 := W2.out.a.c1; have f0 := W2.out.b.c0; have f1 := W2.out.b.c1
  go_wp2_with fail
  refine (HI.out _).mono ?_
  rintro e w3 ⟨rfl, hb⟩
  have W3 := Lib.hid (W2.out.keep hb)
  clear hb W2 HI e0 e1 f0 f1
  have e0 := W3.out.a.c0; have e1 := W3.out.a.c1; have f0 := W3.out.b.c0; have f1 := W3.out.b.c1
  go_wp2_with fail
  refine (HJ.out _).mono ?_
  rintro e w4 ⟨rfl, hb⟩
  have W4 := Lib.hid (W3.out.keep hb)
  clear hb W3 HJ e0 e1 f0 f1
  have e0 := W4.out.a.c0; have e1 := W4.out.a.c1; have f0 := W4.out.b.c0; have f1 := W4.out.b.c1
  have r0 := W4.out.r.c0; have r1 := W4.out.r.c1; have rf := W4.out.rf; have rl := W4.out.r.lt
  go_wp2
  refine bodyPost_ret (v := .tuple #[.agg #[.int .i64 0, .int .i64 0], .bool false]) (by simp [results, Tryz.results13, go_sem, r0, r1]) rfl (TypB.mk rfl ?_)
  exact set2 W4.out.bel (by omega) _ _

set_option maxRecDepth 100000 in
set_option maxHeartbeats 4000000 in
theorem ft_ok (k s l t : Int) (w : World) (H1 : Hid (∀ W, Calls Tryz.prog 16 #[.agg #[.int .i64 k, .int .i64 s]] W (Says true W))) (H2 : Hid (∀ W, Calls Tryz.prog 16 #[.agg #[.int .i64 l, .int .i64 t]] W (Says true W))) (hq : eqT k s l t = false) (HI : Hid (∀ W, Calls Tryz.prog 28 #[.agg #[.int .i64 k, .int .i64 s]] W (Says true W))) (HJ : Hid (∀ W, Calls Tryz.prog 28 #[.agg #[.int .i64 l, .int .i64 t]] W (Says true W))) (M : Int) (hM : (if t > s then t else s) = M) : Calls Tryz.prog 13 #[.agg #[.int .i64 k, .int .i64 s], .agg #[.int .i64 l, .int .i64 t]] w (TypB ((3, M), true) w) := by
  have W0 := Lib.hid (Ty3.new w k s l t 26)
  have heq := typ_eql k s l t
  rw [hq] at heq
  clear hq
  have hmx := max2 s t M hM
  clear hM
  go_enter Tryz.func13, Tryz.ntmps13
  go_wp2_with fail
  refine (H1.out _).mono ?_
  rintro e w1 ⟨rfl, hb⟩
  have W1 := Lib.hid (W0.out.keep hb)
  clear hb W0 H1
  have e0 := W1.out.a.c0; have e1 := W1.out.a.c1; have f0 := W1.out.b.c0; have f1 := W1.out.b.c1
  go_wp2_with fail
  refine (H2.out _).mono ?_
  rintro e w2 ⟨rfl, hb⟩
  have W2 := Lib.hid (W1.out.keep hb)
  clear hb W1 H2 e0 e1 f0 f1
  have e0 := W2.out.a.c0; have e1 := W2.out.a.c1; have f0 := W2.out.b.c0; have f1 := W2.out.b.c1
  go_wp2_with fail
  refine (HI.out _).mono ?_
  rintro e w3 ⟨rfl, hb⟩
  have W3 := Lib.hid (W2.out.keep hb)
  clear hb W2 HI e0 e1 f0 f1
  have e0 := W3.out.a.c0; have e1 := W3.out.a.c1; have f0 := W3.out.b.c0; have f1 := W3.out.b.c1
  go_wp2_with fail
  refine (HJ.out _).mono ?_
  rintro e w4 ⟨rfl, hb⟩
  have W4 := Lib.hid (W3.out.keep hb)
  clear hb W3 HJ e0 e1 f0 f1
  have e0 := W4.out.a.c0; have e1 := W4.out.a.c1; have f0 := W4.out.b.c0; have f1 := W4.out.b.c1
  have r0 := W4.out.r.c0; have r1 := W4.out.r.c1; have rf := W4.out.rf; have rl := W4.out.r.lt
  go_wp2
  refine bodyPost_ret (v := .tuple #[.agg #[.int .i64 3, .int .i64 M], .bool true]) (by simp [results, Tryz.results13, go_sem, r0, r1]) rfl (TypB.mk rfl ?_)
  exact set2 W4.out.bel (by omega) _ _

theorem cast_fits (k s l t : Int) (w : World) : Calls Tryz.prog 13 #[.agg #[.int .i64 k, .int .i64 s], .agg #[.int .i64 l, .int .i64 t]] w (TypB (Vm.fits k s l t) w) := by
  have H1 := Lib.hid (val_rtype k s)
  have H2 := Lib.hid (val_rtype l t)
  cases h1 : Vm.typeB k s
  · have e : Vm.fits k s l t = ((0, 0), false) := by unfold Vm.fits; rw [h1]; rfl
    rw [e]
    rw [h1] at H1
    exact ft_no1 k s l t w H1
  rw [h1] at H1
  cases h2 : Vm.typeB l t
  · have e : Vm.fits k s l t = ((0, 0), false) := by unfold Vm.fits; rw [h1, h2]; rfl
    rw [e]
    rw [h2] at H2
    exact ft_no2 k s l t w H1 H2
  rw [h2] at H2
  have HS : Vm.fits k s l t = if k = l ∧ s = t then ((k, s), true) else if Vm.isNum k && Vm.isNum l then ((3, max s t), true) else ((0, 0), false) := by
    unfold Vm.fits; rw [h1, h2]; rfl
  by_cases he : k = l ∧ s = t
  · rw [HS, if_pos he]
    exact ft_eq k s l t w H1 H2 (by rw [eqT_iff]; simpa using he)
  have hq : eqT k s l t = false := by rw [eqT_iff]; simpa using he
  rw [HS, if_neg he]
  have HI : Hid (∀ W, Calls Tryz.prog 28 #[.agg #[.int .i64 k, .int .i64 s]] W (Says (Vm.isNum k) W)) := fun W => cast_isnum k s W
  have HJ : Hid (∀ W, Calls Tryz.prog 28 #[.agg #[.int .i64 l, .int .i64 t]] W (Says (Vm.isNum l) W)) := fun W => cast_isnum l t W
  cases hi : Vm.isNum k
  · rw [if_neg (by simp)]
    rw [hi] at HI
    exact ft_nn k s l t w H1 H2 hq HI
  rw [hi] at HI
  cases hj : Vm.isNum l
  · rw [if_neg (by simp)]
    rw [hj] at HJ
    exact ft_nb k s l t w H1 H2 hq HI HJ
  rw [hj] at HJ
  rw [if_pos (by rfl)]
  have hM : (if t > s then t else s) = max s t := by rw [Int.max_def]; split <;> split <;> omega
  exact ft_ok k s l t w H1 H2 hq HI HJ _ hM
end Go.Proofs.YtfnnhhhkdfgefaaGreatDoor
