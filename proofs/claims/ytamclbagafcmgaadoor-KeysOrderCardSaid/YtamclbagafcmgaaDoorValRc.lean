/- The reference of layer 3: Compare. -/
import Derived.Test.YtamclbagafcmgaaDoorValR5
import Derived.Test.YtamclbagafcmgaaDoorValRb
namespace Go.Proofs.YtamclbagafcmgaaDoor
open Go.RowKit

/-- what a function that answers a number and a truth leaves -/
def NumB (p : Int × Bool) (w : World) (e : Ending) (w' : World) : Prop := e = .returned (.tuple #[.int .i64 p.1, .bool p.2]) ∧ Below w.heap.size w w'
theorem NumB.mk {a : Int} {b : Bool} {p : Int × Bool} {w w' : World} (h : p = (a, b)) (hb : Below w.heap.size w w') : NumB p w (.returned (.tuple #[.int .i64 a, .bool b])) w' := ⟨by rw [h], hb⟩
theorem plain_len {c : Vm.Cl} (h : c.s.size ≤ maxLen) : (Vm.plain c).s.size ≤ maxLen := by
  unfold Vm.plain; split
  · exact h
  · exact Nat.zero_le _
set_option maxHeartbeats 1000000 in
theorem cmp_00 (xk xn xc yk yn yc : Int) (xs ys : ByteArray) (an ac bk bn bc : Int) (as' bs : ByteArray) (w : World) (p : Int × Bool)
    (HA : Hid (∀ W, Calls Tryd.prog 11 #[.agg #[.int .i64 xk, .int .i64 xn, .int .i64 xc, .string xs]] W (Val ⟨0, an, ac, as'⟩ W)))
    (HC : Hid (∀ W, Calls Tryd.prog 11 #[.agg #[.int .i64 yk, .int .i64 yn, .int .i64 yc, .string ys]] W (Val ⟨bk, bn, bc, bs⟩ W))) (HP : Hid (p = (0, false))) :
    Calls Tryd.prog 29 #[.agg #[.int .i64 xk, .int .i64 xn, .int .i64 xc, .string xs], .agg #[.int .i64 yk, .int .i64 yn, .int .i64 yc, .string ys]] w (NumB p w) := by
  have V0 := Lib.hid (((Bx.new w xk xn xc xs 29).alloc (.cells #[.int .i64 yk, .int .i64 yn, .int .i64 yc, .string ys] 29)))
  have U0 : Hid (Bx (w.heap.size + 1) yk yn yc ys ((w.alloc (.cells #[.int .i64 xk, .int .i64 xn, .int .i64 xc, .string xs] 29)).alloc (.cells #[.int .i64 yk, .int .i64 yn, .int .i64 yc, .string ys] 29))) := by
    have h := Bx.new (w.alloc (.cells #[.int .i64 xk, .int .i64 xn, .int .i64 xc, .string xs] 29)) yk yn yc ys 29
    rw [show (w.alloc (.cells #[.int .i64 xk, .int .i64 xn, .int .i64 xc, .string xs] 29)).heap.size = w.heap.size + 1 by simp] at h
    exact h
  go_enter Tryd.func29, Tryd.ntmps29
  go_wp2_with fail
  refine (HA.out _).mono ?_
  rintro e w1 ⟨rfl, hb⟩
  have HB1 := Lib.hid ((two w _ _).trans (hb.mono (by simp; omega)))
  have U1 := Lib.hid (U0.out.keep hb)
  have d0 := U1.out.c0; have d1 := U1.out.c1; have d2 := U1.out.c2; have d3 := U1.out.c3
  have l1 := U1.out.lt
  clear hb HA V0 U0
  dsimp only
  go_wp2_with fail
  refine (HC.out _).mono ?_
  rintro e w2 ⟨rfl, hb⟩
  have HB2 := Lib.hid ((HB1.out.alloc HB1.out.size _).trans (hb.mono (by simp; have := HB1.out.size; omega)))
  have A2 := Lib.hid ((Bx.new w1 0 an ac as' 29).keep hb)
  have A3 := Lib.hid (A2.out.alloc (.cells #[.int .i64 bk, .int .i64 bn, .int .i64 bc, .string bs] 29))
  have B3 := Lib.hid (Bx.new w2 bk bn bc bs 29)
  have HB3 := Lib.hid (HB2.out.alloc HB2.out.size (.cells #[.int .i64 bk, .int .i64 bn, .int .i64 bc, .string bs] 29))
  have a0 := A2.out.c0; have a1 := A2.out.c1; have a2 := A2.out.c2; have a3 := A2.out.c3; have al := A2.out.lt
  clear hb HC HB1 HB2 U1 d0 d1 d2 d3 l1 A2
  dsimp only
  go_wp2
  go_ret2
  exact NumB.mk HP.out HB3.out
set_option maxHeartbeats 1000000 in
theorem cmp_1no (xk xn xc yk yn yc : Int) (xs ys : ByteArray) (an ac bk bn bc : Int) (as' bs : ByteArray) (w : World) (p : Int × Bool)
    (HA : Hid (∀ W, Calls Tryd.prog 11 #[.agg #[.int .i64 xk, .int .i64 xn, .int .i64 xc, .string xs]] W (Val ⟨1, an, ac, as'⟩ W)))
    (HC : Hid (∀ W, Calls Tryd.prog 11 #[.agg #[.int .i64 yk, .int .i64 yn, .int .i64 yc, .string ys]] W (Val ⟨bk, bn, bc, bs⟩ W))) (HP : Hid (p = (0, false))) (q : ((1 : Int) != bk) = true) :
    Calls Tryd.prog 29 #[.agg #[.int .i64 xk, .int .i64 xn, .int .i64 xc, .string xs], .agg #[.int .i64 yk, .int .i64 yn, .int .i64 yc, .string ys]] w (NumB p w) := by
  have V0 := Lib.hid (((Bx.new w xk xn xc xs 29).alloc (.cells #[.int .i64 yk, .int .i64 yn, .int .i64 yc, .string ys] 29)))
  have U0 : Hid (Bx (w.heap.size + 1) yk yn yc ys ((w.alloc (.cells #[.int .i64 xk, .int .i64 xn, .int .i64 xc, .string xs] 29)).alloc (.cells #[.int .i64 yk, .int .i64 yn, .int .i64 yc, .string ys] 29))) := by
    have h := Bx.new (w.alloc (.cells #[.int .i64 xk, .int .i64 xn, .int .i64 xc, .string xs] 29)) yk yn yc ys 29
    rw [show (w.alloc (.cells #[.int .i64 xk, .int .i64 xn, .int .i64 xc, .string xs] 29)).heap.size = w.heap.size + 1 by simp] at h
    exact h
  go_enter Tryd.func29, Tryd.ntmps29
  go_wp2_with fail
  refine (HA.out _).mono ?_
  rintro e w1 ⟨rfl, hb⟩
  have HB1 := Lib.hid ((two w _ _).trans (hb.mono (by simp; omega)))
  have U1 := Lib.hid (U0.out.keep hb)
  have d0 := U1.out.c0; have d1 := U1.out.c1; have d2 := U1.out.c2; have d3 := U1.out.c3
  have l1 := U1.out.lt
  clear hb HA V0 U0
  dsimp only
  go_wp2_with fail
  refine (HC.out _).mono ?_
  rintro e w2 ⟨rfl, hb⟩
  have HB2 := Lib.hid ((HB1.out.alloc HB1.out.size _).trans (hb.mono (by simp; have := HB1.out.size; omega)))
  have A2 := Lib.hid ((Bx.new w1 1 an ac as' 29).keep hb)
  have A3 := Lib.hid (A2.out.alloc (.cells #[.int .i64 bk, .int .i64 bn, .int .i64 bc, .string bs] 29))
  have B3 := Lib.hid (Bx.new w2 bk bn bc bs 29)
  have HB3 := Lib.hid (HB2.out.alloc HB2.out.size (.cells #[.int .i64 bk, .int .i64 bn, .int .i64 bc, .string bs] 29))
  have a0 := A2.out.c0; have a1 := A2.out.c1; have a2 := A2.out.c2; have a3 := A2.out.c3; have al := A2.out.lt
  clear hb HC HB1 HB2 U1 d0 d1 d2 d3 l1 A2
  dsimp only
  go_wp2
  go_ret2
  exact NumB.mk HP.out HB3.out
set_option maxHeartbeats 1000000 in
theorem cmp_4no (xk xn xc yk yn yc : Int) (xs ys : ByteArray) (an ac bk bn bc : Int) (as' bs : ByteArray) (w : World) (p : Int × Bool)
    (HA : Hid (∀ W, Calls Tryd.prog 11 #[.agg #[.int .i64 xk, .int .i64 xn, .int .i64 xc, .string xs]] W (Val ⟨4, an, ac, as'⟩ W)))
    (HC : Hid (∀ W, Calls Tryd.prog 11 #[.agg #[.int .i64 yk, .int .i64 yn, .int .i64 yc, .string ys]] W (Val ⟨bk, bn, bc, bs⟩ W))) (HP : Hid (p = (0, false))) (q : ((4 : Int) != bk) = true) :
    Calls Tryd.prog 29 #[.agg #[.int .i64 xk, .int .i64 xn, .int .i64 xc, .string xs], .agg #[.int .i64 yk, .int .i64 yn, .int .i64 yc, .string ys]] w (NumB p w) := by
  have V0 := Lib.hid (((Bx.new w xk xn xc xs 29).alloc (.cells #[.int .i64 yk, .int .i64 yn, .int .i64 yc, .string ys] 29)))
  have U0 : Hid (Bx (w.heap.size + 1) yk yn yc ys ((w.alloc (.cells #[.int .i64 xk, .int .i64 xn, .int .i64 xc, .string xs] 29)).alloc (.cells #[.int .i64 yk, .int .i64 yn, .int .i64 yc, .string ys] 29))) := by
    have h := Bx.new (w.alloc (.cells #[.int .i64 xk, .int .i64 xn, .int .i64 xc, .string xs] 29)) yk yn yc ys 29
    rw [show (w.alloc (.cells #[.int .i64 xk, .int .i64 xn, .int .i64 xc, .string xs] 29)).heap.size = w.heap.size + 1 by simp] at h
    exact h
  go_enter Tryd.func29, Tryd.ntmps29
  go_wp2_with fail
  refine (HA.out _).mono ?_
  rintro e w1 ⟨rfl, hb⟩
  have HB1 := Lib.hid ((two w _ _).trans (hb.mono (by simp; omega)))
  have U1 := Lib.hid (U0.out.keep hb)
  have d0 := U1.out.c0; have d1 := U1.out.c1; have d2 := U1.out.c2; have d3 := U1.out.c3
  have l1 := U1.out.lt
  clear hb HA V0 U0
  dsimp only
  go_wp2_with fail
  refine (HC.out _).mono ?_
  rintro e w2 ⟨rfl, hb⟩
  have HB2 := Lib.hid ((HB1.out.alloc HB1.out.size _).trans (hb.mono (by simp; have := HB1.out.size; omega)))
  have A2 := Lib.hid ((Bx.new w1 4 an ac as' 29).keep hb)
  have A3 := Lib.hid (A2.out.alloc (.cells #[.int .i64 bk, .int .i64 bn, .int .i64 bc, .string bs] 29))
  have B3 := Lib.hid (Bx.new w2 bk bn bc bs 29)
  have HB3 := Lib.hid (HB2.out.alloc HB2.out.size (.cells #[.int .i64 bk, .int .i64 bn, .int .i64 bc, .string bs] 29))
  have a0 := A2.out.c0; have a1 := A2.out.c1; have a2 := A2.out.c2; have a3 := A2.out.c3; have al := A2.out.lt
  clear hb HC HB1 HB2 U1 d0 d1 d2 d3 l1 A2
  dsimp only
  go_wp2
  go_ret2
  exact NumB.mk HP.out HB3.out
set_option maxHeartbeats 1000000 in
theorem cmp_5no (xk xn xc yk yn yc : Int) (xs ys : ByteArray) (an ac bk bn bc : Int) (as' bs : ByteArray) (w : World) (p : Int × Bool)
    (HA : Hid (∀ W, Calls Tryd.prog 11 #[.agg #[.int .i64 xk, .int .i64 xn, .int .i64 xc, .string xs]] W (Val ⟨5, an, ac, as'⟩ W)))
    (HC : Hid (∀ W, Calls Tryd.prog 11 #[.agg #[.int .i64 yk, .int .i64 yn, .int .i64 yc, .string ys]] W (Val ⟨bk, bn, bc, bs⟩ W))) (HP : Hid (p = (0, false))) (q : ((5 : Int) != bk) = true) :
    Calls Tryd.prog 29 #[.agg #[.int .i64 xk, .int .i64 xn, .int .i64 xc, .string xs], .agg #[.int .i64 yk, .int .i64 yn, .int .i64 yc, .string ys]] w (NumB p w) := by
  have V0 := Lib.hid (((Bx.new w xk xn xc xs 29).alloc (.cells #[.int .i64 yk, .int .i64 yn, .int .i64 yc, .string ys] 29)))
  have U0 : Hid (Bx (w.heap.size + 1) yk yn yc ys ((w.alloc (.cells #[.int .i64 xk, .int .i64 xn, .int .i64 xc, .string xs] 29)).alloc (.cells #[.int .i64 yk, .int .i64 yn, .int .i64 yc, .string ys] 29))) := by
    have h := Bx.new (w.alloc (.cells #[.int .i64 xk, .int .i64 xn, .int .i64 xc, .string xs] 29)) yk yn yc ys 29
    rw [show (w.alloc (.cells #[.int .i64 xk, .int .i64 xn, .int .i64 xc, .string xs] 29)).heap.size = w.heap.size + 1 by simp] at h
    exact h
  go_enter Tryd.func29, Tryd.ntmps29
  go_wp2_with fail
  refine (HA.out _).mono ?_
  rintro e w1 ⟨rfl, hb⟩
  have HB1 := Lib.hid ((two w _ _).trans (hb.mono (by simp; omega)))
  have U1 := Lib.hid (U0.out.keep hb)
  have d0 := U1.out.c0; have d1 := U1.out.c1; have d2 := U1.out.c2; have d3 := U1.out.c3
  have l1 := U1.out.lt
  clear hb HA V0 U0
  dsimp only
  go_wp2_with fail
  refine (HC.out _).mono ?_
  rintro e w2 ⟨rfl, hb⟩
  have HB2 := Lib.hid ((HB1.out.alloc HB1.out.size _).trans (hb.mono (by simp; have := HB1.out.size; omega)))
  have A2 := Lib.hid ((Bx.new w1 5 an ac as' 29).keep hb)
  have A3 := Lib.hid (A2.out.alloc (.cells #[.int .i64 bk, .int .i64 bn, .int .i64 bc, .string bs] 29))
  have B3 := Lib.hid (Bx.new w2 bk bn bc bs 29)
  have HB3 := Lib.hid (HB2.out.alloc HB2.out.size (.cells #[.int .i64 bk, .int .i64 bn, .int .i64 bc, .string bs] 29))
  have a0 := A2.out.c0; have a1 := A2.out.c1; have a2 := A2.out.c2; have a3 := A2.out.c3; have al := A2.out.lt
  clear hb HC HB1 HB2 U1 d0 d1 d2 d3 l1 A2
  dsimp only
  go_wp2
  go_ret2
  exact NumB.mk HP.out HB3.out
set_option maxHeartbeats 1000000 in
theorem cmp_2no (xk xn xc yk yn yc : Int) (xs ys : ByteArray) (an ac bk bn bc : Int) (as' bs : ByteArray) (w : World) (p : Int × Bool)
    (HA : Hid (∀ W, Calls Tryd.prog 11 #[.agg #[.int .i64 xk, .int .i64 xn, .int .i64 xc, .string xs]] W (Val ⟨2, an, ac, as'⟩ W)))
    (HC : Hid (∀ W, Calls Tryd.prog 11 #[.agg #[.int .i64 yk, .int .i64 yn, .int .i64 yc, .string ys]] W (Val ⟨bk, bn, bc, bs⟩ W))) (HP : Hid (p = (0, false))) (q2 : (bk == 2) = false) (q3 : (bk == 3) = false) (q : ((2 : Int) != bk) = true) :
    Calls Tryd.prog 29 #[.agg #[.int .i64 xk, .int .i64 xn, .int .i64 xc, .string xs], .agg #[.int .i64 yk, .int .i64 yn, .int .i64 yc, .string ys]] w (NumB p w) := by
  have V0 := Lib.hid (((Bx.new w xk xn xc xs 29).alloc (.cells #[.int .i64 yk, .int .i64 yn, .int .i64 yc, .string ys] 29)))
  have U0 : Hid (Bx (w.heap.size + 1) yk yn yc ys ((w.alloc (.cells #[.int .i64 xk, .int .i64 xn, .int .i64 xc, .string xs] 29)).alloc (.cells #[.int .i64 yk, .int .i64 yn, .int .i64 yc, .string ys] 29))) := by
    have h := Bx.new (w.alloc (.cells #[.int .i64 xk, .int .i64 xn, .int .i64 xc, .string xs] 29)) yk yn yc ys 29
    rw [show (w.alloc (.cells #[.int .i64 xk, .int .i64 xn, .int .i64 xc, .string xs] 29)).heap.size = w.heap.size + 1 by simp] at h
    exact h
  go_enter Tryd.func29, Tryd.ntmps29
  go_wp2_with fail
  refine (HA.out _).mono ?_
  rintro e w1 ⟨rfl, hb⟩
  have HB1 := Lib.hid ((two w _ _).trans (hb.mono (by simp; omega)))
  have U1 := Lib.hid (U0.out.keep hb)
  have d0 := U1.out.c0; have d1 := U1.out.c1; have d2 := U1.out.c2; have d3 := U1.out.c3
  have l1 := U1.out.lt
  clear hb HA V0 U0
  dsimp only
  go_wp2_with fail
  refine (HC.out _).mono ?_
  rintro e w2 ⟨rfl, hb⟩
  have HB2 := Lib.hid ((HB1.out.alloc HB1.out.size _).trans (hb.mono (by simp; have := HB1.out.size; omega)))
  have A2 := Lib.hid ((Bx.new w1 2 an ac as' 29).keep hb)
  have A3 := Lib.hid (A2.out.alloc (.cells #[.int .i64 bk, .int .i64 bn, .int .i64 bc, .string bs] 29))
  have B3 := Lib.hid (Bx.new w2 bk bn bc bs 29)
  have HB3 := Lib.hid (HB2.out.alloc HB2.out.size (.cells #[.int .i64 bk, .int .i64 bn, .int .i64 bc, .string bs] 29))
  have a0 := A2.out.c0; have a1 := A2.out.c1; have a2 := A2.out.c2; have a3 := A2.out.c3; have al := A2.out.lt
  clear hb HC HB1 HB2 U1 d0 d1 d2 d3 l1 A2
  dsimp only
  go_wp2
  go_ret2
  exact NumB.mk HP.out HB3.out
set_option maxHeartbeats 1000000 in
theorem cmp_3no (xk xn xc yk yn yc : Int) (xs ys : ByteArray) (an ac bk bn bc : Int) (as' bs : ByteArray) (w : World) (p : Int × Bool)
    (HA : Hid (∀ W, Calls Tryd.prog 11 #[.agg #[.int .i64 xk, .int .i64 xn, .int .i64 xc, .string xs]] W (Val ⟨3, an, ac, as'⟩ W)))
    (HC : Hid (∀ W, Calls Tryd.prog 11 #[.agg #[.int .i64 yk, .int .i64 yn, .int .i64 yc, .string ys]] W (Val ⟨bk, bn, bc, bs⟩ W))) (HP : Hid (p = (0, false))) (q2 : (bk == 2) = false) (q3 : (bk == 3) = false) (q : ((3 : Int) != bk) = true) :
    Calls Tryd.prog 29 #[.agg #[.int .i64 xk, .int .i64 xn, .int .i64 xc, .string xs], .agg #[.int .i64 yk, .int .i64 yn, .int .i64 yc, .string ys]] w (NumB p w) := by
  have V0 := Lib.hid (((Bx.new w xk xn xc xs 29).alloc (.cells #[.int .i64 yk, .int .i64 yn, .int .i64 yc, .string ys] 29)))
  have U0 : Hid (Bx (w.heap.size + 1) yk yn yc ys ((w.alloc (.cells #[.int .i64 xk, .int .i64 xn, .int .i64 xc, .string xs] 29)).alloc (.cells #[.int .i64 yk, .int .i64 yn, .int .i64 yc, .string ys] 29))) := by
    have h := Bx.new (w.alloc (.cells #[.int .i64 xk, .int .i64 xn, .int .i64 xc, .string xs] 29)) yk yn yc ys 29
    rw [show (w.alloc (.cells #[.int .i64 xk, .int .i64 xn, .int .i64 xc, .string xs] 29)).heap.size = w.heap.size + 1 by simp] at h
    exact h
  go_enter Tryd.func29, Tryd.ntmps29
  go_wp2_with fail
  refine (HA.out _).mono ?_
  rintro e w1 ⟨rfl, hb⟩
  have HB1 := Lib.hid ((two w _ _).trans (hb.mono (by simp; omega)))
  have U1 := Lib.hid (U0.out.keep hb)
  have d0 := U1.out.c0; have d1 := U1.out.c1; have d2 := U1.out.c2; have d3 := U1.out.c3
  have l1 := U1.out.lt
  clear hb HA V0 U0
  dsimp only
  go_wp2_with fail
  refine (HC.out _).mono ?_
  rintro e w2 ⟨rfl, hb⟩
  have HB2 := Lib.hid ((HB1.out.alloc HB1.out.size _).trans (hb.mono (by simp; have := HB1.out.size; omega)))
  have A2 := Lib.hid ((Bx.new w1 3 an ac as' 29).keep hb)
  have A3 := Lib.hid (A2.out.alloc (.cells #[.int .i64 bk, .int .i64 bn, .int .i64 bc, .string bs] 29))
  have B3 := Lib.hid (Bx.new w2 bk bn bc bs 29)
  have HB3 := Lib.hid (HB2.out.alloc HB2.out.size (.cells #[.int .i64 bk, .int .i64 bn, .int .i64 bc, .string bs] 29))
  have a0 := A2.out.c0; have a1 := A2.out.c1; have a2 := A2.out.c2; have a3 := A2.out.c3; have al := A2.out.lt
  clear hb HC HB1 HB2 U1 d0 d1 d2 d3 l1 A2
  dsimp only
  go_wp2
  go_ret2
  exact NumB.mk HP.out HB3.out
set_option maxHeartbeats 1000000 in
theorem cmp_11 (xk xn xc yk yn yc : Int) (xs ys : ByteArray) (an ac bn bc : Int) (as' bs : ByteArray) (w : World) (p : Int × Bool)
    (HA : Hid (∀ W, Calls Tryd.prog 11 #[.agg #[.int .i64 xk, .int .i64 xn, .int .i64 xc, .string xs]] W (Val ⟨1, an, ac, as'⟩ W)))
    (HC : Hid (∀ W, Calls Tryd.prog 11 #[.agg #[.int .i64 yk, .int .i64 yn, .int .i64 yc, .string ys]] W (Val ⟨1, bn, bc, bs⟩ W))) (HP : Hid (p = (Lib.compareInt an bn, true))) :
    Calls Tryd.prog 29 #[.agg #[.int .i64 xk, .int .i64 xn, .int .i64 xc, .string xs], .agg #[.int .i64 yk, .int .i64 yn, .int .i64 yc, .string ys]] w (NumB p w) := by
  have V0 := Lib.hid (((Bx.new w xk xn xc xs 29).alloc (.cells #[.int .i64 yk, .int .i64 yn, .int .i64 yc, .string ys] 29)))
  have U0 : Hid (Bx (w.heap.size + 1) yk yn yc ys ((w.alloc (.cells #[.int .i64 xk, .int .i64 xn, .int .i64 xc, .string xs] 29)).alloc (.cells #[.int .i64 yk, .int .i64 yn, .int .i64 yc, .string ys] 29))) := by
    have h := Bx.new (w.alloc (.cells #[.int .i64 xk, .int .i64 xn, .int .i64 xc, .string xs] 29)) yk yn yc ys 29
    rw [show (w.alloc (.cells #[.int .i64 xk, .int .i64 xn, .int .i64 xc, .string xs] 29)).heap.size = w.heap.size + 1 by simp] at h
    exact h
  go_enter Tryd.func29, Tryd.ntmps29
  go_wp2_with fail
  refine (HA.out _).mono ?_
  rintro e w1 ⟨rfl, hb⟩
  have HB1 := Lib.hid ((two w _ _).trans (hb.mono (by simp; omega)))
  have U1 := Lib.hid (U0.out.keep hb)
  have d0 := U1.out.c0; have d1 := U1.out.c1; have d2 := U1.out.c2; have d3 := U1.out.c3
  have l1 := U1.out.lt
  clear hb HA V0 U0
  dsimp only
  go_wp2_with fail
  refine (HC.out _).mono ?_
  rintro e w2 ⟨rfl, hb⟩
  have HB2 := Lib.hid ((HB1.out.alloc HB1.out.size _).trans (hb.mono (by simp; have := HB1.out.size; omega)))
  have A2 := Lib.hid ((Bx.new w1 1 an ac as' 29).keep hb)
  have A3 := Lib.hid (A2.out.alloc (.cells #[.int .i64 1, .int .i64 bn, .int .i64 bc, .string bs] 29))
  have B3 := Lib.hid (Bx.new w2 1 bn bc bs 29)
  have HB3 := Lib.hid (HB2.out.alloc HB2.out.size (.cells #[.int .i64 1, .int .i64 bn, .int .i64 bc, .string bs] 29))
  have a0 := A2.out.c0; have a1 := A2.out.c1; have a2 := A2.out.c2; have a3 := A2.out.c3; have al := A2.out.lt
  clear hb HC HB1 HB2 U1 d0 d1 d2 d3 l1 A2
  dsimp only
  go_wp2_with fail
  refine (ref3_numbers an bn _).mono ?_
  rintro e w3 ⟨rfl, rfl⟩
  go_wp2
  go_ret2
  exact NumB.mk HP.out HB3.out
set_option maxHeartbeats 1000000 in
theorem cmp_44 (xk xn xc yk yn yc : Int) (xs ys : ByteArray) (an ac bn bc : Int) (as' bs : ByteArray) (w : World) (p : Int × Bool)
    (HA : Hid (∀ W, Calls Tryd.prog 11 #[.agg #[.int .i64 xk, .int .i64 xn, .int .i64 xc, .string xs]] W (Val ⟨4, an, ac, as'⟩ W)))
    (HC : Hid (∀ W, Calls Tryd.prog 11 #[.agg #[.int .i64 yk, .int .i64 yn, .int .i64 yc, .string ys]] W (Val ⟨4, bn, bc, bs⟩ W))) (HP : Hid (p = (Lib.compareBytes as'.data.toList bs.data.toList, true))) (h1 : Hid (as'.size ≤ maxLen)) (h2 : Hid (bs.size ≤ maxLen)) :
    Calls Tryd.prog 29 #[.agg #[.int .i64 xk, .int .i64 xn, .int .i64 xc, .string xs], .agg #[.int .i64 yk, .int .i64 yn, .int .i64 yc, .string ys]] w (NumB p w) := by
  have V0 := Lib.hid (((Bx.new w xk xn xc xs 29).alloc (.cells #[.int .i64 yk, .int .i64 yn, .int .i64 yc, .string ys] 29)))
  have U0 : Hid (Bx (w.heap.size + 1) yk yn yc ys ((w.alloc (.cells #[.int .i64 xk, .int .i64 xn, .int .i64 xc, .string xs] 29)).alloc (.cells #[.int .i64 yk, .int .i64 yn, .int .i64 yc, .string ys] 29))) := by
    have h := Bx.new (w.alloc (.cells #[.int .i64 xk, .int .i64 xn, .int .i64 xc, .string xs] 29)) yk yn yc ys 29
    rw [show (w.alloc (.cells #[.int .i64 xk, .int .i64 xn, .int .i64 xc, .string xs] 29)).heap.size = w.heap.size + 1 by simp] at h
    exact h
  go_enter Tryd.func29, Tryd.ntmps29
  go_wp2_with fail
  refine (HA.out _).mono ?_
  rintro e w1 ⟨rfl, hb⟩
  have HB1 := Lib.hid ((two w _ _).trans (hb.mono (by simp; omega)))
  have U1 := Lib.hid (U0.out.keep hb)
  have d0 := U1.out.c0; have d1 := U1.out.c1; have d2 := U1.out.c2; have d3 := U1.out.c3
  have l1 := U1.out.lt
  clear hb HA V0 U0
  dsimp only
  go_wp2_with fail
  refine (HC.out _).mono ?_
  rintro e w2 ⟨rfl, hb⟩
  have HB2 := Lib.hid ((HB1.out.alloc HB1.out.size _).trans (hb.mono (by simp; have := HB1.out.size; omega)))
  have A2 := Lib.hid ((Bx.new w1 4 an ac as' 29).keep hb)
  have A3 := Lib.hid (A2.out.alloc (.cells #[.int .i64 4, .int .i64 bn, .int .i64 bc, .string bs] 29))
  have B3 := Lib.hid (Bx.new w2 4 bn bc bs 29)
  have HB3 := Lib.hid (HB2.out.alloc HB2.out.size (.cells #[.int .i64 4, .int .i64 bn, .int .i64 bc, .string bs] 29))
  have a0 := A2.out.c0; have a1 := A2.out.c1; have a2 := A2.out.c2; have a3 := A2.out.c3; have al := A2.out.lt
  clear hb HC HB1 HB2 U1 d0 d1 d2 d3 l1 A2
  dsimp only
  go_wp2_with fail
  refine (ref3_texts as' bs _ h1.out h2.out).mono ?_
  rintro e w3 ⟨rfl, hb⟩
  have HB4 := Lib.hid (HB3.out.trans (hb.mono HB3.out.size))
  clear hb
  go_wp2
  go_ret2
  exact NumB.mk HP.out HB4.out
set_option maxHeartbeats 1000000 in
theorem cmp_55 (xk xn xc yk yn yc : Int) (xs ys : ByteArray) (an ac bn bc : Int) (as' bs : ByteArray) (w : World) (p : Int × Bool)
    (HA : Hid (∀ W, Calls Tryd.prog 11 #[.agg #[.int .i64 xk, .int .i64 xn, .int .i64 xc, .string xs]] W (Val ⟨5, an, ac, as'⟩ W)))
    (HC : Hid (∀ W, Calls Tryd.prog 11 #[.agg #[.int .i64 yk, .int .i64 yn, .int .i64 yc, .string ys]] W (Val ⟨5, bn, bc, bs⟩ W))) (HP : Hid (p = (Lib.compareBytes as'.data.toList bs.data.toList, true))) (h1 : Hid (as'.size ≤ maxLen)) (h2 : Hid (bs.size ≤ maxLen)) :
    Calls Tryd.prog 29 #[.agg #[.int .i64 xk, .int .i64 xn, .int .i64 xc, .string xs], .agg #[.int .i64 yk, .int .i64 yn, .int .i64 yc, .string ys]] w (NumB p w) := by
  have V0 := Lib.hid (((Bx.new w xk xn xc xs 29).alloc (.cells #[.int .i64 yk, .int .i64 yn, .int .i64 yc, .string ys] 29)))
  have U0 : Hid (Bx (w.heap.size + 1) yk yn yc ys ((w.alloc (.cells #[.int .i64 xk, .int .i64 xn, .int .i64 xc, .string xs] 29)).alloc (.cells #[.int .i64 yk, .int .i64 yn, .int .i64 yc, .string ys] 29))) := by
    have h := Bx.new (w.alloc (.cells #[.int .i64 xk, .int .i64 xn, .int .i64 xc, .string xs] 29)) yk yn yc ys 29
    rw [show (w.alloc (.cells #[.int .i64 xk, .int .i64 xn, .int .i64 xc, .string xs] 29)).heap.size = w.heap.size + 1 by simp] at h
    exact h
  go_enter Tryd.func29, Tryd.ntmps29
  go_wp2_with fail
  refine (HA.out _).mono ?_
  rintro e w1 ⟨rfl, hb⟩
  have HB1 := Lib.hid ((two w _ _).trans (hb.mono (by simp; omega)))
  have U1 := Lib.hid (U0.out.keep hb)
  have d0 := U1.out.c0; have d1 := U1.out.c1; have d2 := U1.out.c2; have d3 := U1.out.c3
  have l1 := U1.out.lt
  clear hb HA V0 U0
  dsimp only
  go_wp2_with fail
  refine (HC.out _).mono ?_
  rintro e w2 ⟨rfl, hb⟩
  have HB2 := Lib.hid ((HB1.out.alloc HB1.out.size _).trans (hb.mono (by simp; have := HB1.out.size; omega)))
  have A2 := Lib.hid ((Bx.new w1 5 an ac as' 29).keep hb)
  have A3 := Lib.hid (A2.out.alloc (.cells #[.int .i64 5, .int .i64 bn, .int .i64 bc, .string bs] 29))
  have B3 := Lib.hid (Bx.new w2 5 bn bc bs 29)
  have HB3 := Lib.hid (HB2.out.alloc HB2.out.size (.cells #[.int .i64 5, .int .i64 bn, .int .i64 bc, .string bs] 29))
  have a0 := A2.out.c0; have a1 := A2.out.c1; have a2 := A2.out.c2; have a3 := A2.out.c3; have al := A2.out.lt
  clear hb HC HB1 HB2 U1 d0 d1 d2 d3 l1 A2
  dsimp only
  go_wp2_with fail
  refine (ref3_texts as' bs _ h1.out h2.out).mono ?_
  rintro e w3 ⟨rfl, hb⟩
  have HB4 := Lib.hid (HB3.out.trans (hb.mono HB3.out.size))
  clear hb
  go_wp2
  go_ret2
  exact NumB.mk HP.out HB4.out
set_option maxHeartbeats 1000000 in
theorem cmp_22 (xk xn xc yk yn yc : Int) (xs ys : ByteArray) (an ac bn bc : Int) (as' bs : ByteArray) (w : World) (p : Int × Bool)
    (HA : Hid (∀ W, Calls Tryd.prog 11 #[.agg #[.int .i64 xk, .int .i64 xn, .int .i64 xc, .string xs]] W (Val ⟨2, an, ac, as'⟩ W)))
    (HC : Hid (∀ W, Calls Tryd.prog 11 #[.agg #[.int .i64 yk, .int .i64 yn, .int .i64 yc, .string ys]] W (Val ⟨2, bn, bc, bs⟩ W))) (HP : Hid (p = (compM an ac bn bc, true))) (h1 : Hid (i64 an)) (h2 : Hid (i64 bn)) :
    Calls Tryd.prog 29 #[.agg #[.int .i64 xk, .int .i64 xn, .int .i64 xc, .string xs], .agg #[.int .i64 yk, .int .i64 yn, .int .i64 yc, .string ys]] w (NumB p w) := by
  have V0 := Lib.hid (((Bx.new w xk xn xc xs 29).alloc (.cells #[.int .i64 yk, .int .i64 yn, .int .i64 yc, .string ys] 29)))
  have U0 : Hid (Bx (w.heap.size + 1) yk yn yc ys ((w.alloc (.cells #[.int .i64 xk, .int .i64 xn, .int .i64 xc, .string xs] 29)).alloc (.cells #[.int .i64 yk, .int .i64 yn, .int .i64 yc, .string ys] 29))) := by
    have h := Bx.new (w.alloc (.cells #[.int .i64 xk, .int .i64 xn, .int .i64 xc, .string xs] 29)) yk yn yc ys 29
    rw [show (w.alloc (.cells #[.int .i64 xk, .int .i64 xn, .int .i64 xc, .string xs] 29)).heap.size = w.heap.size + 1 by simp] at h
    exact h
  go_enter Tryd.func29, Tryd.ntmps29
  go_wp2_with fail
  refine (HA.out _).mono ?_
  rintro e w1 ⟨rfl, hb⟩
  have HB1 := Lib.hid ((two w _ _).trans (hb.mono (by simp; omega)))
  have U1 := Lib.hid (U0.out.keep hb)
  have d0 := U1.out.c0; have d1 := U1.out.c1; have d2 := U1.out.c2; have d3 := U1.out.c3
  have l1 := U1.out.lt
  clear hb HA V0 U0
  dsimp only
  go_wp2_with fail
  refine (HC.out _).mono ?_
  rintro e w2 ⟨rfl, hb⟩
  have HB2 := Lib.hid ((HB1.out.alloc HB1.out.size _).trans (hb.mono (by simp; have := HB1.out.size; omega)))
  have A2 := Lib.hid ((Bx.new w1 2 an ac as' 29).keep hb)
  have A3 := Lib.hid (A2.out.alloc (.cells #[.int .i64 2, .int .i64 bn, .int .i64 bc, .string bs] 29))
  have B3 := Lib.hid (Bx.new w2 2 bn bc bs 29)
  have HB3 := Lib.hid (HB2.out.alloc HB2.out.size (.cells #[.int .i64 2, .int .i64 bn, .int .i64 bc, .string bs] 29))
  have a0 := A2.out.c0; have a1 := A2.out.c1; have a2 := A2.out.c2; have a3 := A2.out.c3; have al := A2.out.lt
  clear hb HC HB1 HB2 U1 d0 d1 d2 d3 l1 A2
  dsimp only
  go_wp2_with fail
  refine (ref_compare an ac bn bc _ h1.out h2.out).mono ?_
  rintro e w3 ⟨rfl, hb⟩
  have HB4 := Lib.hid (HB3.out.trans (hb.mono HB3.out.size))
  clear hb
  go_wp2
  go_ret2
  exact NumB.mk HP.out HB4.out
set_option maxHeartbeats 1000000 in
theorem cmp_23 (xk xn xc yk yn yc : Int) (xs ys : ByteArray) (an ac bn bc : Int) (as' bs : ByteArray) (w : World) (p : Int × Bool)
    (HA : Hid (∀ W, Calls Tryd.prog 11 #[.agg #[.int .i64 xk, .int .i64 xn, .int .i64 xc, .string xs]] W (Val ⟨2, an, ac, as'⟩ W)))
    (HC : Hid (∀ W, Calls Tryd.prog 11 #[.agg #[.int .i64 yk, .int .i64 yn, .int .i64 yc, .string ys]] W (Val ⟨3, bn, bc, bs⟩ W))) (HP : Hid (p = (compM an ac bn bc, true))) (h1 : Hid (i64 an)) (h2 : Hid (i64 bn)) :
    Calls Tryd.prog 29 #[.agg #[.int .i64 xk, .int .i64 xn, .int .i64 xc, .string xs], .agg #[.int .i64 yk, .int .i64 yn, .int .i64 yc, .string ys]] w (NumB p w) := by
  have V0 := Lib.hid (((Bx.new w xk xn xc xs 29).alloc (.cells #[.int .i64 yk, .int .i64 yn, .int .i64 yc, .string ys] 29)))
  have U0 : Hid (Bx (w.heap.size + 1) yk yn yc ys ((w.alloc (.cells #[.int .i64 xk, .int .i64 xn, .int .i64 xc, .string xs] 29)).alloc (.cells #[.int .i64 yk, .int .i64 yn, .int .i64 yc, .string ys] 29))) := by
    have h := Bx.new (w.alloc (.cells #[.int .i64 xk, .int .i64 xn, .int .i64 xc, .string xs] 29)) yk yn yc ys 29
    rw [show (w.alloc (.cells #[.int .i64 xk, .int .i64 xn, .int .i64 xc, .string xs] 29)).heap.size = w.heap.size + 1 by simp] at h
    exact h
  go_enter Tryd.func29, Tryd.ntmps29
  go_wp2_with fail
  refine (HA.out _).mono ?_
  rintro e w1 ⟨rfl, hb⟩
  have HB1 := Lib.hid ((two w _ _).trans (hb.mono (by simp; omega)))
  have U1 := Lib.hid (U0.out.keep hb)
  have d0 := U1.out.c0; have d1 := U1.out.c1; have d2 := U1.out.c2; have d3 := U1.out.c3
  have l1 := U1.out.lt
  clear hb HA V0 U0
  dsimp only
  go_wp2_with fail
  refine (HC.out _).mono ?_
  rintro e w2 ⟨rfl, hb⟩
  have HB2 := Lib.hid ((HB1.out.alloc HB1.out.size _).trans (hb.mono (by simp; have := HB1.out.size; omega)))
  have A2 := Lib.hid ((Bx.new w1 2 an ac as' 29).keep hb)
  have A3 := Lib.hid (A2.out.alloc (.cells #[.int .i64 3, .int .i64 bn, .int .i64 bc, .string bs] 29))
  have B3 := Lib.hid (Bx.new w2 3 bn bc bs 29)
  have HB3 := Lib.hid (HB2.out.alloc HB2.out.size (.cells #[.int .i64 3, .int .i64 bn, .int .i64 bc, .string bs] 29))
  have a0 := A2.out.c0; have a1 := A2.out.c1; have a2 := A2.out.c2; have a3 := A2.out.c3; have al := A2.out.lt
  clear hb HC HB1 HB2 U1 d0 d1 d2 d3 l1 A2
  dsimp only
  go_wp2_with fail
  refine (ref_compare an ac bn bc _ h1.out h2.out).mono ?_
  rintro e w3 ⟨rfl, hb⟩
  have HB4 := Lib.hid (HB3.out.trans (hb.mono HB3.out.size))
  clear hb
  go_wp2
  go_ret2
  exact NumB.mk HP.out HB4.out
set_option maxHeartbeats 1000000 in
theorem cmp_32 (xk xn xc yk yn yc : Int) (xs ys : ByteArray) (an ac bn bc : Int) (as' bs : ByteArray) (w : World) (p : Int × Bool)
    (HA : Hid (∀ W, Calls Tryd.prog 11 #[.agg #[.int .i64 xk, .int .i64 xn, .int .i64 xc, .string xs]] W (Val ⟨3, an, ac, as'⟩ W)))
    (HC : Hid (∀ W, Calls Tryd.prog 11 #[.agg #[.int .i64 yk, .int .i64 yn, .int .i64 yc, .string ys]] W (Val ⟨2, bn, bc, bs⟩ W))) (HP : Hid (p = (compM an ac bn bc, true))) (h1 : Hid (i64 an)) (h2 : Hid (i64 bn)) :
    Calls Tryd.prog 29 #[.agg #[.int .i64 xk, .int .i64 xn, .int .i64 xc, .string xs], .agg #[.int .i64 yk, .int .i64 yn, .int .i64 yc, .string ys]] w (NumB p w) := by
  have V0 := Lib.hid (((Bx.new w xk xn xc xs 29).alloc (.cells #[.int .i64 yk, .int .i64 yn, .int .i64 yc, .string ys] 29)))
  have U0 : Hid (Bx (w.heap.size + 1) yk yn yc ys ((w.alloc (.cells #[.int .i64 xk, .int .i64 xn, .int .i64 xc, .string xs] 29)).alloc (.cells #[.int .i64 yk, .int .i64 yn, .int .i64 yc, .string ys] 29))) := by
    have h := Bx.new (w.alloc (.cells #[.int .i64 xk, .int .i64 xn, .int .i64 xc, .string xs] 29)) yk yn yc ys 29
    rw [show (w.alloc (.cells #[.int .i64 xk, .int .i64 xn, .int .i64 xc, .string xs] 29)).heap.size = w.heap.size + 1 by simp] at h
    exact h
  go_enter Tryd.func29, Tryd.ntmps29
  go_wp2_with fail
  refine (HA.out _).mono ?_
  rintro e w1 ⟨rfl, hb⟩
  have HB1 := Lib.hid ((two w _ _).trans (hb.mono (by simp; omega)))
  have U1 := Lib.hid (U0.out.keep hb)
  have d0 := U1.out.c0; have d1 := U1.out.c1; have d2 := U1.out.c2; have d3 := U1.out.c3
  have l1 := U1.out.lt
  clear hb HA V0 U0
  dsimp only
  go_wp2_with fail
  refine (HC.out _).mono ?_
  rintro e w2 ⟨rfl, hb⟩
  have HB2 := Lib.hid ((HB1.out.alloc HB1.out.size _).trans (hb.mono (by simp; have := HB1.out.size; omega)))
  have A2 := Lib.hid ((Bx.new w1 3 an ac as' 29).keep hb)
  have A3 := Lib.hid (A2.out.alloc (.cells #[.int .i64 2, .int .i64 bn, .int .i64 bc, .string bs] 29))
  have B3 := Lib.hid (Bx.new w2 2 bn bc bs 29)
  have HB3 := Lib.hid (HB2.out.alloc HB2.out.size (.cells #[.int .i64 2, .int .i64 bn, .int .i64 bc, .string bs] 29))
  have a0 := A2.out.c0; have a1 := A2.out.c1; have a2 := A2.out.c2; have a3 := A2.out.c3; have al := A2.out.lt
  clear hb HC HB1 HB2 U1 d0 d1 d2 d3 l1 A2
  dsimp only
  go_wp2_with fail
  refine (ref_compare an ac bn bc _ h1.out h2.out).mono ?_
  rintro e w3 ⟨rfl, hb⟩
  have HB4 := Lib.hid (HB3.out.trans (hb.mono HB3.out.size))
  clear hb
  go_wp2
  go_ret2
  exact NumB.mk HP.out HB4.out
set_option maxHeartbeats 1000000 in
theorem cmp_33 (xk xn xc yk yn yc : Int) (xs ys : ByteArray) (an ac bn bc : Int) (as' bs : ByteArray) (w : World) (p : Int × Bool)
    (HA : Hid (∀ W, Calls Tryd.prog 11 #[.agg #[.int .i64 xk, .int .i64 xn, .int .i64 xc, .string xs]] W (Val ⟨3, an, ac, as'⟩ W)))
    (HC : Hid (∀ W, Calls Tryd.prog 11 #[.agg #[.int .i64 yk, .int .i64 yn, .int .i64 yc, .string ys]] W (Val ⟨3, bn, bc, bs⟩ W))) (HP : Hid (p = (compM an ac bn bc, true))) (h1 : Hid (i64 an)) (h2 : Hid (i64 bn)) :
    Calls Tryd.prog 29 #[.agg #[.int .i64 xk, .int .i64 xn, .int .i64 xc, .string xs], .agg #[.int .i64 yk, .int .i64 yn, .int .i64 yc, .string ys]] w (NumB p w) := by
  have V0 := Lib.hid (((Bx.new w xk xn xc xs 29).alloc (.cells #[.int .i64 yk, .int .i64 yn, .int .i64 yc, .string ys] 29)))
  have U0 : Hid (Bx (w.heap.size + 1) yk yn yc ys ((w.alloc (.cells #[.int .i64 xk, .int .i64 xn, .int .i64 xc, .string xs] 29)).alloc (.cells #[.int .i64 yk, .int .i64 yn, .int .i64 yc, .string ys] 29))) := by
    have h := Bx.new (w.alloc (.cells #[.int .i64 xk, .int .i64 xn, .int .i64 xc, .string xs] 29)) yk yn yc ys 29
    rw [show (w.alloc (.cells #[.int .i64 xk, .int .i64 xn, .int .i64 xc, .string xs] 29)).heap.size = w.heap.size + 1 by simp] at h
    exact h
  go_enter Tryd.func29, Tryd.ntmps29
  go_wp2_with fail
  refine (HA.out _).mono ?_
  rintro e w1 ⟨rfl, hb⟩
  have HB1 := Lib.hid ((two w _ _).trans (hb.mono (by simp; omega)))
  have U1 := Lib.hid (U0.out.keep hb)
  have d0 := U1.out.c0; have d1 := U1.out.c1; have d2 := U1.out.c2; have d3 := U1.out.c3
  have l1 := U1.out.lt
  clear hb HA V0 U0
  dsimp only
  go_wp2_with fail
  refine (HC.out _).mono ?_
  rintro e w2 ⟨rfl, hb⟩
  have HB2 := Lib.hid ((HB1.out.alloc HB1.out.size _).trans (hb.mono (by simp; have := HB1.out.size; omega)))
  have A2 := Lib.hid ((Bx.new w1 3 an ac as' 29).keep hb)
  have A3 := Lib.hid (A2.out.alloc (.cells #[.int .i64 3, .int .i64 bn, .int .i64 bc, .string bs] 29))
  have B3 := Lib.hid (Bx.new w2 3 bn bc bs 29)
  have HB3 := Lib.hid (HB2.out.alloc HB2.out.size (.cells #[.int .i64 3, .int .i64 bn, .int .i64 bc, .string bs] 29))
  have a0 := A2.out.c0; have a1 := A2.out.c1; have a2 := A2.out.c2; have a3 := A2.out.c3; have al := A2.out.lt
  clear hb HC HB1 HB2 U1 d0 d1 d2 d3 l1 A2
  dsimp only
  go_wp2_with fail
  refine (ref_compare an ac bn bc _ h1.out h2.out).mono ?_
  rintro e w3 ⟨rfl, hb⟩
  have HB4 := Lib.hid (HB3.out.trans (hb.mono HB3.out.size))
  clear hb
  go_wp2
  go_ret2
  exact NumB.mk HP.out HB4.out
theorem ref3_compare (x y : Vm.Cl) (w : World) (hx : i64 x.n) (hy : i64 y.n) (hxs : x.s.size ≤ maxLen) (hys : y.s.size ≤ maxLen) :
    Calls Tryd.prog 29 #[.agg #[.int .i64 x.k, .int .i64 x.n, .int .i64 x.sc, .string x.s], .agg #[.int .i64 y.k, .int .i64 y.n, .int .i64 y.sc, .string y.s]] w (NumB (Vm.comp (Vm.plain x) (Vm.plain y)) w) := by
  have HA := Lib.hid (ref3_plain x.k x.n x.sc x.s · hxs)
  have HC := Lib.hid (ref3_plain y.k y.n y.sc y.s · hys)
  have i1 : i64 (Vm.plain x).n := Vm.plain_i64 hx
  have i2 : i64 (Vm.plain y).n := Vm.plain_i64 hy
  have l1 := plain_len hxs
  have l2 := plain_len hys
  have k1 := Vm.kinds (Vm.plain_right x)
  have k2 := Vm.kinds (Vm.plain_right y)
  revert HA HC i1 i2 l1 l2 k1 k2
  show (Hid (∀ W, Calls _ _ _ W (Val (Vm.plain x) W))) → (Hid (∀ W, Calls _ _ _ W (Val (Vm.plain y) W))) → _
  generalize Vm.plain x = a
  generalize Vm.plain y = b
  obtain ⟨ak, an, ac, as'⟩ := a
  obtain ⟨bk, bn, bc, bs⟩ := b
  intro HA HC i1 i2 l1 l2 k1 k2
  simp only [List.mem_cons, List.not_mem_nil, or_false] at k1 k2
  have hno : ∀ k : Int, bk ≠ k → ((k : Int) != bk) = true := fun k h => by simp; exact fun e => h e.symm
  have hbe : ∀ k : Int, bk ≠ k → (bk == k) = false := fun k h => by rw [beq_eq_false_iff_ne]; exact h
  rcases k1 with rfl | rfl | rfl | rfl | rfl | rfl
  · exact cmp_00 _ _ _ _ _ _ _ _ _ _ _ _ _ _ _ _ _ HA HC (show _ = _ by simp [Vm.comp, Vm.isNum])
  · by_cases h : bk = 1
    · subst h; exact cmp_11 _ _ _ _ _ _ _ _ _ _ _ _ _ _ _ _ HA HC (show _ = _ by simp [Vm.comp, Vm.isNum])
    · exact cmp_1no _ _ _ _ _ _ _ _ _ _ _ _ _ _ _ _ _ HA HC (show _ = _ by simp [Vm.comp, Vm.isNum]; omega) (hno 1 h)
  · by_cases h : bk = 2
    · subst h; exact cmp_22 _ _ _ _ _ _ _ _ _ _ _ _ _ _ _ _ HA HC (show _ = _ by simp [Vm.comp, Vm.isNum]) i1 i2
    · by_cases h' : bk = 3
      · subst h'; exact cmp_23 _ _ _ _ _ _ _ _ _ _ _ _ _ _ _ _ HA HC (show _ = _ by simp [Vm.comp, Vm.isNum]) i1 i2
      · exact cmp_2no _ _ _ _ _ _ _ _ _ _ _ _ _ _ _ _ _ HA HC (show _ = _ by simp [Vm.comp, Vm.isNum, h, h']; omega) (hbe 2 h) (hbe 3 h') (hno 2 h)
  · by_cases h : bk = 3
    · subst h; exact cmp_33 _ _ _ _ _ _ _ _ _ _ _ _ _ _ _ _ HA HC (show _ = _ by simp [Vm.comp, Vm.isNum]) i1 i2
    · by_cases h' : bk = 2
      · subst h'; exact cmp_32 _ _ _ _ _ _ _ _ _ _ _ _ _ _ _ _ HA HC (show _ = _ by simp [Vm.comp, Vm.isNum]) i1 i2
      · exact cmp_3no _ _ _ _ _ _ _ _ _ _ _ _ _ _ _ _ _ HA HC (show _ = _ by simp [Vm.comp, Vm.isNum, h, h']; omega) (hbe 2 h') (hbe 3 h) (hno 3 h)
  · by_cases h : bk = 4
    · subst h; exact cmp_44 _ _ _ _ _ _ _ _ _ _ _ _ _ _ _ _ HA HC (show _ = _ by simp [Vm.comp, Vm.isNum]) l1 l2
    · exact cmp_4no _ _ _ _ _ _ _ _ _ _ _ _ _ _ _ _ _ HA HC (show _ = _ by simp [Vm.comp, Vm.isNum]; omega) (hno 4 h)
  · by_cases h : bk = 5
    · subst h; exact cmp_55 _ _ _ _ _ _ _ _ _ _ _ _ _ _ _ _ HA HC (show _ = _ by simp [Vm.comp, Vm.isNum]) l1 l2
    · exact cmp_5no _ _ _ _ _ _ _ _ _ _ _ _ _ _ _ _ _ HA HC (show _ = _ by simp [Vm.comp, Vm.isNum]; omega) (hno 5 h)
end Go.Proofs.YtamclbagafcmgaaDoor
/- The reference of layer 3: Order; And, Not. -/
namespace Go.Proofs.YtamclbagafcmgaaDoor
open Go.RowKit

set_option maxHeartbeats 1000000 in
theorem ord_c (xk xn xc yk yn yc : Int) (xs ys : ByteArray) (ak an ac bk bn bc : Int) (as' bs : ByteArray) (w : World) (c : Int) (p : Int)
    (HA : Hid (∀ W, Calls Tryd.prog 11 #[.agg #[.int .i64 xk, .int .i64 xn, .int .i64 xc, .string xs]] W (Val ⟨ak, an, ac, as'⟩ W)))
    (HC : Hid (∀ W, Calls Tryd.prog 11 #[.agg #[.int .i64 yk, .int .i64 yn, .int .i64 yc, .string ys]] W (Val ⟨bk, bn, bc, bs⟩ W)))
    (HM : Hid (∀ W, Calls Tryd.prog 29 #[.agg #[.int .i64 ak, .int .i64 an, .int .i64 ac, .string as'], .agg #[.int .i64 bk, .int .i64 bn, .int .i64 bc, .string bs]] W (NumB (c, true) W))) (HP : Hid (p = c)) (q : (c != 0) = true) :
    Calls Tryd.prog 19 #[.agg #[.int .i64 xk, .int .i64 xn, .int .i64 xc, .string xs], .agg #[.int .i64 yk, .int .i64 yn, .int .i64 yc, .string ys]] w (Num p w) := by
  have V0 := Lib.hid (((Bx.new w xk xn xc xs 29).alloc (.cells #[.int .i64 yk, .int .i64 yn, .int .i64 yc, .string ys] 29)))
  have U0 : Hid (Bx (w.heap.size + 1) yk yn yc ys ((w.alloc (.cells #[.int .i64 xk, .int .i64 xn, .int .i64 xc, .string xs] 29)).alloc (.cells #[.int .i64 yk, .int .i64 yn, .int .i64 yc, .string ys] 29))) := by
    have h := Bx.new (w.alloc (.cells #[.int .i64 xk, .int .i64 xn, .int .i64 xc, .string xs] 29)) yk yn yc ys 29
    rw [show (w.alloc (.cells #[.int .i64 xk, .int .i64 xn, .int .i64 xc, .string xs] 29)).heap.size = w.heap.size + 1 by simp] at h
    exact h
  go_enter Tryd.func19, Tryd.ntmps19
  go_wp2_with fail
  refine (HA.out _).mono ?_
  rintro e w1 ⟨rfl, hb⟩
  have HB1 := Lib.hid ((two w _ _).trans (hb.mono (by simp; omega)))
  have U1 := Lib.hid (U0.out.keep hb)
  have d0 := U1.out.c0; have d1 := U1.out.c1; have d2 := U1.out.c2; have d3 := U1.out.c3
  have l1 := U1.out.lt
  clear hb HA V0 U0
  dsimp only
  go_wp2_with fail
  refine (HC.out _).mono ?_
  rintro e w2 ⟨rfl, hb⟩
  have HB2 := Lib.hid ((HB1.out.alloc HB1.out.size _).trans (hb.mono (by simp; have := HB1.out.size; omega)))
  have A2 := Lib.hid ((Bx.new w1 ak an ac as' 29).keep hb)
  have A3 := Lib.hid (A2.out.alloc (.cells #[.int .i64 bk, .int .i64 bn, .int .i64 bc, .string bs] 29))
  have B3 := Lib.hid (Bx.new w2 bk bn bc bs 29)
  have HB3 := Lib.hid (HB2.out.alloc HB2.out.size (.cells #[.int .i64 bk, .int .i64 bn, .int .i64 bc, .string bs] 29))
  have b0 := B3.out.c0; have b1 := B3.out.c1; have b2 := B3.out.c2; have b3 := B3.out.c3; have bl := B3.out.lt
  have a0 := A2.out.c0; have a1 := A2.out.c1; have a2 := A2.out.c2; have a3 := A2.out.c3; have al := A2.out.lt
  clear hb HC HB1 HB2 U1 d0 d1 d2 d3 l1 A2
  dsimp only
  go_wp2_with fail
  refine (HM.out _).mono ?_
  rintro e w3 ⟨rfl, hb⟩
  have HB4 := Lib.hid (HB3.out.trans (hb.mono HB3.out.size))
  have A4 := Lib.hid (A3.out.keep hb); have B4 := Lib.hid (B3.out.keep hb)
  clear a0 a1 a2 a3 b0 b1 b2 b3
  have a0 := A4.out.c0; have a2 := A4.out.c2; have b0 := B4.out.c0; have b2 := B4.out.c2
  clear hb HM
  dsimp only
  go_wp2
  go_ret
  exact ⟨ret_i64 HP.out.symm, HB4.out⟩
set_option maxHeartbeats 1000000 in
theorem ord_no (xk xn xc yk yn yc : Int) (xs ys : ByteArray) (ak an ac bk bn bc : Int) (as' bs : ByteArray) (w : World) (c : Int) (p : Int)
    (HA : Hid (∀ W, Calls Tryd.prog 11 #[.agg #[.int .i64 xk, .int .i64 xn, .int .i64 xc, .string xs]] W (Val ⟨ak, an, ac, as'⟩ W)))
    (HC : Hid (∀ W, Calls Tryd.prog 11 #[.agg #[.int .i64 yk, .int .i64 yn, .int .i64 yc, .string ys]] W (Val ⟨bk, bn, bc, bs⟩ W)))
    (HM : Hid (∀ W, Calls Tryd.prog 29 #[.agg #[.int .i64 ak, .int .i64 an, .int .i64 ac, .string as'], .agg #[.int .i64 bk, .int .i64 bn, .int .i64 bc, .string bs]] W (NumB (c, false) W))) (HP : Hid (p = Lib.compareInt ak bk)) :
    Calls Tryd.prog 19 #[.agg #[.int .i64 xk, .int .i64 xn, .int .i64 xc, .string xs], .agg #[.int .i64 yk, .int .i64 yn, .int .i64 yc, .string ys]] w (Num p w) := by
  have V0 := Lib.hid (((Bx.new w xk xn xc xs 29).alloc (.cells #[.int .i64 yk, .int .i64 yn, .int .i64 yc, .string ys] 29)))
  have U0 : Hid (Bx (w.heap.size + 1) yk yn yc ys ((w.alloc (.cells #[.int .i64 xk, .int .i64 xn, .int .i64 xc, .string xs] 29)).alloc (.cells #[.int .i64 yk, .int .i64 yn, .int .i64 yc, .string ys] 29))) := by
    have h := Bx.new (w.alloc (.cells #[.int .i64 xk, .int .i64 xn, .int .i64 xc, .string xs] 29)) yk yn yc ys 29
    rw [show (w.alloc (.cells #[.int .i64 xk, .int .i64 xn, .int .i64 xc, .string xs] 29)).heap.size = w.heap.size + 1 by simp] at h
    exact h
  go_enter Tryd.func19, Tryd.ntmps19
  go_wp2_with fail
  refine (HA.out _).mono ?_
  rintro e w1 ⟨rfl, hb⟩
  have HB1 := Lib.hid ((two w _ _).trans (hb.mono (by simp; omega)))
  have U1 := Lib.hid (U0.out.keep hb)
  have d0 := U1.out.c0; have d1 := U1.out.c1; have d2 := U1.out.c2; have d3 := U1.out.c3
  have l1 := U1.out.lt
  clear hb HA V0 U0
  dsimp only
  go_wp2_with fail
  refine (HC.out _).mono ?_
  rintro e w2 ⟨rfl, hb⟩
  have HB2 := Lib.hid ((HB1.out.alloc HB1.out.size _).trans (hb.mono (by simp; have := HB1.out.size; omega)))
  have A2 := Lib.hid ((Bx.new w1 ak an ac as' 29).keep hb)
  have A3 := Lib.hid (A2.out.alloc (.cells #[.int .i64 bk, .int .i64 bn, .int .i64 bc, .string bs] 29))
  have B3 := Lib.hid (Bx.new w2 bk bn bc bs 29)
  have HB3 := Lib.hid (HB2.out.alloc HB2.out.size (.cells #[.int .i64 bk, .int .i64 bn, .int .i64 bc, .string bs] 29))
  have b0 := B3.out.c0; have b1 := B3.out.c1; have b2 := B3.out.c2; have b3 := B3.out.c3; have bl := B3.out.lt
  have a0 := A2.out.c0; have a1 := A2.out.c1; have a2 := A2.out.c2; have a3 := A2.out.c3; have al := A2.out.lt
  clear hb HC HB1 HB2 U1 d0 d1 d2 d3 l1 A2
  dsimp only
  go_wp2_with fail
  refine (HM.out _).mono ?_
  rintro e w3 ⟨rfl, hb⟩
  have HB4 := Lib.hid (HB3.out.trans (hb.mono HB3.out.size))
  have A4 := Lib.hid (A3.out.keep hb); have B4 := Lib.hid (B3.out.keep hb)
  clear a0 a1 a2 a3 b0 b1 b2 b3
  have a0 := A4.out.c0; have a2 := A4.out.c2; have b0 := B4.out.c0; have b2 := B4.out.c2
  clear hb HM
  dsimp only
  go_wp2_with fail
  refine (ref3_numbers ak bk _).mono ?_
  rintro e w4 ⟨rfl, rfl⟩
  go_wp2
  go_ret
  exact ⟨ret_i64 HP.out.symm, HB4.out⟩
set_option maxHeartbeats 1000000 in
theorem ord_k (xk xn xc yk yn yc : Int) (xs ys : ByteArray) (ak an ac bk bn bc : Int) (as' bs : ByteArray) (w : World) (c : Int) (p : Int)
    (HA : Hid (∀ W, Calls Tryd.prog 11 #[.agg #[.int .i64 xk, .int .i64 xn, .int .i64 xc, .string xs]] W (Val ⟨ak, an, ac, as'⟩ W)))
    (HC : Hid (∀ W, Calls Tryd.prog 11 #[.agg #[.int .i64 yk, .int .i64 yn, .int .i64 yc, .string ys]] W (Val ⟨bk, bn, bc, bs⟩ W)))
    (HM : Hid (∀ W, Calls Tryd.prog 29 #[.agg #[.int .i64 ak, .int .i64 an, .int .i64 ac, .string as'], .agg #[.int .i64 bk, .int .i64 bn, .int .i64 bc, .string bs]] W (NumB (c, true) W))) (HP : Hid (p = Lib.compareInt ak bk)) (q : (c != 0) = false) (q' : (ak != bk) = true) :
    Calls Tryd.prog 19 #[.agg #[.int .i64 xk, .int .i64 xn, .int .i64 xc, .string xs], .agg #[.int .i64 yk, .int .i64 yn, .int .i64 yc, .string ys]] w (Num p w) := by
  have V0 := Lib.hid (((Bx.new w xk xn xc xs 29).alloc (.cells #[.int .i64 yk, .int .i64 yn, .int .i64 yc, .string ys] 29)))
  have U0 : Hid (Bx (w.heap.size + 1) yk yn yc ys ((w.alloc (.cells #[.int .i64 xk, .int .i64 xn, .int .i64 xc, .string xs] 29)).alloc (.cells #[.int .i64 yk, .int .i64 yn, .int .i64 yc, .string ys] 29))) := by
    have h := Bx.new (w.alloc (.cells #[.int .i64 xk, .int .i64 xn, .int .i64 xc, .string xs] 29)) yk yn yc ys 29
    rw [show (w.alloc (.cells #[.int .i64 xk, .int .i64 xn, .int .i64 xc, .string xs] 29)).heap.size = w.heap.size + 1 by simp] at h
    exact h
  go_enter Tryd.func19, Tryd.ntmps19
  go_wp2_with fail
  refine (HA.out _).mono ?_
  rintro e w1 ⟨rfl, hb⟩
  have HB1 := Lib.hid ((two w _ _).trans (hb.mono (by simp; omega)))
  have U1 := Lib.hid (U0.out.keep hb)
  have d0 := U1.out.c0; have d1 := U1.out.c1; have d2 := U1.out.c2; have d3 := U1.out.c3
  have l1 := U1.out.lt
  clear hb HA V0 U0
  dsimp only
  go_wp2_with fail
  refine (HC.out _).mono ?_
  rintro e w2 ⟨rfl, hb⟩
  have HB2 := Lib.hid ((HB1.out.alloc HB1.out.size _).trans (hb.mono (by simp; have := HB1.out.size; omega)))
  have A2 := Lib.hid ((Bx.new w1 ak an ac as' 29).keep hb)
  have A3 := Lib.hid (A2.out.alloc (.cells #[.int .i64 bk, .int .i64 bn, .int .i64 bc, .string bs] 29))
  have B3 := Lib.hid (Bx.new w2 bk bn bc bs 29)
  have HB3 := Lib.hid (HB2.out.alloc HB2.out.size (.cells #[.int .i64 bk, .int .i64 bn, .int .i64 bc, .string bs] 29))
  have b0 := B3.out.c0; have b1 := B3.out.c1; have b2 := B3.out.c2; have b3 := B3.out.c3; have bl := B3.out.lt
  have a0 := A2.out.c0; have a1 := A2.out.c1; have a2 := A2.out.c2; have a3 := A2.out.c3; have al := A2.out.lt
  clear hb HC HB1 HB2 U1 d0 d1 d2 d3 l1 A2
  dsimp only
  go_wp2_with fail
  refine (HM.out _).mono ?_
  rintro e w3 ⟨rfl, hb⟩
  have HB4 := Lib.hid (HB3.out.trans (hb.mono HB3.out.size))
  have A4 := Lib.hid (A3.out.keep hb); have B4 := Lib.hid (B3.out.keep hb)
  clear a0 a1 a2 a3 b0 b1 b2 b3
  have a0 := A4.out.c0; have a2 := A4.out.c2; have b0 := B4.out.c0; have b2 := B4.out.c2
  clear hb HM
  dsimp only
  go_wp2_with fail
  refine (ref3_numbers ak bk _).mono ?_
  rintro e w4 ⟨rfl, rfl⟩
  go_wp2
  go_ret
  exact ⟨ret_i64 HP.out.symm, HB4.out⟩
set_option maxHeartbeats 1000000 in
theorem ord_s (xk xn xc yk yn yc : Int) (xs ys : ByteArray) (ak an ac bk bn bc : Int) (as' bs : ByteArray) (w : World) (c : Int) (p : Int)
    (HA : Hid (∀ W, Calls Tryd.prog 11 #[.agg #[.int .i64 xk, .int .i64 xn, .int .i64 xc, .string xs]] W (Val ⟨ak, an, ac, as'⟩ W)))
    (HC : Hid (∀ W, Calls Tryd.prog 11 #[.agg #[.int .i64 yk, .int .i64 yn, .int .i64 yc, .string ys]] W (Val ⟨bk, bn, bc, bs⟩ W)))
    (HM : Hid (∀ W, Calls Tryd.prog 29 #[.agg #[.int .i64 ak, .int .i64 an, .int .i64 ac, .string as'], .agg #[.int .i64 bk, .int .i64 bn, .int .i64 bc, .string bs]] W (NumB (c, true) W))) (HP : Hid (p = Lib.compareInt ac bc)) (q : (c != 0) = false) (q' : (ak != bk) = false) :
    Calls Tryd.prog 19 #[.agg #[.int .i64 xk, .int .i64 xn, .int .i64 xc, .string xs], .agg #[.int .i64 yk, .int .i64 yn, .int .i64 yc, .string ys]] w (Num p w) := by
  have V0 := Lib.hid (((Bx.new w xk xn xc xs 29).alloc (.cells #[.int .i64 yk, .int .i64 yn, .int .i64 yc, .string ys] 29)))
  have U0 : Hid (Bx (w.heap.size + 1) yk yn yc ys ((w.alloc (.cells #[.int .i64 xk, .int .i64 xn, .int .i64 xc, .string xs] 29)).alloc (.cells #[.int .i64 yk, .int .i64 yn, .int .i64 yc, .string ys] 29))) := by
    have h := Bx.new (w.alloc (.cells #[.int .i64 xk, .int .i64 xn, .int .i64 xc, .string xs] 29)) yk yn yc ys 29
    rw [show (w.alloc (.cells #[.int .i64 xk, .int .i64 xn, .int .i64 xc, .string xs] 29)).heap.size = w.heap.size + 1 by simp] at h
    exact h
  go_enter Tryd.func19, Tryd.ntmps19
  go_wp2_with fail
  refine (HA.out _).mono ?_
  rintro e w1 ⟨rfl, hb⟩
  have HB1 := Lib.hid ((two w _ _).trans (hb.mono (by simp; omega)))
  have U1 := Lib.hid (U0.out.keep hb)
  have d0 := U1.out.c0; have d1 := U1.out.c1; have d2 := U1.out.c2; have d3 := U1.out.c3
  have l1 := U1.out.lt
  clear hb HA V0 U0
  dsimp only
  go_wp2_with fail
  refine (HC.out _).mono ?_
  rintro e w2 ⟨rfl, hb⟩
  have HB2 := Lib.hid ((HB1.out.alloc HB1.out.size _).trans (hb.mono (by simp; have := HB1.out.size; omega)))
  have A2 := Lib.hid ((Bx.new w1 ak an ac as' 29).keep hb)
  have A3 := Lib.hid (A2.out.alloc (.cells #[.int .i64 bk, .int .i64 bn, .int .i64 bc, .string bs] 29))
  have B3 := Lib.hid (Bx.new w2 bk bn bc bs 29)
  have HB3 := Lib.hid (HB2.out.alloc HB2.out.size (.cells #[.int .i64 bk, .int .i64 bn, .int .i64 bc, .string bs] 29))
  have b0 := B3.out.c0; have b1 := B3.out.c1; have b2 := B3.out.c2; have b3 := B3.out.c3; have bl := B3.out.lt
  have a0 := A2.out.c0; have a1 := A2.out.c1; have a2 := A2.out.c2; have a3 := A2.out.c3; have al := A2.out.lt
  clear hb HC HB1 HB2 U1 d0 d1 d2 d3 l1 A2
  dsimp only
  go_wp2_with fail
  refine (HM.out _).mono ?_
  rintro e w3 ⟨rfl, hb⟩
  have HB4 := Lib.hid (HB3.out.trans (hb.mono HB3.out.size))
  have A4 := Lib.hid (A3.out.keep hb); have B4 := Lib.hid (B3.out.keep hb)
  clear a0 a1 a2 a3 b0 b1 b2 b3
  have a0 := A4.out.c0; have a2 := A4.out.c2; have b0 := B4.out.c0; have b2 := B4.out.c2
  clear hb HM
  dsimp only
  go_wp2_with fail
  refine (ref3_numbers ac bc _).mono ?_
  rintro e w4 ⟨rfl, rfl⟩
  go_wp2
  go_ret
  exact ⟨ret_i64 HP.out.symm, HB4.out⟩
theorem ref3_order (x y : Vm.Cl) (w : World) (hx : i64 x.n) (hy : i64 y.n) (hxs : x.s.size ≤ maxLen) (hys : y.s.size ≤ maxLen) :
    Calls Tryd.prog 19 #[.agg #[.int .i64 x.k, .int .i64 x.n, .int .i64 x.sc, .string x.s], .agg #[.int .i64 y.k, .int .i64 y.n, .int .i64 y.sc, .string y.s]] w (Num (Vm.order (Vm.plain x) (Vm.plain y)) w) := by
  have HA := Lib.hid (ref3_plain x.k x.n x.sc x.s · hxs)
  have HC := Lib.hid (ref3_plain y.k y.n y.sc y.s · hys)
  have HM := Lib.hid (ref3_compare (Vm.plain x) (Vm.plain y) · (Vm.plain_i64 hx) (Vm.plain_i64 hy) (plain_len hxs) (plain_len hys))
  rw [Vm.plain_plain, Vm.plain_plain] at HM
  revert HA HC HM
  show (Hid (∀ W, Calls _ _ _ W (Val (Vm.plain x) W))) → (Hid (∀ W, Calls _ _ _ W (Val (Vm.plain y) W))) → _
  generalize Vm.plain x = a
  generalize Vm.plain y = b
  have ho : Vm.order a b = Vm.order a b := rfl
  revert ho
  generalize hO : Vm.order a b = p
  unfold Vm.order at hO
  revert hO
  generalize Vm.comp a b = m
  obtain ⟨ak, an, ac, as'⟩ := a
  obtain ⟨bk, bn, bc, bs⟩ := b
  obtain ⟨c, ok⟩ := m
  intro hO _ HA HC HM
  dsimp only at hO HM
  cases ok
  · exact ord_no _ _ _ _ _ _ _ _ _ _ _ _ _ _ _ _ _ c p HA HC HM (by rw [if_neg (by simp), if_pos (by simp)] at hO; exact hO.symm)
  · by_cases h : c = 0
    · by_cases h' : ak = bk
      · exact ord_s _ _ _ _ _ _ _ _ _ _ _ _ _ _ _ _ _ c p HA HC HM (by rw [if_neg (by simp [h]), if_neg (by simp [h'])] at hO; exact hO.symm) (by simp [h]) (by simp [h'])
      · exact ord_k _ _ _ _ _ _ _ _ _ _ _ _ _ _ _ _ _ c p HA HC HM (by rw [if_neg (by simp [h]), if_pos (by simp [h'])] at hO; exact hO.symm) (by simp [h]) (by simp [h'])
    · exact ord_c _ _ _ _ _ _ _ _ _ _ _ _ _ _ _ _ _ c p HA HC HM (by rw [if_pos (by simp [h])] at hO; exact hO.symm) (by simp [h])
end Go.Proofs.YtamclbagafcmgaaDoor
