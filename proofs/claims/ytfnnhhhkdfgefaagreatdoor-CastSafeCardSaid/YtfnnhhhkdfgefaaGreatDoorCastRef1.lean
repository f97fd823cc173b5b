/- The reference of layer 4: scaled. -/
import Derived.Test.YtfnnhhhkdfgefaaGreatDoorCastMath
import Derived.Test.YtfnnhhhkdfgefaaGreatDoorValRb
import Derived.Test.YtfnnhhhkdfgefaaGreatDoorValR7
import Derived.Test.YtfnnhhhkdfgefaaGreatDoorValR13
import Derived.Test.YtfnnhhhkdfgefaaGreatDoorDecRb
import Derived.Test.YtfnnhhhkdfgefaaGreatDoorValR3
namespace Go.Proofs.YtfnnhhhkdfgefaaGreatDoor
open Go.RowKit

/-- what a function that answers a value and an error leaves -/
def CastA (p : Vm.Cl × Int) (w : World) (e : Ending) (w' : World) : Prop := e = .returned (.tuple #[.agg #[.int .i64 p.1.k, .int .i64 p.1.n, .int .i64 p.1.sc, .string p.1.s], .int .i64 p.2]) ∧ Below w.heap.size w w'
theorem CastA.mk {p : Vm.Cl × Int} {k n sc x : Int} {s : ByteArray} {w w' : World} (h : p = (⟨k, n, sc, s⟩, x)) (hb : Below w.heap.size w w') : CastA p w (.returned (.tuple #[.agg #[.int .i64 k, .int .i64 n, .int .i64 sc, .string s], .int .i64 x])) w' := ⟨by rw [h], hb⟩
/-- what a function that answers a type and whether leaves -/
def TypB (p : (Int × Int) × Bool) (w : World) (e : Ending) (w' : World) : Prop := e = .returned (.tuple #[.agg #[.int .i64 p.1.1, .int .i64 p.1.2], .bool p.2]) ∧ Below w.heap.size w w'
theorem TypB.mk {p : (Int × Int) × Bool} {k s : Int} {b : Bool} {w w' : World} (h : p = ((k, s), b)) (hb : Below w.heap.size w w') : TypB p w (.returned (.tuple #[.agg #[.int .i64 k, .int .i64 s], .bool b])) w' := ⟨by rw [h], hb⟩
theorem one (w : World) (x : Obj) : Below w.heap.size w (w.alloc x) := (Below.refl _ _).alloc (Nat.le_refl _) _

theorem three (w : World) (x y z : Obj) : Below w.heap.size w (((w.alloc x).alloc y).alloc z) := (two w x y).alloc (by simp; omega) _
theorem set2 {B g : Nat} {a w : World} (h : Below B a w) (hg : B ≤ g) (x y : Value) : Below B a ((w.setCell ⟨g, 0, none⟩ x).setCell ⟨g, 1, none⟩ y) := (h.setCell hg x).setCell hg y
theorem Fx.next (w : World) (x : Obj) (k n sc : Int) (s : ByteArray) (t : TypeId) : Fx (w.heap.size + 1) k n sc s ((w.alloc x).alloc (.cells #[.int .i64 k, .int .i64 n, .int .i64 sc, .string s] t)) := by
  have h := Fx.new (w.alloc x) k n sc s t
  rw [show (w.alloc x).heap.size = w.heap.size + 1 by simp] at h
  exact h

set_option maxHeartbeats 1000000 in
theorem ref4_scaled (n s k t : Int) (w : World) (hn : i64 n) : Calls Tryz.prog 24 #[.int .i64 n, .int .i64 s, .agg #[.int .i64 k, .int .i64 t]] w (CastA (Vm.scaled n s k t) w) := by
  have HR := Lib.hid (ref_rescale n s t · hn)
  have HV : Hid (Vm.scaled n s k t = if (rescM n s t).2 = 0 then (⟨k, (rescM n s t).1, t, ⟨#[]⟩⟩, 0) else (Vm.nil, (rescM n s t).2)) := rfl
  obtain ⟨PL, hPL⟩ : ∃ PL, PL = Vm.scaled n s k t := ⟨_, rfl⟩
  rw [← hPL] at HV ⊢
  clear hPL hn
  revert HR HV
  generalize rescM n s t = r
  obtain ⟨m, x⟩ := r
  intro HR HV
  have T0 : Hid (Tx w.heap.size k t ((w.alloc (.cells #[.int .i64 k, .int .i64 t] 26)).alloc (.cells #[.int .i64 0, .int .i64 0, .int .i64 0, .string ⟨#[]⟩] 24))) := (Tx.new w k t 26).keep (one _ _)
  have R0 := Lib.hid (Fx.next w (.cells #[.int .i64 k, .int .i64 t] 26) 0 0 0 ⟨#[]⟩ 24)
  by_cases he : x = 0
  · subst he
    go_enter Tryz.func24, Tryz.ntmps24
    go_wp2_with fail
    refine (HR.out _).mono ?_
    rintro e w1 ⟨rfl, hb⟩
    have HB := Lib.hid ((two w _ _).trans (hb.mono (by simp; omega)))
    have T1 := Lib.hid (T0.out.keep hb); have R1 := Lib.hid (R0.out.keep hb)
    have f0 := T1.out.c0; have f1 := T1.out.c1
    have r0 := R1.out.bx.c0; have r1 := R1.out.bx.c1; have r2 := R1.out.bx.c2; have r3 := R1.out.bx.c3; have rf := R1.out.fz; have rl := R1.out.bx.lt
    clear hb T0 R0 HR
    dsimp only
    go_wp2
    refine bodyPost_ret (v := .tuple #[.agg #[.int .i64 k, .int .i64 m, .int .i64 t, .string ⟨#[]⟩], .int .i64 0]) (by simp [results, Tryz.results24, go_sem, r0, r1, r2, r3]) rfl (CastA.mk HV.out ?_)
    exact set4 HB.out (Nat.le_succ _) _ _ _ _
  · have q : (x != 0) = true := by simpa using he
    have HE := Lib.hid he
    clear he
    go_enter Tryz.func24, Tryz.ntmps24
    go_wp2_with fail
    refine (HR.out _).mono ?_
    rintro e w1 ⟨rfl, hb⟩
    have HB := Lib.hid ((two w _ _).trans (hb.mono (by simp; omega)))
    have R1 := Lib.hid (R0.out.keep hb)
    have r0 := R1.out.bx.c0; have r1 := R1.out.bx.c1; have r2 := R1.out.bx.c2; have r3 := R1.out.bx.c3; have rf := R1.out.fz; have rl := R1.out.bx.lt
    clear hb T0 R0 HR
    dsimp only
    go_wp2
    refine bodyPost_ret (v := .tuple #[.agg #[.int .i64 0, .int .i64 0, .int .i64 0, .string ⟨#[]⟩], .int .i64 x]) (by simp [results, Tryz.results24, go_sem, r0, r1, r2, r3]) rfl (CastA.mk (by rw [HV.out, if_neg HE.out]; rfl) ?_)
    exact set4 HB.out (Nat.le_succ _) _ _ _ _

end Go.Proofs.YtfnnhhhkdfgefaaGreatDoor
