/- The reference of layer 3: Right whole, Type, Plain, Of. -/
import Derived.Test.YtamclbagafcmgaaDoorValRa
import Derived.Test.YtamclbagafcmgaaDoorValR3
namespace Go.Proofs.YtamclbagafcmgaaDoor
open Go.RowKit

theorem ref3_right4 (n sc : Int) (s : ByteArray) (w : World) (hz : s.size ≤ maxLen) : Calls Tryd.prog 18 #[.agg #[.int .i64 4, .int .i64 n, .int .i64 sc, .string s]] w (Says (Vm.rightB ⟨4, n, sc, s⟩) w) := by
  unfold maxLen at hz
  by_cases hl : s.size ≤ 200
  · have he := val_eql 4 n sc s 4 0 0 s
    have hr : Vm.rightB ⟨4, n, sc, s⟩ = (Lib.validD s.data.toList && eqB 4 n sc s 4 0 0 s) := by
      unfold eqB; simp [Vm.rightB, hl, beq_dec, Bool.and_comm]
    rw [hr]
    clear hr
    have hl2 : (s.size : Int) ≤ 200 := by omega
    have HU := Lib.hid (ref3_utf s · (by omega))
    revert HU
    generalize Lib.validD s.data.toList = b
    intro HU
    cases b
    all_goals
      go_enter Tryd.func18, Tryd.ntmps18
      go_wp2_with fail
      refine (HU.out _).mono ?_
      rintro e w1 ⟨rfl, rfl⟩
      go_wp2
      go_ret
      exact Says.mk rfl (two w _ _)
  · have hr : Vm.rightB ⟨4, n, sc, s⟩ = false := by simp [Vm.rightB, hl]
    rw [hr]
    clear hr
    have hl2 : (200 : Int) < (s.size : Int) := by omega
    go_enter Tryd.func18, Tryd.ntmps18
    go_wp2
    go_ret
    exact Says.mk rfl (two w _ _)
theorem ref3_right (k n sc : Int) (s : ByteArray) (w : World) (hz : s.size ≤ maxLen) : Calls Tryd.prog 18 #[.agg #[.int .i64 k, .int .i64 n, .int .i64 sc, .string s]] w (Says (Vm.rightB ⟨k, n, sc, s⟩) w) := by
  by_cases hk : 0 ≤ k ∧ k ≤ 5
  · rcases (show k = 0 ∨ k = 1 ∨ k = 2 ∨ k = 3 ∨ k = 4 ∨ k = 5 by omega) with rfl | rfl | rfl | rfl | rfl | rfl
    · exact ref3_right0 n sc s w
    · exact ref3_right1 n sc s w
    · exact ref3_right2 n sc s w
    · exact ref3_right3 n sc s w
    · exact ref3_right4 n sc s w hz
    · exact ref3_right5 n sc s w hz
  · exact ref3_rightX k n sc s w hk
theorem bcell3 {W w1 : World} (hb : Below W.heap.size W w1) : (∀ b o, b < W.heap.size → w1.cell? ⟨b, o, none⟩ = W.cell? ⟨b, o, none⟩) ∧ (∀ b o, b < W.heap.size → w1.frozen? ⟨b, o, none⟩ = W.frozen? ⟨b, o, none⟩) :=
  ⟨fun b o h => hb.cell (p := ⟨b, o, none⟩) h, fun b o h => hb.frozen (p := ⟨b, o, none⟩) h⟩
theorem set4 {B g : Nat} {a w : World} (h : Below B a w) (hg : B ≤ g) (x y z u : Value) : Below B a ((((w.setCell ⟨g, 0, none⟩ x).setCell ⟨g, 1, none⟩ y).setCell ⟨g, 2, none⟩ z).setCell ⟨g, 3, none⟩ u) :=
  (((h.setCell hg x).setCell hg y).setCell hg z).setCell hg u
/-- what a function that answers a value leaves -/
def Val (c : Vm.Cl) (w : World) (e : Ending) (w' : World) : Prop := e = .returned (.agg #[.int .i64 c.k, .int .i64 c.n, .int .i64 c.sc, .string c.s]) ∧ Below w.heap.size w w'
/-- a value that lies in a block of its own -/
structure Bx (g : Nat) (k n sc : Int) (s : ByteArray) (w : World) : Prop where
  c0 : w.cell? ⟨g, 0, none⟩ = some (.int .i64 k)
  c1 : w.cell? ⟨g, 1, none⟩ = some (.int .i64 n)
  c2 : w.cell? ⟨g, 2, none⟩ = some (.int .i64 sc)
  c3 : w.cell? ⟨g, 3, none⟩ = some (.string s)
  lt : g < w.heap.size
theorem Bx.keep {g : Nat} {k n sc : Int} {s : ByteArray} {w w' : World} (h : Bx g k n sc s w) (hb : Below w.heap.size w w') : Bx g k n sc s w' :=
  ⟨(hb.cell (p := ⟨g, 0, none⟩) h.lt).trans h.c0, (hb.cell (p := ⟨g, 1, none⟩) h.lt).trans h.c1, (hb.cell (p := ⟨g, 2, none⟩) h.lt).trans h.c2, (hb.cell (p := ⟨g, 3, none⟩) h.lt).trans h.c3, by have := h.lt; have := hb.size; omega⟩
theorem ref3_plain (k n sc : Int) (s : ByteArray) (w : World) (hz : s.size ≤ maxLen) : Calls Tryd.prog 11 #[.agg #[.int .i64 k, .int .i64 n, .int .i64 sc, .string s]] w (Val (Vm.plain ⟨k, n, sc, s⟩) w) := by
  have HR := Lib.hid (ref3_right k n sc s · hz)
  unfold Vm.plain
  revert HR
  generalize Vm.rightB ⟨k, n, sc, s⟩ = b
  intro HR
  clear hz
  cases b
  · show Calls _ _ _ _ (Val Vm.nil w)
    go_enter Tryd.func11, Tryd.ntmps11
    go_wp2_with fail
    refine (HR.out _).mono ?_
    rintro e w1 ⟨rfl, hb⟩
    have HB := Lib.hid hb
    obtain ⟨hc, hf⟩ := bcell3 hb
    have hlt : w.heap.size + 1 < w1.heap.size := by have := hb.size; simp at this; omega
    clear hb HR
    go_wp2
    refine bodyPost_ret (v := .agg #[.int .i64 0, .int .i64 0, .int .i64 0, .string ⟨#[]⟩]) (by simp [results, Tryd.results11, go_sem, hc]) rfl ⟨rfl, ?_⟩
    exact set4 ((two w _ _).trans (HB.out.mono (by simp; omega))) (Nat.le_succ _) _ _ _ _
  · show Calls _ _ _ _ (Val ⟨k, n, sc, s⟩ w)
    go_enter Tryd.func11, Tryd.ntmps11
    go_wp2_with fail
    refine (HR.out _).mono ?_
    rintro e w1 ⟨rfl, hb⟩
    have HB := Lib.hid hb
    obtain ⟨hc, hf⟩ := bcell3 hb
    have hlt : w.heap.size + 1 < w1.heap.size := by have := hb.size; simp at this; omega
    clear hb HR
    go_wp2
    refine bodyPost_ret (v := .agg #[.int .i64 k, .int .i64 n, .int .i64 sc, .string s]) (by simp [results, Tryd.results11, go_sem, hc]) rfl ⟨rfl, ?_⟩
    exact set4 ((two w _ _).trans (HB.out.mono (by simp; omega))) (Nat.le_succ _) _ _ _ _
end Go.Proofs.YtamclbagafcmgaaDoor
/- The reference of layer 3: Of. -/
namespace Go.Proofs.YtamclbagafcmgaaDoor
open Go.RowKit

theorem Bx.new (w : World) (k n sc : Int) (s : ByteArray) (t : TypeId) : Bx w.heap.size k n sc s (w.alloc (.cells #[.int .i64 k, .int .i64 n, .int .i64 sc, .string s] t)) :=
  ⟨by simp, by simp, by simp, by simp, by simp⟩
theorem Bx.alloc {g : Nat} {k n sc : Int} {s : ByteArray} {w : World} (h : Bx g k n sc s w) (x : Obj) : Bx g k n sc s (w.alloc x) := h.keep ((Below.refl _ _).alloc (Nat.le_refl _) _)
/-- a type that lies in a block of its own -/
structure Tx (g : Nat) (k sc : Int) (w : World) : Prop where
  c0 : w.cell? ⟨g, 0, none⟩ = some (.int .i64 k)
  c1 : w.cell? ⟨g, 1, none⟩ = some (.int .i64 sc)
  lt : g < w.heap.size
theorem Tx.keep {g : Nat} {k sc : Int} {w w' : World} (h : Tx g k sc w) (hb : Below w.heap.size w w') : Tx g k sc w' :=
  ⟨(hb.cell (p := ⟨g, 0, none⟩) h.lt).trans h.c0, (hb.cell (p := ⟨g, 1, none⟩) h.lt).trans h.c1, by have := h.lt; have := hb.size; omega⟩
theorem Tx.new (w : World) (k sc : Int) (t : TypeId) : Tx w.heap.size k sc (w.alloc (.cells #[.int .i64 k, .int .i64 sc] t)) := ⟨by simp, by simp, by simp⟩
end Go.Proofs.YtamclbagafcmgaaDoor
