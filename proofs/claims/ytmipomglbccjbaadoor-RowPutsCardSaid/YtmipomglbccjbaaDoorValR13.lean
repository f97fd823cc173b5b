/- The reference of layer 3: Parse, all but Bytes. -/
import Derived.Test.YtmipomglbccjbaaDoorValB
import Derived.Test.YtmipomglbccjbaaDoorValRc
import Derived.Test.YtmipomglbccjbaaDoorDecS2
import Derived.Test.YtmipomglbccjbaaDoorValR6
import Derived.Test.YtmipomglbccjbaaDoorValR1
import Derived.Test.YtmipomglbccjbaaDoorDecP5
namespace Go.Proofs.YtmipomglbccjbaaDoor
open Go.RowKit

/-- what a function that answers a value and a truth leaves -/
def ValB (p : Vm.Cl × Bool) (w : World) (e : Ending) (w' : World) : Prop := e = .returned (.tuple #[.agg #[.int .i64 p.1.k, .int .i64 p.1.n, .int .i64 p.1.sc, .string p.1.s], .bool p.2]) ∧ Below w.heap.size w w'
/-- a value in a block that can be written -/
structure Fx (g : Nat) (k n sc : Int) (s : ByteArray) (w : World) : Prop where
  bx : Bx g k n sc s w
  fz : ∀ o, w.frozen? ⟨g, o, none⟩ = false
theorem Fx.keep {g : Nat} {k n sc : Int} {s : ByteArray} {w w' : World} (h : Fx g k n sc s w) (hb : Below w.heap.size w w') : Fx g k n sc s w' :=
  ⟨h.bx.keep hb, fun o => (hb.frozen (p := ⟨g, o, none⟩) h.bx.lt).trans (h.fz o)⟩
theorem Fx.new (w : World) (k n sc : Int) (s : ByteArray) (t : TypeId) : Fx w.heap.size k n sc s (w.alloc (.cells #[.int .i64 k, .int .i64 n, .int .i64 sc, .string s] t)) := ⟨Bx.new w k n sc s t, fun o => by simp⟩
theorem ad_ne {g g' o o' : Nat} (h : g ≠ g' ∨ o ≠ o') : (⟨g, o, none⟩ : Addr) ≠ ⟨g', o', none⟩ := by
  intro e
  injection e with e1 e2
  rcases h with h | h
  · exact h e1
  · exact h e2
theorem Fx.set {g : Nat} {k n sc : Int} {s : ByteArray} {w : World} (h : Fx g k n sc s w) (k' n' sc' : Int) (s' : ByteArray) :
    Fx g k' n' sc' s' ((((w.setCell ⟨g, 0, none⟩ (.int .i64 k')).setCell ⟨g, 1, none⟩ (.int .i64 n')).setCell ⟨g, 2, none⟩ (.int .i64 sc')).setCell ⟨g, 3, none⟩ (.string s')) := by
  have n01 : (⟨g, 0, none⟩ : Addr) ≠ ⟨g, 1, none⟩ := ad_ne (.inr (by decide))
  have n02 : (⟨g, 0, none⟩ : Addr) ≠ ⟨g, 2, none⟩ := ad_ne (.inr (by decide))
  have n03 : (⟨g, 0, none⟩ : Addr) ≠ ⟨g, 3, none⟩ := ad_ne (.inr (by decide))
  have n12 : (⟨g, 1, none⟩ : Addr) ≠ ⟨g, 2, none⟩ := ad_ne (.inr (by decide))
  have n13 : (⟨g, 1, none⟩ : Addr) ≠ ⟨g, 3, none⟩ := ad_ne (.inr (by decide))
  have n23 : (⟨g, 2, none⟩ : Addr) ≠ ⟨g, 3, none⟩ := ad_ne (.inr (by decide))
  refine ⟨⟨?_, ?_, ?_, ?_, ?_⟩, fun o => ?_⟩
  · rw [World.cell?_setCell_other (h := n03.symm), World.cell?_setCell_other (h := n02.symm), World.cell?_setCell_other (h := n01.symm)]
    exact World.cell?_setCell_same _ _ _ h.bx.c0
  · rw [World.cell?_setCell_other (h := n13.symm), World.cell?_setCell_other (h := n12.symm)]
    exact World.cell?_setCell_same _ _ _ (u := .int .i64 n) (by rw [World.cell?_setCell_other (h := n01)]; exact h.bx.c1)
  · rw [World.cell?_setCell_other (h := n23.symm)]
    exact World.cell?_setCell_same _ _ _ (u := .int .i64 sc) (by rw [World.cell?_setCell_other (h := n12), World.cell?_setCell_other (h := n02)]; exact h.bx.c2)
  · exact World.cell?_setCell_same _ _ _ (u := .string s) (by rw [World.cell?_setCell_other (h := n23), World.cell?_setCell_other (h := n13), World.cell?_setCell_other (h := n03)]; exact h.bx.c3)
  · simp; exact h.bx.lt
  · simp; exact h.fz o
theorem Fx.far {g g' : Nat} {k n sc : Int} {s : ByteArray} {w : World} (h : Fx g k n sc s w) (hg : g' ≠ g) (x y z u : Value) :
    Fx g k n sc s ((((w.setCell ⟨g', 0, none⟩ x).setCell ⟨g', 1, none⟩ y).setCell ⟨g', 2, none⟩ z).setCell ⟨g', 3, none⟩ u) := by
  have e : ∀ o o', (⟨g', o', none⟩ : Addr) ≠ ⟨g, o, none⟩ := fun o o' => ad_ne (.inl hg)
  refine ⟨⟨?_, ?_, ?_, ?_, ?_⟩, fun o => ?_⟩
  · rw [World.cell?_setCell_other (h := e 0 3), World.cell?_setCell_other (h := e 0 2), World.cell?_setCell_other (h := e 0 1), World.cell?_setCell_other (h := e 0 0)]; exact h.bx.c0
  · rw [World.cell?_setCell_other (h := e 1 3), World.cell?_setCell_other (h := e 1 2), World.cell?_setCell_other (h := e 1 1), World.cell?_setCell_other (h := e 1 0)]; exact h.bx.c1
  · rw [World.cell?_setCell_other (h := e 2 3), World.cell?_setCell_other (h := e 2 2), World.cell?_setCell_other (h := e 2 1), World.cell?_setCell_other (h := e 2 0)]; exact h.bx.c2
  · rw [World.cell?_setCell_other (h := e 3 3), World.cell?_setCell_other (h := e 3 2), World.cell?_setCell_other (h := e 3 1), World.cell?_setCell_other (h := e 3 0)]; exact h.bx.c3
  · simp; exact h.bx.lt
  · simp; exact h.fz o
end Go.Proofs.YtmipomglbccjbaaDoor
