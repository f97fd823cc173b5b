/- The reference of layer 3: Of. -/
import Derived.Test.YtmipomglbccjbaaDoorValRc
namespace Go.Proofs.YtmipomglbccjbaaDoor
open Go.RowKit

theorem Bx.new (w : World) (k n sc : Int) (s : ByteArray) (t : TypeId) : Bx w.heap.size k n sc s (w.alloc (.cells #[.int .i64 k, .int .i64 n, .int .i64 sc, .string s] t)) :=
  ⟨by simp, by simp, by simp, by simp, by simp⟩
theorem Bx.alloc {g : Nat} {k n sc : Int} {s : ByteArray} {w : World} (h : Bx g k n sc s w) (x : Obj) : Bx g k n sc s (w.alloc x) := h.keep ((Below.refl _ _).alloc (Nat.le_refl _) _)
/-- a type that lies in a block of its own -/
structure Tx (g : Nat) (k sc : Int) (w : World) : Prop where
  c0 : w.cell? ⟨g, 0, none⟩ = some (.int .i64 k)
  c1 : w.cell? ⟨g, 1, none⟩ = some (.int .i64 sc)
  lt : g < w.heap.size
theorem Tx.keep {g : Nat} {k sc : Int} {w w' : World} (h : Tx g k sc w) (hb : Below w.heap.size w w') : Tx g k sc w' :=
  ⟨(hb.cell (p := ⟨g, 0, none⟩) h.lt).trans h.c0, (hb.cell (p := ⟨g, 1, none⟩) h.lt).trans h.c1, by have := h.lt; have := hb.size; omega⟩
theorem Tx.new (w : World) (k sc : Int) (t : TypeId) : Tx w.heap.size k sc (w.alloc (.cells #[.int .i64 k, .int .i64 sc] t)) := ⟨by simp, by simp, by simp⟩
end Go.Proofs.YtmipomglbccjbaaDoor
