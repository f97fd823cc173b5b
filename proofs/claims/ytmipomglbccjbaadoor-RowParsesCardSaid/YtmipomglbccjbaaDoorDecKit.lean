/- Slices of ints in memory, for the walks over the reference of layer 2. -/
import Derived.Test.YtmipomglbccjbaaDoorRows
import Derived.KernelRfl
import Derived.Test.YtmipomglbccjbaaDoorKitAppend
import Derived.Lib.Hide
import Derived.Lib.Builder
namespace Go.Proofs.YtmipomglbccjbaaDoor
open Go.RowKit
/-- ints as cells -/
def ic (l : List Int) : List Value := l.map (Value.int .i64)
theorem ic_length (l : List Int) : (ic l).length = l.length := by simp [ic]
theorem ic_get (l : List Int) (j : Nat) : (ic l)[j]? = l[j]?.map (Value.int .i64) := by simp [ic]
/-- A SLICE OF INTS that reads as l. -/
def IntC (v : Value) (l : List Int) (w : World) : Prop :=
  (∃ a c, v = .slice a 0 c ∧ l = []) ∨
  ∃ g off cap, v = .slice (some ⟨g, off, none⟩) l.length cap ∧ l.length ≤ cap ∧ g < w.heap.size ∧ ∀ j, j < l.length → w.cell? ⟨g, off + j, none⟩ = some (Value.int .i64 (l.getD j 0))
theorem IntC.keep {v : Value} {l : List Int} {w w' : World} (h : IntC v l w) (hb : Below w.heap.size w w') : IntC v l w' := by
  rcases h with h | ⟨g, off, cap, rfl, hc, hg, hcell⟩
  · exact .inl h
  · exact .inr ⟨g, off, cap, rfl, hc, by have := hb.size; omega, fun j hj => (hb.cell (p := ⟨g, off + j, none⟩) hg).trans (hcell j hj)⟩
theorem IntC.drew {v : Value} {l : List Int} {w : World} (h : IntC v l w) : IntC v l w.drew := h
theorem IntC.form {v : Value} {l : List Int} {w : World} (h : IntC v l w) : ∃ a c, v = .slice a l.length c := by
  rcases h with ⟨a, c, rfl, rfl⟩ | ⟨g, off, cap, rfl, _⟩
  · exact ⟨_, _, rfl⟩
  · exact ⟨_, _, rfl⟩
/-- the cell of an element -/
theorem IntC.at {a : Option Addr} {n c : Nat} {l : List Int} {w : World} (h : IntC (.slice a n c) l w) (j : Nat) (hj : j < n) : ∃ g off, a = some ⟨g, off, none⟩ ∧ g < w.heap.size ∧ w.cell? ⟨g, off + j, none⟩ = some (.int .i64 (l.getD j 0)) := by
  rcases h with ⟨a', c', e, rfl⟩ | ⟨g, off, cap, e, hc, hg, hcell⟩
  · simp only [Value.slice.injEq] at e; omega
  · simp only [Value.slice.injEq] at e
    obtain ⟨rfl, rfl, rfl⟩ := e
    exact ⟨g, off, rfl, hg, hcell j hj⟩
theorem IntC.of_own {w : World} {B : Nat} {v : Value} {l : List Int} {n : Nat} (h : w.ownsRow B 3 1 v n (ic l)) : IntC v l w := by
  obtain ⟨h1, h2⟩ := h
  have hn : l.length = n := by rw [ic_length] at h1; omega
  rcases h2 with ⟨rfl, rfl⟩ | ⟨g, cap, cur, rfl, _, hg, hc, hm, hs, ht⟩
  · exact .inl ⟨_, _, rfl, List.eq_nil_of_length_eq_zero hn⟩
  · refine .inr ⟨g, 0, cap, by rw [hn], by omega, (Array.getElem?_eq_some_iff.1 hg).1, fun j hj => ?_⟩
    have hb : (ic l)[j]? = some (Value.int .i64 (l.getD j 0)) := by rw [ic_get]; simp [List.getD, hj]
    rw [← ht, List.getElem?_take] at hb
    rw [Lib.cell_of_heap hg, Nat.zero_add]
    split at hb
    · simpa using hb
    · cases hb
end Go.Proofs.YtmipomglbccjbaaDoor
