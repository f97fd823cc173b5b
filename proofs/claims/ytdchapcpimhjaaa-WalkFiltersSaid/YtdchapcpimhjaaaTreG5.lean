/- Layer 8: a tree by itself. -/
import Derived.Test.YtdchapcpimhjaaaTreG4
namespace Go.Proofs.Ytdchapcpimhjaaa
open Go.RowKit

/-- a tree -/
structure P1 (W : World) (ex : Nat → Prop) (a : Nat) (la : List Tm.E) (w : World) : Prop where
  A : Te ex a la w
  bel : Below W.heap.size W w
  lo : ∀ k, ex k → W.heap.size ≤ k ∧ k < w.heap.size
section
variable {W w w' : World} {ex : Nat → Prop} {a : Nat} {la : List Tm.E}
theorem P1.hex (h : P1 W ex a la w) : ∀ k, w.heap.size ≤ k → ¬ ex k := fun k hk e => by have := h.lo k e; omega
theorem P1.below (h : P1 W ex a la w) (hb : Below w.heap.size w w') : P1 W ex a la w' := ⟨h.A.below hb, h.bel.trans (hb.mono h.bel.size), fun k hk => ⟨(h.lo k hk).1, by have := (h.lo k hk).2; have := hb.size; omega⟩⟩
theorem P1.only (h : P1 W ex a la w) {la' : List Tm.E} (ht : Te ex a la' w') (ho : Only (fun k => k = a) w w') : P1 W ex a la' w' ∧ Only ex w w' :=
  ⟨⟨ht, below_only8 h.bel ho (h.lo a h.A.mu).1 h.bel.size, fun k hk => ⟨(h.lo k hk).1, by have := (h.lo k hk).2; have := ho.size; omega⟩⟩, only_mono8 ho (fun k e => e ▸ h.A.mu)⟩
theorem p1_put {k : Tm.K} {v : Int} (h : P1 W ex a la w) (hs : la.length ≤ 300000) :
    Calls Try.prog 35 #[.pointer (some ⟨a, 0, none⟩), .string (bstr k), .int .i64 v] w fun e w' => e = .returned (.bool (!Tm.has la k)) ∧ P1 W ex a (Tm.ins la k v) w' ∧ Only ex w w' := by
  refine (te_put h.A hs h.hex).mono ?_
  rintro e w' ⟨rfl, h1, h2⟩
  exact ⟨rfl, h.only h1 h2⟩
theorem p1_get {k : Tm.K} (h : P1 W ex a la w) : Calls Try.prog 51 #[.pointer (some ⟨a, 0, none⟩), .string (bstr k)] w fun e w' => e = .returned (.tuple #[.int .i64 (Tm.get la k).1, .bool (Tm.get la k).2]) ∧ P1 W ex a la w' ∧ Below w.heap.size w w' := by
  refine (tq_get h.A.tq h.hex).mono ?_
  rintro e w' ⟨rfl, h2⟩
  exact ⟨rfl, h.below h2, h2⟩
theorem p1_len (h : P1 W ex a la w) : Calls Try.prog 57 #[.pointer (some ⟨a, 0, none⟩)] w fun e w' => e = .returned (.int .i64 (la.length : Int)) ∧ P1 W ex a la w' ∧ Below w.heap.size w w' := by
  refine (tq_len h.A.tq h.hex).mono ?_
  rintro e w' ⟨rfl, h2⟩
  exact ⟨rfl, h.below h2, h2⟩
theorem p1_from {k : Tm.K} (h : P1 W ex a la w) : Calls Try.prog 15 #[.pointer (some ⟨a, 0, none⟩), .string (bstr k)] w fun e w' => ∃ u, e = .returned u ∧ Hid (∃ B, B ≤ w'.heap.size ∧ Sq ex B u (Tm.from_ la k) w') ∧ P1 W ex a la w' ∧ Below w.heap.size w w' := by
  refine (tre_seqFrom (some ⟨a, 0, none⟩) rfl h.A.tq h.hex).mono ?_
  rintro e w' ⟨u, rfl, h2, h3⟩
  exact ⟨u, rfl, ⟨_, h3.size, h2⟩, h.below h3, h3⟩
/-- an empty tree -/
theorem p1_new (hb : Below W.heap.size W w) : P1 W (exs e0 w.heap.size) w.heap.size [] (w.alloc (.cells #[.pointer none] 84)) := by
  refine ⟨Te.new w, hb.alloc hb.size _, fun k hk => ?_⟩
  have := hb.size
  simp only [World.size_alloc]
  rcases hk with hk | rfl
  · exact hk.elim
  · omega
end
end Go.Proofs.Ytdchapcpimhjaaa
