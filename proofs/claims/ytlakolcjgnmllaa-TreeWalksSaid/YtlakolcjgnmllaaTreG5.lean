/- Layer 8: a tree by itself. -/
import Derived.Test.YtlakolcjgnmllaaTreG4
namespace Go.Proofs.Ytlakolcjgnmllaa
open Go.RowKit

/-- a tree -/
structure P1 (W : World) (ex : Nat → Prop) (a : Nat) (la : List Tm.E) (w : World) : Prop where
  A : Te ex a la w
  bel : Below W.heap.size W w
  lo : ∀ k, ex k → W.heap.size ≤ k ∧ k < w.heap.size
section
variable {W w w' : World} {ex : Nat → Prop} {a : Nat} {la : List Tm.E}
theorem P1.hex (h : P1 W ex a la w) : ∀ k, w.heap.size ≤ k → ¬ ex k := fun k hk e => by have := h.lo k e; omega
theorem P1.below (h : P1 W ex a la w) (hb : Below w.heap.size w w') : P1 W ex a la w' := ⟨h.A.below hb, h.bel.trans (hb.mono h.bel.size), fun k hk => ⟨(h.lo k hk).1, by have := (h.lo k hk).2; have := hb.size; omega⟩⟩
theorem P1.only (h : P1 W ex a la w) {la' : List Tm.E} (ht : Te ex a la' w') (ho : Only (fun k => k = a) w w') : P1 W ex a la' w' ∧ Only ex w w' :=
  ⟨⟨ht, below_only8 h.bel ho (h.lo a h.A.mu).1 h.bel.size, fun k hk => ⟨(h.lo k hk).1, by have := (h.lo k hk).2; have := ho.size; omega⟩⟩, only_mono8 ho (fun k e => e ▸ h.A.mu)⟩
theorem p1_put {k : Tm.K} {v : Int} (h : P1 W ex a la w) (hs : la.length ≤ 300000) :
    Calls Try.prog 10 #[.pointer (some ⟨a, 0, none⟩), .string (bstr k), .int .i64 v] w fun e w' => e = .returned (.bool (!Tm.has la k)) ∧ P1 W ex a (Tm.ins la k v) w' ∧ Only ex w w' := by
  refine (te_put h.A hs h.hex).mono ?_
  rintro e w' ⟨rfl, h1, h2⟩
  exact ⟨rfl, h.only h1 h2⟩
theorem p1_delete {k : Tm.K} (h : P1 W ex a la w) (hs : la.length ≤ 300000) :
    Calls Try.prog 12 #[.pointer (some ⟨a, 0, none⟩), .string (bstr k)] w fun e w' => e = .returned (.bool (Tm.has la k)) ∧ P1 W ex a (Tm.del la k) w' ∧ Only ex w w' := by
  refine (te_delete h.A hs h.hex).mono ?_
  rintro e w' ⟨rfl, h1, h2⟩
  exact ⟨rfl, h.only h1 h2⟩
theorem p1_get {k : Tm.K} (h : P1 W ex a la w) : Calls Try.prog 14 #[.pointer (some ⟨a, 0, none⟩), .string (bstr k)] w fun e w' => e = .returned (.tuple #[.int .i64 (Tm.get la k).1, .bool (Tm.get la k).2]) ∧ P1 W ex a la w' ∧ Below w.heap.size w w' := by
  refine (tq_get h.A.tq h.hex).mono ?_
  rintro e w' ⟨rfl, h2⟩
  exact ⟨rfl, h.below h2, h2⟩
theorem p1_len (h : P1 W ex a la w) : Calls Try.prog 16 #[.pointer (some ⟨a, 0, none⟩)] w fun e w' => e = .returned (.int .i64 (la.length : Int)) ∧ P1 W ex a la w' ∧ Below w.heap.size w w' := by
  refine (tq_len h.A.tq h.hex).mono ?_
  rintro e w' ⟨rfl, h2⟩
  exact ⟨rfl, h.below h2, h2⟩
theorem p1_levels (h : P1 W ex a la w) (hs : la.length ≤ 300000) : Calls Try.prog 24 #[.pointer (some ⟨a, 0, none⟩)] w fun e w' => ∃ n : Nat, e = .returned (.int .i64 (n : Int)) ∧ Hid (Lv la n) ∧ P1 W ex a la w' ∧ Below w.heap.size w w' := by
  refine (tq_levels h.A.tq hs h.hex).mono ?_
  rintro e w' ⟨n, rfl, h2, h3⟩
  exact ⟨n, rfl, h2, h.below h3, h3⟩
theorem p1_rank {k : Tm.K} (h : P1 W ex a la w) (hs : la.length ≤ 300000) : Calls Try.prog 17 #[.pointer (some ⟨a, 0, none⟩), .string (bstr k)] w fun e w' => e = .returned (.int .i64 (Tm.rank la k : Int)) ∧ P1 W ex a la w' ∧ Below w.heap.size w w' := by
  refine (tq_rank h.A.tq hs h.hex).mono ?_
  rintro e w' ⟨rfl, h2⟩
  exact ⟨rfl, h.below h2, h2⟩
theorem p1_from {k : Tm.K} (h : P1 W ex a la w) : Calls Try.prog 21 #[.pointer (some ⟨a, 0, none⟩), .string (bstr k)] w fun e w' => ∃ u, e = .returned u ∧ Hid (∃ B, B ≤ w'.heap.size ∧ Sq ex B u (Tm.from_ la k) w') ∧ P1 W ex a la w' ∧ Below w.heap.size w w' := by
  refine (tre_seqFrom (some ⟨a, 0, none⟩) rfl h.A.tq h.hex).mono ?_
  rintro e w' ⟨u, rfl, h2, h3⟩
  exact ⟨u, rfl, ⟨_, h3.size, h2⟩, h.below h3, h3⟩
theorem p1_back {k : Tm.K} (h : P1 W ex a la w) : Calls Try.prog 22 #[.pointer (some ⟨a, 0, none⟩), .string (bstr k)] w fun e w' => ∃ u, e = .returned u ∧ Hid (∃ B, B ≤ w'.heap.size ∧ Sq ex B u (Tm.back la k) w') ∧ P1 W ex a la w' ∧ Below w.heap.size w w' := by
  refine (tre_seqBack (some ⟨a, 0, none⟩) rfl h.A.tq h.hex).mono ?_
  rintro e w' ⟨u, rfl, h2, h3⟩
  exact ⟨u, rfl, ⟨_, h3.size, h2⟩, h.below h3, h3⟩
theorem p1_taken {u : Value} {L : List Tm.E} {most : Nat} (h : P1 W ex a la w) (hs : ∃ B, B ≤ w.heap.size ∧ Sq ex B u L w) (h1 : 1 ≤ most) (h2 : most ≤ 10000) :
    Calls Try.prog 20 #[u, .int .i64 (most : Int)] w fun e w' => ∃ x n c, e = .returned (.slice x n c) ∧ Hid (Ps ex (.slice x n c) (L.take most) w' ∧ n = (L.take most).length) ∧ P1 W ex a la w' ∧ Below w.heap.size w w' := by
  obtain ⟨B, hB, hs⟩ := hs
  refine (tre_taken hs hB h1 h2 h.hex).mono ?_
  rintro e w' ⟨v, rfl, h2, h3⟩
  obtain ⟨x, c, rfl⟩ := h2.form
  exact ⟨x, _, c, rfl, ⟨h2, rfl⟩, h.below h3, h3⟩
theorem p1_at {m0 : Nat} {E : Tm.E} (h : P1 W ex a la w) (hs : la.length ≤ 300000) (hE : la[m0]? = some E) : Calls Try.prog 26 #[.pointer (some ⟨a, 0, none⟩), .int .i64 (m0 : Int)] w fun e w' => e = .returned (.tuple #[.string (bstr E.1), .int .i64 E.2, .bool true]) ∧ P1 W ex a la w' ∧ Below w.heap.size w w' := by
  refine (tq_at h.A.tq hs h.hex hE).mono ?_
  rintro e w' ⟨rfl, h2⟩
  exact ⟨rfl, h.below h2, h2⟩
theorem p1_at_no {i : Int} (h : P1 W ex a la w) (hi : i < 0 ∨ (la.length : Int) ≤ i) : Calls Try.prog 26 #[.pointer (some ⟨a, 0, none⟩), .int .i64 i] w fun e w' => e = .returned (.tuple #[.string ⟨#[]⟩, .int .i64 0, .bool false]) ∧ P1 W ex a la w' ∧ Below w.heap.size w w' := by
  refine (tq_at_no h.A.tq h.hex hi).mono ?_
  rintro e w' ⟨rfl, h2⟩
  exact ⟨rfl, h.below h2, h2⟩
/-- an empty tree -/
theorem p1_new (hb : Below W.heap.size W w) : P1 W (exs e0 w.heap.size) w.heap.size [] (w.alloc (.cells #[.pointer none] 60)) := by
  refine ⟨Te.new w, hb.alloc hb.size _, fun k hk => ?_⟩
  have := hb.size
  simp only [World.size_alloc]
  rcases hk with hk | rfl
  · exact hk.elim
  · omega
end
end Go.Proofs.Ytlakolcjgnmllaa
