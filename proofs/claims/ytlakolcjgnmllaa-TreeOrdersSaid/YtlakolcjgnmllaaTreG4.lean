/- Layer 8: two trees side by side. -/
import Derived.Test.YtlakolcjgnmllaaTreW0
namespace Go.Proofs.Ytlakolcjgnmllaa
open Go.RowKit

theorem Yt.at8 {a : Option Addr} {n c : Nat} {l : List UInt8} {w : World} (h : Yt (.slice a n c) l w) (j : Nat) (hj : j < l.length) : ∃ g off, a = some ⟨g, off, none⟩ ∧ g < w.heap.size ∧ w.cell? ⟨g, off + j, none⟩ = some (.int .u8 (l[j].toNat : Int)) := by
  rcases h with ⟨b, d, _, rfl⟩ | ⟨g, off, cap, e, hc, hg, hcell⟩
  · simp at hj
  · injection e with e1 e2 e3
    subst e1
    have := hcell j hj
    exact ⟨g, off, rfl, hg, by rw [this]; simp [List.getD, List.getElem?_eq_getElem hj]⟩
theorem Yt.len8 {a : Option Addr} {n c : Nat} {l : List UInt8} {w : World} (h : Yt (.slice a n c) l w) : n = l.length := by
  obtain ⟨_, _, e⟩ := h.form
  injection e
/-- a string out of bytes that have just been laid -/
theorem lit_str8 (w : World) (C : Array Value) (l : List UInt8) (n : Nat) (hn : n = l.length) (h : C.toList = yc l) : (convert 49 9 (.slice (some ⟨w.heap.size, 0, none⟩) n n)).run Try.prog (w.alloc (.cells C 5)) = .ok (.string (bstr l)) (w.alloc (.cells C 5)) := by
  subst hn
  refine Yt.str (.inr ⟨w.heap.size, 0, l.length, rfl, Nat.le_refl _, by simp, fun j hj => ?_⟩)
  rw [Lib.cell_of_heap (heap_alloc_new w _), Nat.zero_add, ← Array.getElem?_toList, h, yc_get]
  simp [List.getD, hj]
theorem ins_len1 {l : List Tm.E} (k : Tm.K) (v : Int) (h : Tm.Asc l) : (Tm.ins l k v).length ≤ l.length + 1 := by rw [Tm.ins_len _ _ _ h]; split <;> omega
theorem del_len1 {l : List Tm.E} (k : Tm.K) : (Tm.del l k).length ≤ l.length := List.length_filter_le _ _
/-- a tree b and others -/
structure P2 (W : World) (ex : Nat → Prop) (a b : Nat) (la lb : List Tm.E) (w : World) : Prop where
  A : Te ex a la w
  B : Te ex b lb w
  ne : a ≠ b
  bel : Below W.heap.size W w
  lo : ∀ k, ex k → W.heap.size ≤ k ∧ k < w.heap.size
section
variable {W w w' : World} {ex : Nat → Prop} {a b : Nat} {la lb : List Tm.E}
theorem P2.hex (h : P2 W ex a b la lb w) : ∀ k, w.heap.size ≤ k → ¬ ex k := fun k hk e => by have := h.lo k e; omega
theorem P2.swap (h : P2 W ex a b la lb w) : P2 W ex b a lb la w := ⟨h.B, h.A, fun e => h.ne e.symm, h.bel, h.lo⟩
theorem P2.below (h : P2 W ex a b la lb w) (hb : Below w.heap.size w w') : P2 W ex a b la lb w' := ⟨h.A.below hb, h.B.below hb, h.ne, h.bel.trans (hb.mono h.bel.size), fun k hk => ⟨(h.lo k hk).1, by have := (h.lo k hk).2; have := hb.size; omega⟩⟩
theorem P2.only (h : P2 W ex a b la lb w) {la' : List Tm.E} (ht : Te ex a la' w') (ho : Only (fun k => k = a) w w') : P2 W ex a b la' lb w' ∧ Only ex w w' :=
  ⟨⟨ht, h.B.other ho h.A.mu (fun e => h.ne e.symm), h.ne, below_only8 h.bel ho (h.lo a h.A.mu).1 h.bel.size, fun k hk => ⟨(h.lo k hk).1, by have := (h.lo k hk).2; have := ho.size; omega⟩⟩, only_mono8 ho (fun k e => e ▸ h.A.mu)⟩
theorem p2_put {k : Tm.K} {v : Int} (h : P2 W ex a b la lb w) (hs : la.length ≤ 300000) :
    Calls Try.prog 10 #[.pointer (some ⟨a, 0, none⟩), .string (bstr k), .int .i64 v] w fun e w' => e = .returned (.bool (!Tm.has la k)) ∧ P2 W ex a b (Tm.ins la k v) lb w' ∧ Only ex w w' := by
  refine (te_put h.A hs h.hex).mono ?_
  rintro e w' ⟨rfl, h1, h2⟩
  exact ⟨rfl, h.only h1 h2⟩
theorem p2_delete {k : Tm.K} (h : P2 W ex a b la lb w) (hs : la.length ≤ 300000) :
    Calls Try.prog 12 #[.pointer (some ⟨a, 0, none⟩), .string (bstr k)] w fun e w' => e = .returned (.bool (Tm.has la k)) ∧ P2 W ex a b (Tm.del la k) lb w' ∧ Only ex w w' := by
  refine (te_delete h.A hs h.hex).mono ?_
  rintro e w' ⟨rfl, h1, h2⟩
  exact ⟨rfl, h.only h1 h2⟩
theorem p2_get {k : Tm.K} (h : P2 W ex a b la lb w) : Calls Try.prog 14 #[.pointer (some ⟨a, 0, none⟩), .string (bstr k)] w fun e w' => e = .returned (.tuple #[.int .i64 (Tm.get la k).1, .bool (Tm.get la k).2]) ∧ P2 W ex a b la lb w' ∧ Below w.heap.size w w' := by
  refine (tq_get h.A.tq h.hex).mono ?_
  rintro e w' ⟨rfl, h2⟩
  exact ⟨rfl, h.below h2, h2⟩
theorem p2_len (h : P2 W ex a b la lb w) : Calls Try.prog 16 #[.pointer (some ⟨a, 0, none⟩)] w fun e w' => e = .returned (.int .i64 (la.length : Int)) ∧ P2 W ex a b la lb w' ∧ Below w.heap.size w w' := by
  refine (tq_len h.A.tq h.hex).mono ?_
  rintro e w' ⟨rfl, h2⟩
  exact ⟨rfl, h.below h2, h2⟩
theorem p2_levels (h : P2 W ex a b la lb w) (hs : la.length ≤ 300000) : Calls Try.prog 24 #[.pointer (some ⟨a, 0, none⟩)] w fun e w' => ∃ n : Nat, e = .returned (.int .i64 (n : Int)) ∧ Hid (Lv la n) ∧ P2 W ex a b la lb w' ∧ Below w.heap.size w w' := by
  refine (tq_levels h.A.tq hs h.hex).mono ?_
  rintro e w' ⟨n, rfl, h2, h3⟩
  exact ⟨n, rfl, h2, h.below h3, h3⟩
theorem p2_rank {k : Tm.K} (h : P2 W ex a b la lb w) (hs : la.length ≤ 300000) : Calls Try.prog 17 #[.pointer (some ⟨a, 0, none⟩), .string (bstr k)] w fun e w' => e = .returned (.int .i64 (Tm.rank la k : Int)) ∧ P2 W ex a b la lb w' ∧ Below w.heap.size w w' := by
  refine (tq_rank h.A.tq hs h.hex).mono ?_
  rintro e w' ⟨rfl, h2⟩
  exact ⟨rfl, h.below h2, h2⟩
theorem p2_from {k : Tm.K} (h : P2 W ex a b la lb w) : Calls Try.prog 21 #[.pointer (some ⟨a, 0, none⟩), .string (bstr k)] w fun e w' => ∃ u, e = .returned u ∧ Hid (∃ B, B ≤ w'.heap.size ∧ Sq ex B u (Tm.from_ la k) w') ∧ P2 W ex a b la lb w' ∧ Below w.heap.size w w' := by
  refine (tre_seqFrom (some ⟨a, 0, none⟩) rfl h.A.tq h.hex).mono ?_
  rintro e w' ⟨u, rfl, h2, h3⟩
  exact ⟨u, rfl, ⟨_, h3.size, h2⟩, h.below h3, h3⟩
theorem p2_back {k : Tm.K} (h : P2 W ex a b la lb w) : Calls Try.prog 22 #[.pointer (some ⟨a, 0, none⟩), .string (bstr k)] w fun e w' => ∃ u, e = .returned u ∧ Hid (∃ B, B ≤ w'.heap.size ∧ Sq ex B u (Tm.back la k) w') ∧ P2 W ex a b la lb w' ∧ Below w.heap.size w w' := by
  refine (tre_seqBack (some ⟨a, 0, none⟩) rfl h.A.tq h.hex).mono ?_
  rintro e w' ⟨u, rfl, h2, h3⟩
  exact ⟨u, rfl, ⟨_, h3.size, h2⟩, h.below h3, h3⟩
theorem p2_taken {u : Value} {L : List Tm.E} {most : Nat} (h : P2 W ex a b la lb w) (hs : ∃ B, B ≤ w.heap.size ∧ Sq ex B u L w) (h1 : 1 ≤ most) (h2 : most ≤ 10000) :
    Calls Try.prog 20 #[u, .int .i64 (most : Int)] w fun e w' => ∃ x n c, e = .returned (.slice x n c) ∧ Hid (Ps ex (.slice x n c) (L.take most) w' ∧ n = (L.take most).length) ∧ P2 W ex a b la lb w' ∧ Below w.heap.size w w' := by
  obtain ⟨B, hB, hs⟩ := hs
  refine (tre_taken hs hB h1 h2 h.hex).mono ?_
  rintro e w' ⟨v, rfl, h2, h3⟩
  obtain ⟨x, c, rfl⟩ := h2.form
  exact ⟨x, _, c, rfl, ⟨h2, rfl⟩, h.below h3, h3⟩
/-- two empty trees -/
theorem p2_new (hb : Below W.heap.size W w) : P2 W (exs (exs e0 w.heap.size) (w.heap.size + 1)) w.heap.size (w.heap.size + 1) [] [] ((w.alloc (.cells #[.pointer none] 60)).alloc (.cells #[.pointer none] 60)) := by
  have h1 : Te (exs e0 w.heap.size) w.heap.size [] (w.alloc (.cells #[.pointer none] 60)) := Te.new w
  have h2 : Te (exs (exs e0 w.heap.size) (w.heap.size + 1)) (w.heap.size + 1) [] ((w.alloc (.cells #[.pointer none] 60)).alloc (.cells #[.pointer none] 60)) := by
    have := Te.new (ex := exs e0 w.heap.size) (w.alloc (.cells #[.pointer none] 60))
    rw [World.size_alloc] at this
    exact this
  refine ⟨(h1.more (t2 := w.heap.size + 1) (by simp)).below (one_b8 _ _), h2, by omega, (hb.alloc hb.size _).alloc (by have := hb.size; simp; omega) _, fun k hk => ?_⟩
  have := hb.size
  simp only [World.size_alloc]
  rcases hk with (hk | rfl) | rfl
  · exact hk.elim
  · omega
  · omega
end
end Go.Proofs.Ytlakolcjgnmllaa
