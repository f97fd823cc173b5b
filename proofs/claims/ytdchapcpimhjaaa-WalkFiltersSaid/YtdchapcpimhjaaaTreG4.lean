/- Layer 8: two trees side by side. -/
import Derived.Test.YtdchapcpimhjaaaTreW0
namespace Go.Proofs.Ytdchapcpimhjaaa
open Go.RowKit

theorem Yt.at8 {a : Option Addr} {n c : Nat} {l : List UInt8} {w : World} (h : Yt (.slice a n c) l w) (j : Nat) (hj : j < l.length) : ∃ g off, a = some ⟨g, off, none⟩ ∧ g < w.heap.size ∧ w.cell? ⟨g, off + j, none⟩ = some (.int .u8 (l[j].toNat : Int)) := by
  rcases h with ⟨b, d, _, rfl⟩ | ⟨g, off, cap, e, hc, hg, hcell⟩
  · simp at hj
  · injection e with e1 e2 e3
    subst e1
    have := hcell j hj
    exact ⟨g, off, rfl, hg, by rw [this]; simp [List.getD, List.getElem?_eq_getElem hj]⟩
theorem Yt.len8 {a : Option Addr} {n c : Nat} {l : List UInt8} {w : World} (h : Yt (.slice a n c) l w) : n = l.length := by
  obtain ⟨_, _, e⟩ := h.form
  injection e
theorem ins_len1 {l : List Tm.E} (k : Tm.K) (v : Int) (h : Tm.Asc l) : (Tm.ins l k v).length ≤ l.length + 1 := by rw [Tm.ins_len _ _ _ h]; split <;> omega
theorem del_len1 {l : List Tm.E} (k : Tm.K) : (Tm.del l k).length ≤ l.length := List.length_filter_le _ _
/-- a tree b and others -/
structure P2 (W : World) (ex : Nat → Prop) (a b : Nat) (la lb : List Tm.E) (w : World) : Prop where
  A : Te ex a la w
  B : Te ex b lb w
  ne : a ≠ b
  bel : Below W.heap.size W w
  lo : ∀ k, ex k → W.heap.size ≤ k ∧ k < w.heap.size
section
variable {W w w' : World} {ex : Nat → Prop} {a b : Nat} {la lb : List Tm.E}
theorem P2.hex (h : P2 W ex a b la lb w) : ∀ k, w.heap.size ≤ k → ¬ ex k := fun k hk e => by have := h.lo k e; omega
theorem P2.swap (h : P2 W ex a b la lb w) : P2 W ex b a lb la w := ⟨h.B, h.A, fun e => h.ne e.symm, h.bel, h.lo⟩
theorem P2.below (h : P2 W ex a b la lb w) (hb : Below w.heap.size w w') : P2 W ex a b la lb w' := ⟨h.A.below hb, h.B.below hb, h.ne, h.bel.trans (hb.mono h.bel.size), fun k hk => ⟨(h.lo k hk).1, by have := (h.lo k hk).2; have := hb.size; omega⟩⟩
theorem P2.only (h : P2 W ex a b la lb w) {la' : List Tm.E} (ht : Te ex a la' w') (ho : Only (fun k => k = a) w w') : P2 W ex a b la' lb w' ∧ Only ex w w' :=
  ⟨⟨ht, h.B.other ho h.A.mu (fun e => h.ne e.symm), h.ne, below_only8 h.bel ho (h.lo a h.A.mu).1 h.bel.size, fun k hk => ⟨(h.lo k hk).1, by have := (h.lo k hk).2; have := ho.size; omega⟩⟩, only_mono8 ho (fun k e => e ▸ h.A.mu)⟩
theorem p2_put {k : Tm.K} {v : Int} (h : P2 W ex a b la lb w) (hs : la.length ≤ 300000) :
    Calls Try.prog 35 #[.pointer (some ⟨a, 0, none⟩), .string (bstr k), .int .i64 v] w fun e w' => e = .returned (.bool (!Tm.has la k)) ∧ P2 W ex a b (Tm.ins la k v) lb w' ∧ Only ex w w' := by
  refine (te_put h.A hs h.hex).mono ?_
  rintro e w' ⟨rfl, h1, h2⟩
  exact ⟨rfl, h.only h1 h2⟩
theorem p2_get {k : Tm.K} (h : P2 W ex a b la lb w) : Calls Try.prog 51 #[.pointer (some ⟨a, 0, none⟩), .string (bstr k)] w fun e w' => e = .returned (.tuple #[.int .i64 (Tm.get la k).1, .bool (Tm.get la k).2]) ∧ P2 W ex a b la lb w' ∧ Below w.heap.size w w' := by
  refine (tq_get h.A.tq h.hex).mono ?_
  rintro e w' ⟨rfl, h2⟩
  exact ⟨rfl, h.below h2, h2⟩
theorem p2_len (h : P2 W ex a b la lb w) : Calls Try.prog 57 #[.pointer (some ⟨a, 0, none⟩)] w fun e w' => e = .returned (.int .i64 (la.length : Int)) ∧ P2 W ex a b la lb w' ∧ Below w.heap.size w w' := by
  refine (tq_len h.A.tq h.hex).mono ?_
  rintro e w' ⟨rfl, h2⟩
  exact ⟨rfl, h.below h2, h2⟩
theorem p2_from {k : Tm.K} (h : P2 W ex a b la lb w) : Calls Try.prog 15 #[.pointer (some ⟨a, 0, none⟩), .string (bstr k)] w fun e w' => ∃ u, e = .returned u ∧ Hid (∃ B, B ≤ w'.heap.size ∧ Sq ex B u (Tm.from_ la k) w') ∧ P2 W ex a b la lb w' ∧ Below w.heap.size w w' := by
  refine (tre_seqFrom (some ⟨a, 0, none⟩) rfl h.A.tq h.hex).mono ?_
  rintro e w' ⟨u, rfl, h2, h3⟩
  exact ⟨u, rfl, ⟨_, h3.size, h2⟩, h.below h3, h3⟩
/-- two empty trees -/
theorem p2_new (hb : Below W.heap.size W w) : P2 W (exs (exs e0 w.heap.size) (w.heap.size + 1)) w.heap.size (w.heap.size + 1) [] [] ((w.alloc (.cells #[.pointer none] 84)).alloc (.cells #[.pointer none] 84)) := by
  have h1 : Te (exs e0 w.heap.size) w.heap.size [] (w.alloc (.cells #[.pointer none] 84)) := Te.new w
  have h2 : Te (exs (exs e0 w.heap.size) (w.heap.size + 1)) (w.heap.size + 1) [] ((w.alloc (.cells #[.pointer none] 84)).alloc (.cells #[.pointer none] 84)) := by
    have := Te.new (ex := exs e0 w.heap.size) (w.alloc (.cells #[.pointer none] 84))
    rw [World.size_alloc] at this
    exact this
  refine ⟨(h1.more (t2 := w.heap.size + 1) (by simp)).below (one_b8 _ _), h2, by omega, (hb.alloc hb.size _).alloc (by have := hb.size; simp; omega) _, fun k hk => ?_⟩
  have := hb.size
  simp only [World.size_alloc]
  rcases hk with (hk | rfl) | rfl
  · exact hk.elim
  · omega
  · omega
end
end Go.Proofs.Ytdchapcpimhjaaa
