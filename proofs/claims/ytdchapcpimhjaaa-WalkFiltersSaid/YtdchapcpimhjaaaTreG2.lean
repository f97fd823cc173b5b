/- taken: the first ones of a walk. -/
import Derived.OwnWalkIn
import Derived.Test.YtdchapcpimhjaaaTreE7
import Derived.Test.YtdchapcpimhjaaaTreG1
namespace Go.Proofs.Ytdchapcpimhjaaa
open Go.RowKit Go.Shelf

attribute [local go_sem] Oper.semAt_some

theorem info2g : (Try.prog.info? 50).map (fun i => (i.zero, i.size, i.bytes)) = some (some (.agg #[.string ⟨#[]⟩, .int .i64 0]), 2, 24) := by kernel_rfl
/-- behind some pairs: the list in the box behind p -/
structure Tk (p : Nat) (most : Int) (W : World) (pre : List Tm.E) (wx : World) : Prop where
  bm : Boxed wx p 3 (.int .i64 most)
  bo : ∃ a c, Boxed wx (p + 1) 25 (.slice a pre.length c) ∧ wx.ownsRow (p + 1) 50 2 (.slice a pre.length c) pre.length (pcs pre)
  bel : Below p W wx
  sz : p + 2 ≤ wx.heap.size
theorem grown_block8 {w w' : World} {row : Option Nat} (hg : w.grownBy w' row) (hr : ∀ r, row = some r → ∃ o : Obj, w.heap[r]? = some o ∧ o.isCells = false) {k : Nat} {o : Obj} (h : w.heap[k]? = some o) (ho : o.isCells = true) : w'.heap[k]? = some o := by
  rw [hg.block k (heap_lt h) (fun e => ?_)]
  · exact h
  · obtain ⟨o', h1, h2⟩ := hr k e.symm
    rw [h] at h1
    injection h1 with h1
    subst h1
    rw [ho] at h2
    cases h2
theorem own_grown8 {w w' : World} {B : Nat} {E : TypeId} {sz n : Nat} {v : Value} {xs : List Value} {row : Option Nat} (h : w.ownsRow B E sz v n xs) (hg : w.grownBy w' row) (hr : ∀ r, row = some r → ∃ o : Obj, w.heap[r]? = some o ∧ o.isCells = false) : w'.ownsRow B E sz v n xs := by
  obtain ⟨h1, h2⟩ := h
  refine ⟨h1, ?_⟩
  rcases h2 with h2 | ⟨g, cap, cur, hv, hB, hg2, rest⟩
  · exact .inl h2
  · exact .inr ⟨g, cap, cur, hv, hB, grown_block8 hg hr hg2 rfl, rest⟩
theorem Tk.own {p : Nat} {most : Int} {W : World} {B : Nat} (hB : p ≤ B) : OwnFrom B (Tk p most W) := fun s X Y row h hg hr => by
  have hr' := fun r e => (hr r e).2
  obtain ⟨a, c, h1, h2⟩ := h.bo
  exact ⟨grown_block8 hg hr' h.bm rfl, ⟨a, c, grown_block8 hg hr' h1 rfl, own_grown8 h2 hg hr'⟩, h.bel.grown hg (by have := h.sz; omega) (fun k e => Nat.le_trans hB (hr k e).1), by have := h.sz; have := hg.size; omega⟩
theorem only_putObj8 {ex : Nat → Prop} {B : Nat} (W : World) (l : Nat) (o o' : Obj) (hl : B ≤ l) (_ : W.heap[l]? = some o) : Only (Kx ex B) W (W.putObj l o') :=
  ⟨rfl, rfl, rfl, by simp, fun k _ hk => World.putObj_heap_other (fun e => hk (.inr (by omega)))⟩
theorem only_trans8 {p : Nat → Prop} {A B C : World} (h : Only p A B) (k : Only p B C) : Only p A C := h.trans k
theorem only_below8 {ex : Nat → Prop} {B p : Nat} {w w' : World} (h : Below p w w') (hB : B ≤ p) : Only (Kx ex B) w w' :=
  ⟨h.os, h.tape, h.output, h.size, fun k _ hk => h.block k (by unfold Kx at hk; omega)⟩
end Go.Proofs.Ytdchapcpimhjaaa
