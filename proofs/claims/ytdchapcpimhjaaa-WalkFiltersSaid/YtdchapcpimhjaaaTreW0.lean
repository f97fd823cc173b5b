/- Layer 8: first: what must be answered ahead of everything else. -/
import Derived.Test.YtdchapcpimhjaaaTreG2
import Derived.Test.YtdchapcpimhjaaaTreG3
namespace Go.Proofs.Ytdchapcpimhjaaa
open Go.RowKit

theorem below_only8 {B : Nat} {w w1 w2 : World} {g : Nat} (h : Below B w w1) (ho : Only (fun k => k = g) w1 w2) (hg : B ≤ g) (hB : B ≤ w1.heap.size) : Below B w w2 :=
  h.trans ⟨ho.os, ho.tape, ho.output, ho.size, fun k hk => ho.block k (by omega) (by omega)⟩
theorem ps_lit8 {ex : Nat → Prop} {w : World} {cs : Array Value} {l : List Tm.E} (h : cs.toList = pcs l) (hx : ¬ ex w.heap.size) : Ps ex (.slice (some ⟨w.heap.size, 0, none⟩) l.length l.length) l (w.alloc (.cells cs 50)) :=
  .inr ⟨w.heap.size, 0, l.length, rfl, Nat.le_refl _, by simp, hx, fun i u hi => by rw [Lib.cell_of_heap (heap_alloc_new w _), Nat.zero_add, ← Array.getElem?_toList, h]; exact hi⟩
/-- the one tree of first -/
def e0 : Nat → Prop := fun _ => False
structure S8 (W : World) (t : Nat) (l : List Tm.E) (w : World) : Prop where
  te : Te (exs e0 t) t l w
  bel : Below t W w
  eq : t = W.heap.size
section
variable {W w w' : World} {t : Nat} {l : List Tm.E}
theorem S8.ex (h : S8 W t l w) : ∀ k, w.heap.size ≤ k → ¬ exs e0 t k := fun k hk e => by
  rcases e with e | e
  · exact e
  · have := h.te.lt; omega
theorem S8.below (h : S8 W t l w) (hb : Below w.heap.size w w') : S8 W t l w' := ⟨h.te.below hb, h.bel.trans (hb.mono (by have := h.bel.size; have := h.eq; omega)), h.eq⟩
theorem S8.all (h : S8 W t l w) : Below W.heap.size W w := by have := h.bel; rw [h.eq] at this; exact this
theorem S8.only (h : S8 W t l w) {l' : List Tm.E} (ht : Te (exs e0 t) t l' w') (ho : Only (fun k => k = t) w w') : S8 W t l' w' := ⟨ht, below_only8 h.bel ho (Nat.le_refl _) (by have := h.bel.size; have := h.eq; omega), h.eq⟩
theorem s8_put (S : ByteArray) (k : Tm.K) (v : Int) (l' : List Tm.E) (b : Bool) (h : S8 W t l w) (hS : bstr k = S) (h1 : Tm.ins l k v = l') (h2 : (!Tm.has l k) = b) (hs : l.length ≤ 300000) :
    Calls Try.prog 35 #[.pointer (some ⟨t, 0, none⟩), .string S, .int .i64 v] w fun e w' => e = .returned (.bool b) ∧ S8 W t l' w' := by
  subst hS h1 h2
  refine (te_put h.te hs h.ex).mono ?_
  rintro e w' ⟨rfl, h1, h2⟩
  exact ⟨rfl, h.only h1 h2⟩
theorem s8_get (S : ByteArray) (k : Tm.K) (v : Int) (b : Bool) (h : S8 W t l w) (hS : bstr k = S) (h1 : Tm.get l k = (v, b)) :
    Calls Try.prog 51 #[.pointer (some ⟨t, 0, none⟩), .string S] w fun e w' => e = .returned (.tuple #[.int .i64 v, .bool b]) ∧ S8 W t l w' := by
  subst hS
  refine (tq_get (k := k) h.te.tq h.ex).mono ?_
  rintro e w' ⟨rfl, h2⟩
  rw [h1]
  exact ⟨rfl, h.below h2⟩
theorem s8_len (n : Nat) (h : S8 W t l w) (hn : l.length = n) : Calls Try.prog 57 #[.pointer (some ⟨t, 0, none⟩)] w fun e w' => e = .returned (.int .i64 (n : Int)) ∧ S8 W t l w' := by
  subst hn
  refine (tq_len h.te.tq h.ex).mono ?_
  rintro e w' ⟨rfl, h2⟩
  exact ⟨rfl, h.below h2⟩
theorem s8_from (S : ByteArray) (k : Tm.K) (L : List Tm.E) (h : S8 W t l w) (hS : bstr k = S) (hn : Tm.from_ l k = L) : Calls Try.prog 15 #[.pointer (some ⟨t, 0, none⟩), .string S] w fun e w' => ∃ u, e = .returned u ∧ Hid (∃ B, B ≤ w'.heap.size ∧ Sq (exs e0 t) B u L w') ∧ S8 W t l w' := by
  subst hS hn
  refine (tre_seqFrom (k := k) (some ⟨t, 0, none⟩) rfl h.te.tq h.ex).mono ?_
  rintro e w' ⟨u, rfl, h2, h3⟩
  exact ⟨u, rfl, ⟨_, h3.size, h2⟩, h.below h3⟩
theorem s8_same {a : Option Addr} {n c : Nat} {L : List Tm.E} (L2 : List Tm.E) {cs : Array Value} (h : S8 W t l w) (hp : Ps (exs e0 t) (.slice a n c) L w) (hn : L.length ≤ 10000) (hn2 : L2.length ≤ 10000) (hc : cs.toList = pcs L2) (m : Nat) (hm : m = L2.length) (he : L = L2) :
    Calls Try.prog 8 #[.slice a n c, .slice (some ⟨w.heap.size, 0, none⟩) m m] (w.alloc (.cells cs 50)) fun e w' => e = .returned (.bool true) ∧ S8 W t l w' := by
  subst hm he
  have hb := one_b8 w (.cells cs 50)
  refine (ref8_same (hp.below hb) (ps_lit8 (ex := exs e0 t) hc (h.ex _ (Nat.le_refl _))) (by have := hp.len; omega) (by omega)).mono ?_
  rintro e w' ⟨v, rfl, h2, h3⟩
  rw [h2.2 rfl]
  exact ⟨rfl, h.below (hb.trans (h3.mono (by simp)))⟩
end
end Go.Proofs.Ytdchapcpimhjaaa
