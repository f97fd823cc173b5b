/- Layer 8: first: what must be answered ahead of everything else. -/
import Derived.Test.YtlakolcjgnmllaaTreG2
import Derived.Test.YtlakolcjgnmllaaTreG3
namespace Go.Proofs.Ytlakolcjgnmllaa
open Go.RowKit

theorem below_only8 {B : Nat} {w w1 w2 : World} {g : Nat} (h : Below B w w1) (ho : Only (fun k => k = g) w1 w2) (hg : B ≤ g) (hB : B ≤ w1.heap.size) : Below B w w2 :=
  h.trans ⟨ho.os, ho.tape, ho.output, ho.size, fun k hk => ho.block k (by omega) (by omega)⟩
theorem ps_lit8 {ex : Nat → Prop} {w : World} {cs : Array Value} {l : List Tm.E} (h : cs.toList = pcs l) (hx : ¬ ex w.heap.size) : Ps ex (.slice (some ⟨w.heap.size, 0, none⟩) l.length l.length) l (w.alloc (.cells cs 52)) :=
  .inr ⟨w.heap.size, 0, l.length, rfl, Nat.le_refl _, by simp, hx, fun i u hi => by rw [Lib.cell_of_heap (heap_alloc_new w _), Nat.zero_add, ← Array.getElem?_toList, h]; exact hi⟩
/-- the one tree of first -/
def e0 : Nat → Prop := fun _ => False
structure S8 (W : World) (t : Nat) (l : List Tm.E) (w : World) : Prop where
  te : Te (exs e0 t) t l w
  bel : Below t W w
  eq : t = W.heap.size
section
variable {W w w' : World} {t : Nat} {l : List Tm.E}
theorem S8.ex (h : S8 W t l w) : ∀ k, w.heap.size ≤ k → ¬ exs e0 t k := fun k hk e => by
  rcases e with e | e
  · exact e
  · have := h.te.lt; omega
theorem S8.below (h : S8 W t l w) (hb : Below w.heap.size w w') : S8 W t l w' := ⟨h.te.below hb, h.bel.trans (hb.mono (by have := h.bel.size; have := h.eq; omega)), h.eq⟩
theorem S8.all (h : S8 W t l w) : Below W.heap.size W w := by have := h.bel; rw [h.eq] at this; exact this
theorem S8.only (h : S8 W t l w) {l' : List Tm.E} (ht : Te (exs e0 t) t l' w') (ho : Only (fun k => k = t) w w') : S8 W t l' w' := ⟨ht, below_only8 h.bel ho (Nat.le_refl _) (by have := h.bel.size; have := h.eq; omega), h.eq⟩
theorem s8_put (S : ByteArray) (k : Tm.K) (v : Int) (l' : List Tm.E) (b : Bool) (h : S8 W t l w) (hS : bstr k = S) (h1 : Tm.ins l k v = l') (h2 : (!Tm.has l k) = b) (hs : l.length ≤ 300000) :
    Calls Try.prog 10 #[.pointer (some ⟨t, 0, none⟩), .string S, .int .i64 v] w fun e w' => e = .returned (.bool b) ∧ S8 W t l' w' := by
  subst hS h1 h2
  refine (te_put h.te hs h.ex).mono ?_
  rintro e w' ⟨rfl, h1, h2⟩
  exact ⟨rfl, h.only h1 h2⟩
theorem s8_delete (S : ByteArray) (k : Tm.K) (l' : List Tm.E) (b : Bool) (h : S8 W t l w) (hS : bstr k = S) (h1 : Tm.del l k = l') (h2 : Tm.has l k = b) (hs : l.length ≤ 300000) :
    Calls Try.prog 12 #[.pointer (some ⟨t, 0, none⟩), .string S] w fun e w' => e = .returned (.bool b) ∧ S8 W t l' w' := by
  subst hS h1 h2
  refine (te_delete h.te hs h.ex).mono ?_
  rintro e w' ⟨rfl, h1, h2⟩
  exact ⟨rfl, h.only h1 h2⟩
theorem s8_get (S : ByteArray) (k : Tm.K) (v : Int) (b : Bool) (h : S8 W t l w) (hS : bstr k = S) (h1 : Tm.get l k = (v, b)) :
    Calls Try.prog 14 #[.pointer (some ⟨t, 0, none⟩), .string S] w fun e w' => e = .returned (.tuple #[.int .i64 v, .bool b]) ∧ S8 W t l w' := by
  subst hS
  refine (tq_get (k := k) h.te.tq h.ex).mono ?_
  rintro e w' ⟨rfl, h2⟩
  rw [h1]
  exact ⟨rfl, h.below h2⟩
theorem s8_len (n : Nat) (h : S8 W t l w) (hn : l.length = n) : Calls Try.prog 16 #[.pointer (some ⟨t, 0, none⟩)] w fun e w' => e = .returned (.int .i64 (n : Int)) ∧ S8 W t l w' := by
  subst hn
  refine (tq_len h.te.tq h.ex).mono ?_
  rintro e w' ⟨rfl, h2⟩
  exact ⟨rfl, h.below h2⟩
theorem s8_levels (h : S8 W t l w) (hs : l.length ≤ 300000) : Calls Try.prog 24 #[.pointer (some ⟨t, 0, none⟩)] w fun e w' => ∃ n : Nat, e = .returned (.int .i64 (n : Int)) ∧ Hid (Lv l n) ∧ S8 W t l w' := by
  refine (tq_levels h.te.tq hs h.ex).mono ?_
  rintro e w' ⟨n, rfl, h2, h3⟩
  exact ⟨n, rfl, h2, h.below h3⟩
theorem s8_rank (S : ByteArray) (k : Tm.K) (n : Nat) (h : S8 W t l w) (hs : l.length ≤ 300000) (hS : bstr k = S) (hn : Tm.rank l k = n) : Calls Try.prog 17 #[.pointer (some ⟨t, 0, none⟩), .string S] w fun e w' => e = .returned (.int .i64 (n : Int)) ∧ S8 W t l w' := by
  subst hS hn
  refine (tq_rank (k := k) h.te.tq hs h.ex).mono ?_
  rintro e w' ⟨rfl, h2⟩
  exact ⟨rfl, h.below h2⟩
theorem s8_from (S : ByteArray) (k : Tm.K) (L : List Tm.E) (h : S8 W t l w) (hS : bstr k = S) (hn : Tm.from_ l k = L) : Calls Try.prog 21 #[.pointer (some ⟨t, 0, none⟩), .string S] w fun e w' => ∃ u, e = .returned u ∧ Hid (∃ B, B ≤ w'.heap.size ∧ Sq (exs e0 t) B u L w') ∧ S8 W t l w' := by
  subst hS hn
  refine (tre_seqFrom (k := k) (some ⟨t, 0, none⟩) rfl h.te.tq h.ex).mono ?_
  rintro e w' ⟨u, rfl, h2, h3⟩
  exact ⟨u, rfl, ⟨_, h3.size, h2⟩, h.below h3⟩
theorem s8_back (S : ByteArray) (k : Tm.K) (L : List Tm.E) (h : S8 W t l w) (hS : bstr k = S) (hn : Tm.back l k = L) : Calls Try.prog 22 #[.pointer (some ⟨t, 0, none⟩), .string S] w fun e w' => ∃ u, e = .returned u ∧ Hid (∃ B, B ≤ w'.heap.size ∧ Sq (exs e0 t) B u L w') ∧ S8 W t l w' := by
  subst hS hn
  refine (tre_seqBack (k := k) (some ⟨t, 0, none⟩) rfl h.te.tq h.ex).mono ?_
  rintro e w' ⟨u, rfl, h2, h3⟩
  exact ⟨u, rfl, ⟨_, h3.size, h2⟩, h.below h3⟩
theorem s8_taken {u : Value} {L : List Tm.E} (most : Nat) (h : S8 W t l w) (hs : ∃ B, B ≤ w.heap.size ∧ Sq (exs e0 t) B u L w) (h1 : 1 ≤ most) (h2 : most ≤ 10000) :
    Calls Try.prog 20 #[u, .int .i64 (most : Int)] w fun e w' => ∃ a c, e = .returned (.slice a (L.take most).length c) ∧ Hid (Ps (exs e0 t) (.slice a (L.take most).length c) (L.take most) w') ∧ S8 W t l w' := by
  obtain ⟨B, hB, hs⟩ := hs
  refine (tre_taken hs hB h1 h2 h.ex).mono ?_
  rintro e w' ⟨v, rfl, h2, h3⟩
  obtain ⟨a, c, rfl⟩ := h2.form
  exact ⟨a, c, rfl, h2, h.below h3⟩
theorem s8_same {a : Option Addr} {n c : Nat} {L : List Tm.E} (L2 : List Tm.E) {cs : Array Value} (h : S8 W t l w) (hp : Ps (exs e0 t) (.slice a n c) L w) (hn : L.length ≤ 10000) (hn2 : L2.length ≤ 10000) (hc : cs.toList = pcs L2) (m : Nat) (hm : m = L2.length) (he : L = L2) :
    Calls Try.prog 19 #[.slice a n c, .slice (some ⟨w.heap.size, 0, none⟩) m m] (w.alloc (.cells cs 52)) fun e w' => e = .returned (.bool true) ∧ S8 W t l w' := by
  subst hm he
  have hb := one_b8 w (.cells cs 52)
  refine (ref8_same (hp.below hb) (ps_lit8 (ex := exs e0 t) hc (h.ex _ (Nat.le_refl _))) (by have := hp.len; omega) (by omega)).mono ?_
  rintro e w' ⟨v, rfl, h2, h3⟩
  rw [h2.2 rfl]
  exact ⟨rfl, h.below (hb.trans (h3.mono (by simp)))⟩
end
set_option maxHeartbeats 4000000 in
set_option maxRecDepth 100000 in
theorem walk_first8 (W : World) : Calls Try.prog 7 #[] W fun e w' => e = .returned (.bool true) ∧ Below W.heap.size W w' := by
  obtain ⟨t, ht⟩ : ∃ t, t = W.heap.size := ⟨_, rfl⟩
  obtain ⟨W1, hW1⟩ : ∃ W1, W1 = W.alloc (.cells #[.pointer none] 60) := ⟨_, rfl⟩
  have H1 : Hid (S8 W t [] W1) := by
    have h1 : Te (exs e0 W.heap.size) W.heap.size [] (W.alloc (.cells #[.pointer none] 60)) := Te.new W
    have h2 := one_b8 W (.cells #[.pointer none] 60)
    rw [← ht, ← hW1] at h1 h2
    exact ⟨h1, h2, ht⟩
  go_enter Try.func7, Try.ntmps7
  go_wp2_with fail
  refine tre_new.mono ?_
  rintro e w ⟨rfl, rfl⟩
  rw [← hW1, ← ht]
  clear hW1 ht
  go_wp2_with fail
  refine (s8_put ⟨#[98]⟩ [98] 1 [([98], 1)] true H1.out rfl (by decide) (by decide) (by decide)).mono ?_
  rintro e w2 ⟨rfl, h⟩
  have H2 := Lib.hid h; clear h H1
  go_wp2_with fail
  refine (s8_put ⟨#[97]⟩ [97] 2 [([97], 2), ([98], 1)] true H2.out rfl (by decide) (by decide) (by decide)).mono ?_
  rintro e w3 ⟨rfl, h⟩
  have H3 := Lib.hid h; clear h H2
  go_wp2_with fail
  refine (s8_put ⟨#[99]⟩ [99] 3 [([97], 2), ([98], 1), ([99], 3)] true H3.out rfl (by decide) (by decide) (by decide)).mono ?_
  rintro e w4 ⟨rfl, h⟩
  have H4 := Lib.hid h; clear h H3
  go_wp2_with fail
  refine (s8_put ⟨#[97]⟩ [97] 4 [([97], 4), ([98], 1), ([99], 3)] false H4.out rfl (by decide) (by decide) (by decide)).mono ?_
  rintro e w5 ⟨rfl, h⟩
  have H5 := Lib.hid h; clear h H4
  go_wp2_with fail
  refine (s8_get ⟨#[97]⟩ [97] 4 true H5.out rfl (by decide)).mono ?_
  rintro e w6 ⟨rfl, h⟩
  have H6 := Lib.hid h; clear h H5
  go_wp2_with fail
  refine (s8_len 3 H6.out rfl).mono ?_
  rintro e w7 ⟨rfl, h⟩
  have H7 := Lib.hid h; clear h H6
  go_wp2_with fail
  refine (s8_levels H7.out (by decide)).mono ?_
  rintro e w8 ⟨n, rfl, hl, h⟩
  have H8 := Lib.hid h; clear h H7
  obtain rfl : n = 1 := by
    have h1 := hl.out.2.2.2 (by decide)
    have h2 := hl.out.1
    simp at h2
    omega
  clear hl
  go_wp2_with fail
  refine (s8_rank ⟨#[99]⟩ [99] 2 H8.out (by decide) rfl (by decide)).mono ?_
  rintro e w9 ⟨rfl, h⟩
  have H9 := Lib.hid h; clear h H8
  go_wp2_with fail
  refine (s8_from ⟨#[98]⟩ [98] [([98], 1), ([99], 3)] H9.out rfl (by decide)).mono ?_
  rintro e w10 ⟨u, rfl, hq, h⟩
  have H10 := Lib.hid h; clear h H9
  go_wp2_with fail
  refine (s8_taken 9 H10.out hq.out (by decide) (by decide)).mono ?_
  rintro e w11 ⟨a, c, rfl, hp, h⟩
  have H11 := Lib.hid h; clear h H10 hq
  go_wp2_with fail
  refine (s8_same [([98], 1), ([99], 3)] H11.out hp.out (by decide) (by decide) rfl 2 rfl (by decide)).mono ?_
  rintro e w12 ⟨rfl, h⟩
  have H12 := Lib.hid h; clear h H11 hp
  go_wp2_with fail
  refine (s8_back ⟨#[98]⟩ [98] [([98], 1), ([97], 4)] H12.out rfl (by decide)).mono ?_
  rintro e w13 ⟨u, rfl, hq, h⟩
  have H13 := Lib.hid h; clear h H12
  go_wp2_with fail
  refine (s8_taken 9 H13.out hq.out (by decide) (by decide)).mono ?_
  rintro e w14 ⟨a, c, rfl, hp, h⟩
  have H14 := Lib.hid h; clear h H13 hq
  go_wp2_with fail
  refine (s8_same [([98], 1), ([97], 4)] H14.out hp.out (by decide) (by decide) rfl 2 rfl (by decide)).mono ?_
  rintro e w15 ⟨rfl, h⟩
  have H15 := Lib.hid h; clear h H14 hp
  go_wp2_with fail
  refine (s8_delete ⟨#[98]⟩ [98] [([97], 4), ([99], 3)] true H15.out rfl (by decide) (by decide) (by decide)).mono ?_
  rintro e w16 ⟨rfl, h⟩
  have H16 := Lib.hid h; clear h H15
  go_wp2_with fail
  refine (s8_delete ⟨#[98]⟩ [98] [([97], 4), ([99], 3)] false H16.out rfl (by decide) (by decide) (by decide)).mono ?_
  rintro e w17 ⟨rfl, h⟩
  have H17 := Lib.hid h; clear h H16
  go_wp2
  go_ret
  exact ⟨rfl, H17.out.all⟩
end Go.Proofs.Ytlakolcjgnmllaa
