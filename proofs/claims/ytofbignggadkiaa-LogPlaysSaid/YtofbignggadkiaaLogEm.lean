/- Layer 7: what LogEpochs and LogCrashes need besides: plain words, an action in memory, an append of a string to a fresh row. -/
import Derived.Test.YtofbignggadkiaaLogSame
import Derived.Test.YtofbignggadkiaaLogPl
namespace Go.Proofs.Ytofbignggadkiaa
open Go.RowKit

theorem infoS : (Try.prog.info? 9).map (fun i => (i.zero, i.size, i.bytes)) = some (some (.string ⟨#[]⟩), 1, 16) := by kernel_rfl
namespace Lm
/-- behind i steps of LogEpochs -/
structure Em (i : Nat) (d : Sm.Dv) (L : Lg) : Prop where
  v : Lv 58 d L
  k : Lok L d
  l : d.left = -1
  c0 : 0 ≤ d.calls
  c1 : d.calls ≤ 2 + 59 * (i : Int)
  e : L.h.epoch ≤ 1 + i
  n : L.h.n ≤ 1 + i
theorem Em.dl {i : Nat} {d : Sm.Dv} {L : Lg} (h : Em i d L) (hi : i ≤ 50) : Dl d :=
  ⟨by rw [h.v.ws]; exact Nat.zero_le _, h.c0, by have := h.c1; omega, by rw [h.l]; decide, by rw [h.l]; decide, by have := h.v.rp.len; omega⟩
theorem Em.up {i : Nat} {d : Sm.Dv} {L : Lg} (h : Em i d L) : Em (i + 1) d L :=
  ⟨h.v, h.k, h.l, h.c0, by have := h.c1; omega, by have := h.e; omega, by have := h.n; omega⟩
theorem em_append {i : Nat} {d : Sm.Dv} {L : Lg} (h : Em i d L) (hi : i ≤ 50) (b : List UInt8) :
    ∃ c L' d', append L d b = (L', d', c) ∧ Em (i + 1) d' L' ∧ L'.h = L.h ∧ ((c = 0 ∧ L'.l = L.l ++ [b]) ∨ ((c = 2 ∨ c = 70) ∧ L'.l = L.l)) := by
  have hg := append_grow (b := b) h.k h.v.ok (by rw [h.l]; decide) (by rw [h.l]; decide)
  rcases app_cases h.v (by have := h.e; omega) (by omega) b with ⟨c, e, h1⟩ | ⟨_, h2, h3⟩
  · refine ⟨c, L, d, e, h.up, rfl, .inr ⟨?_, rfl⟩⟩
    rcases h1 with ⟨h1, _⟩ | ⟨h1, _⟩
    · exact .inl h1
    · exact .inr h1
  · rcases h3 with ⟨e, h4, h5, h6⟩ | ⟨_, _, h4, _⟩
    · refine ⟨0, (append L d b).1, (append L d b).2.1, Prod.ext rfl (Prod.ext rfl e), ⟨h5, hg.2, h6 h.l, by have := hg.1.c0; have := h.c0; omega, ?_, by rw [h4]; have := h.e; show L.h.epoch ≤ _; omega, by rw [h4]; have := h.n; show L.h.n ≤ _; omega⟩, by rw [h4], .inl ⟨rfl, by rw [h4]⟩⟩
      have h7 := hg.1.c1
      rw [h.v.frm] at h7
      have := h.c1
      omega
    · exact absurd h.l h4
theorem em_reset {i : Nat} {d : Sm.Dv} {L : Lg} (h : Em i d L) (hi : i ≤ 50) (b : List UInt8) :
    ∃ c L' d', reset L d b = (L', d', c) ∧ Em (i + 1) d' L' ∧ ((c = 0 ∧ L'.l = [] ∧ L'.h.body = b ∧ L'.h.epoch = L.h.epoch + 1) ∨ (c = 2 ∧ L' = L)) := by
  have hg := reset_grow (b := b) h.k h.v.ok (by rw [h.l]; decide) (by rw [h.l]; decide)
  rcases reset_cases h.v (by have := h.e; omega) (by have := h.n; omega) b with ⟨_, e⟩ | ⟨_, ⟨e, h4, h5, h6⟩ | ⟨_, h1, _⟩⟩
  · exact ⟨2, L, d, e, h.up, .inr ⟨rfl, rfl⟩⟩
  · refine ⟨0, (reset L d b).1, (reset L d b).2.1, Prod.ext rfl (Prod.ext rfl e), ⟨h5, hg.2, h6 h.l, by have := hg.1.c0; have := h.c0; omega, by have := hg.1.c1; have := h.c1; omega, by rw [h4]; have := h.e; show L.h.epoch + 1 ≤ _; omega, by rw [h4]; have := h.n; show L.h.n + 1 ≤ _; omega⟩, .inl ⟨rfl, by rw [h4], by rw [h4]; rfl, by rw [h4]; rfl⟩⟩
  · exact absurd h.l h1
theorem em_open {i : Nat} {d : Sm.Dv} {L : Lg} (h : Em i d L) (hi : i ≤ 50) :
    ∃ L' d', open_ d 58 = (some L', d', 0) ∧ Em (i + 1) d' L' ∧ L'.l = L.l ∧ L'.h.body = L.h.body ∧ L'.h.epoch = L.h.epoch + 1 := by
  have hg := open_grow (d := d) 58 h.v.ok (by rw [h.l]; decide) (by rw [h.l]; decide)
  rcases open_cases h.v.rp h.v.ok h.v.ws (by omega) (by have := h.e; omega) (by have := h.n; omega) with ⟨e, h1, h2⟩ | ⟨_, h1, _⟩
  · refine ⟨_, _, e, ⟨h1, (hg.2 _ (by rw [show (58 : Int) = ((58 : Nat) : Int) from rfl, e])).1, h2 h.l, by have := hg.1.c0; have := h.c0; exact Int.le_trans this ‹_›, ?_, by have := h.e; show L.h.epoch + 1 ≤ _; omega, by have := h.n; show L.h.n + 1 ≤ _; omega⟩, rfl, rfl, rfl⟩
    have h7 := hg.1.c1
    have := h.c1
    show (open_ d ((58 : Nat) : Int)).2.1.calls ≤ _
    rw [show ((58 : Nat) : Int) = 58 from rfl]
    omega
  · exact absurd h.l h1
theorem em_new : ∃ L' d', open_ (Sm.new 60) 58 = (some L', d', 0) ∧ Em 0 d' L' ∧ L'.l = [] ∧ L'.h.body = [] ∧ L'.h.epoch = 1 := by
  have hg := open_grow (d := Sm.new 60) 58 (Sm.ok_new _) (by show (-1 : Int) ≤ -1; decide) (by show (-1 : Int) ≤ _; decide)
  rcases open_cases (fr := 58) (d := Sm.new 60) (rp_new 58) (Sm.ok_new _) rfl (by decide) (by decide) (by decide) with ⟨e, h1, h2⟩ | ⟨_, h1, _⟩
  · refine ⟨_, _, e, ⟨h1, (hg.2 _ (by rw [show (58 : Int) = ((58 : Nat) : Int) from rfl, e])).1, h2 rfl, by have := hg.1.c0; exact this, by have := hg.1.c1; exact this, Nat.le_refl _, Nat.le_refl _⟩, rfl, rfl, rfl⟩
  · exact absurd rfl h1
end Lm
/-- an action's copy in block gO, its bytes as a string, and nothing of what stood there has changed -/
abbrev SAp (gO : Nat) (ab : Option Addr) (nb cb : Nat) (SB : ByteArray) (wr W : World) : Prop :=
  W.cell? ⟨gO, 2, none⟩ = some (.slice ab nb cb) ∧ (convert 39 9 (.slice ab nb cb)).run Try.prog W = .ok (.string SB) W ∧ Hid (Below wr.heap.size wr W)
theorem SAp.mk {gO : Nat} {ab : Option Addr} {nb cb : Nat} {SB : ByteArray} {lb : List UInt8} {wr W : World} (h0 : gO < wr.heap.size) (h : wr.cell? ⟨gO, 2, none⟩ = some (.slice ab nb cb)) (hy : Yt (.slice ab nb cb) lb wr) (hS : SB = st lb) (hb : Below wr.heap.size wr W) : SAp gO ab nb cb SB wr W :=
  ⟨(hb.cell (p := ⟨gO, 2, none⟩) h0).trans h, by rw [hS]; exact Yt.str (hy.keep hb), hb⟩
theorem own_nil1 (w : World) (B g : Nat) (hg : g = w.heap.size) (hB : B ≤ w.heap.size) : (w.alloc (.cells #[] 9)).ownsRow B 9 1 (.slice (some ⟨g, 0, none⟩) 0 0) 0 (stc []) := by
  subst hg
  exact ⟨rfl, .inr ⟨w.heap.size, 0, #[], rfl, hB, heap_alloc_new w _, Nat.le_refl _, by unfold maxLen; decide, rfl, rfl⟩⟩
theorem own_form_s {w : World} {B n : Nat} {E : TypeId} {v : Value} {L : List (List UInt8)} (h : w.ownsRow B E 1 v n (stc L)) : ∃ a c, v = .slice a n c := by
  rcases h.2 with ⟨rfl, rfl⟩ | ⟨g, cap, cur, rfl, _⟩
  · exact ⟨_, _, rfl⟩
  · exact ⟨_, _, rfl⟩
theorem own_keep_s {w w' : World} {B B2 n : Nat} {E : TypeId} {v : Value} {xs : List Value} (h : w.ownsRow B E 1 v n xs) (hb : Below B2 w w') (hlt : ∀ b, v.ownBlock = some b → b < B2) : w'.ownsRow B E 1 v n xs := by
  obtain ⟨h1, h2⟩ := h
  refine ⟨h1, ?_⟩
  rcases h2 with h2 | ⟨b, cap, cur, hv, hB, hg, rest⟩
  · exact .inl h2
  · exact .inr ⟨b, cap, cur, hv, hB, by rw [hb.block b (hlt b (by rw [hv]; rfl))]; exact hg, rest⟩
/-- one string in a block of its own -/
def Ls (b : List UInt8) (g : Nat) (W : World) : Prop := W.cell? ⟨g, 0, none⟩ = some (.string (st b)) ∧ g < W.heap.size
theorem ls_new (w : World) (b : List UInt8) (SB : ByteArray) (g : Nat) (hg : g = w.heap.size) (hS : SB = st b) : Ls b g (w.alloc (.cells #[.string SB] 9)) := by
  subst hg; subst hS
  exact ⟨by rw [Lib.cell_of_heap (heap_alloc_new w _)]; rfl, by simp⟩
theorem Ls.keep {b : List UInt8} {g : Nat} {w w' : World} (h : Ls b g w) (hb : Below w.heap.size w w') : Ls b g w' :=
  ⟨(hb.cell (p := ⟨g, 0, none⟩) h.2).trans h.1, by have := hb.size; have := h.2; omega⟩
theorem Ls.grown {b : List UInt8} {g : Nat} {w w' : World} {row : Option Nat} (h : Ls b g w) (hg : w.grownBy w' row) (hr : row ≠ some g) : Ls b g w' := by
  have ho := (Only.refl (fun k => row = some k) w).grown hg (fun k e => .inl e)
  exact ⟨(cell_only ho (q := ⟨g, 0, none⟩) h.2 hr).trans h.1, by have := ho.size; have := h.2; omega⟩
theorem Ls.src {b : List UInt8} {g : Nat} {w : World} (h : Ls b g w) : Src Try.prog 1 56 (.slice (some ⟨g, 0, none⟩) 1 1) 1 (stc [b]) w := by
  have hs : Ss 0 (some ⟨g, 0, none⟩) 1 1 [b] w := ⟨rfl, fun _ => ⟨g, 0, rfl, Nat.le_refl _, Nat.zero_le _, h.2, fun j hj => by
    have e : j = 0 := by simp at hj; omega
    subst e
    exact h.1⟩⟩
  exact Ss.src hs
end Go.Proofs.Ytofbignggadkiaa
