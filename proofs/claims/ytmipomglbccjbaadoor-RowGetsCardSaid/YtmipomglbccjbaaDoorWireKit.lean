/- What the walks over package wire need of the world: which blocks a call may change; a Writer in memory; bytes in memory. -/
import Derived.Test.YtmipomglbccjbaaDoorRows
import Derived.Test.YtmipomglbccjbaaDoorWireMath
import Derived.WalkKit
import Derived.WalkSpells
import Derived.WalkLawsBesides
import Derived.Deep.AppendLies
import Derived.Deep.AppendSrc
import Derived.Lib.Builder
import Derived.Lib.Hide
namespace Go.Proofs.YtmipomglbccjbaaDoor
open Go.RowKit

/-- a byte as a cell -/
def bc (l : List UInt8) : List Value := l.map fun b => Value.int .u8 b.toNat
theorem bc_length (l : List UInt8) : (bc l).length = l.length := by simp [bc]
theorem bc_append (l r : List UInt8) : bc (l ++ r) = bc l ++ bc r := by simp [bc]
theorem bc_get (l : List UInt8) (j : Nat) : (bc l)[j]? = l[j]?.map fun b => Value.int .u8 b.toNat := by simp [bc]
theorem bcw_one (l : List UInt8) : ∀ u ∈ bc l, u.oneCell' = true := by
  intro u hu; obtain ⟨b, _, rfl⟩ := List.mem_map.1 hu; rfl
/-- OF THE BLOCKS THAT WERE THERE ONLY THOSE WITH p MAY HAVE CHANGED. -/
structure Only (p : Nat → Prop) (w w' : World) : Prop where
  os : w'.os = w.os
  tape : w'.tape = w.tape
  output : w'.output = w.output
  size : w.heap.size ≤ w'.heap.size
  block : ∀ k, k < w.heap.size → ¬ p k → w'.heap[k]? = w.heap[k]?
theorem Only.refl (p : Nat → Prop) (w : World) : Only p w w := ⟨rfl, rfl, rfl, Nat.le_refl _, fun _ _ _ => rfl⟩
theorem Only.trans {p : Nat → Prop} {a b c : World} (h : Only p a b) (k : Only p b c) : Only p a c :=
  ⟨k.os.trans h.os, k.tape.trans h.tape, k.output.trans h.output, Nat.le_trans h.size k.size, fun i hi hp => (k.block i (Nat.lt_of_lt_of_le hi h.size) hp).trans (h.block i hi hp)⟩
theorem Only.trans' {p q : Nat → Prop} {a b c : World} (h : Only p a b) (k : Only q b c) (hq : ∀ i, i < a.heap.size → q i → p i) : Only p a c :=
  ⟨k.os.trans h.os, k.tape.trans h.tape, k.output.trans h.output, Nat.le_trans h.size k.size, fun i hi hp => (k.block i (Nat.lt_of_lt_of_le hi h.size) (fun x => hp (hq i hi x))).trans (h.block i hi hp)⟩
theorem Only.mono {p q : Nat → Prop} {w w' : World} (h : Only p w w') (hq : ∀ k, k < w.heap.size → p k → q k) : Only q w w' :=
  ⟨h.os, h.tape, h.output, h.size, fun k hk hp => h.block k hk (fun x => hp (hq k hk x))⟩
theorem Only.drew {p : Nat → Prop} {a w : World} (h : Only p a w) : Only p a w.drew := ⟨h.os, h.tape, h.output, h.size, h.block⟩
theorem Only.alloc {p : Nat → Prop} {a w : World} (h : Only p a w) (o : Obj) : Only p a (w.alloc o) :=
  h.trans ⟨rfl, rfl, rfl, by simp, fun k hk _ => Below.heap_alloc _ _ _ hk⟩
theorem Only.setCell {p : Nat → Prop} {a w : World} (h : Only p a w) {q : Addr} (hq : p q.block ∨ a.heap.size ≤ q.block) (u : Value) : Only p a (w.setCell q u) :=
  ⟨h.os, h.tape, h.output, by simpa [World.setCell] using h.size, fun k hk hp => (Below.heap_setCell _ _ _ _ (by rintro rfl; rcases hq with x | x; exact hp x; omega)).trans (h.block k hk hp)⟩
theorem Only.grown {p : Nat → Prop} {a w w' : World} {row : Option Nat} (h : Only p a w) (hg : w.grownBy w' row) (hr : ∀ k, row = some k → p k ∨ a.heap.size ≤ k) : Only p a w' :=
  ⟨hg.os.trans h.os, hg.tape.trans h.tape, hg.output.trans h.output, Nat.le_trans h.size hg.size, fun k hk hp => (hg.block k (Nat.lt_of_lt_of_le hk h.size) (fun e => by rcases hr k e.symm with x | x; exact hp x; omega)).trans (h.block k hk hp)⟩
theorem Only.below {p : Nat → Prop} {w w' : World} (h : Only p w w') (hp : ∀ k, k < w.heap.size → ¬ p k) : Below w.heap.size w w' :=
  ⟨h.os, h.tape, h.output, h.size, fun k hk => h.block k hk (hp k hk)⟩
theorem Only.belowB {p : Nat → Prop} {w w' : World} {B : Nat} (h : Only p w w') (hB : B ≤ w.heap.size) (hp : ∀ k, k < B → ¬ p k) : Below B w w' :=
  ⟨h.os, h.tape, h.output, h.size, fun k hk => h.block k (by omega) (hp k hk)⟩
theorem Only.of_below {B : Nat} {w w' : World} (h : Below B w w') : Only (fun k => B ≤ k) w w' :=
  ⟨h.os, h.tape, h.output, h.size, fun k _ hp => h.block k (by omega)⟩
theorem heap_lt {w : World} {b : Nat} {o : Obj} (h : w.heap[b]? = some o) : b < w.heap.size := (Array.getElem?_eq_some_iff.1 h).1
/-- BYTES IN MEMORY: the value v is a slice of bytes that reads as l. -/
def Byt (v : Value) (l : List UInt8) (w : World) : Prop :=
  (v = .slice none 0 0 ∧ l = []) ∨
  ∃ g off cap cs t fr, v = .slice (some ⟨g, off, none⟩) l.length cap ∧ l.length ≤ cap ∧ w.heap[g]? = some (.cells cs t fr) ∧ t = 5 ∧ off + cap ≤ cs.size ∧ cs.size ≤ maxLen ∧ ∀ j, j < l.length → cs[off + j]? = some (Value.int .u8 (l.getD j 0).toNat)
/-- the block in which a slice lies -/
theorem Byt.keep {v : Value} {l : List UInt8} {w w' : World} {p : Nat → Prop} (h : Byt v l w) (ho : Only p w w') (hp : ∀ g, v.ownBlock = some g → ¬ p g) : Byt v l w' := by
  rcases h with h | ⟨g, off, cap, cs, t, fr, rfl, hl, hg, r⟩
  · exact .inl h
  · exact .inr ⟨g, off, cap, cs, t, fr, rfl, hl, (ho.block g (heap_lt hg) (hp g rfl)).trans hg, r⟩
theorem Byt.lt {v : Value} {l : List UInt8} {w : World} (h : Byt v l w) : ∀ g, v.ownBlock = some g → g < w.heap.size := by
  intro g hg
  rcases h with ⟨rfl, _⟩ | ⟨g', off, cap, cs, t, fr, rfl, hl, hh, r⟩
  · simp [Value.ownBlock] at hg
  · simp [Value.ownBlock] at hg; subst hg; exact heap_lt hh
/-- an owned row of bytes reads as its bytes -/
theorem Byt.of_own {w : World} {B : Nat} {v : Value} {l : List UInt8} {n : Nat} (h : w.ownsRow B 5 1 v n (bc l)) : Byt v l w := by
  obtain ⟨h1, h2⟩ := h
  have hn : l.length = n := by rw [bc_length] at h1; omega
  rcases h2 with ⟨rfl, rfl⟩ | ⟨g, cap, cur, rfl, _, hg, hc, hm, hs, ht⟩
  · exact .inl ⟨rfl, List.eq_nil_of_length_eq_zero hn⟩
  · refine .inr ⟨g, 0, cap, cur, 5, (0, 0), by rw [hn], by omega, hg, rfl, by omega, by omega, fun j hj => ?_⟩
    have hb : (bc l)[j]? = some (Value.int .u8 (l.getD j 0).toNat) := by rw [bc_get]; simp [List.getD, hj]
    rw [← ht, List.getElem?_take] at hb
    split at hb
    · rw [Nat.zero_add]; simpa using hb
    · cases hb
/-- A WRITER: block b holds it; v is its slice; it has the bytes bs. -/
structure Wr (b : Nat) (v : Value) (bs : List UInt8) (w : World) : Prop where
  blk : w.heap[b]? = some (.cells #[v] 46 (0, 0))
  own : w.ownsRow 0 5 1 v bs.length (bc bs)
theorem Wr.ne {b : Nat} {v : Value} {bs : List UInt8} {w : World} (h : Wr b v bs w) : v.ownBlock ≠ some b := Lib.ownBlock_ne h.own h.blk (by decide)
theorem Wr.lt {b : Nat} {v : Value} {bs : List UInt8} {w : World} (h : Wr b v bs w) : b < w.heap.size := heap_lt h.blk
theorem Wr.ltv {b : Nat} {v : Value} {bs : List UInt8} {w : World} (h : Wr b v bs w) : ∀ g, v.ownBlock = some g → g < w.heap.size := fun g hg => (h.own.lt g hg).2
theorem Wr.keep {b : Nat} {v : Value} {bs : List UInt8} {w w' : World} {p : Nat → Prop} (h : Wr b v bs w) (ho : Only p w w') (hb : ¬ p b) (hv : ∀ g, v.ownBlock = some g → ¬ p g) : Wr b v bs w' := by
  refine ⟨(ho.block b h.lt hb).trans h.blk, ?_⟩
  obtain ⟨h1, h2⟩ := h.own
  refine ⟨h1, ?_⟩
  rcases h2 with h2 | ⟨g, cap, cur, rfl, hb2, hg, r⟩
  · exact .inl h2
  · exact .inr ⟨g, cap, cur, rfl, hb2, (ho.block g (heap_lt hg) (hv g rfl)).trans hg, r⟩
theorem Wr.cell {b : Nat} {v : Value} {bs : List UInt8} {w : World} (h : Wr b v bs w) : w.cell? ⟨b, 0, none⟩ = some v := by rw [Lib.cell_of_heap h.blk]; rfl
theorem Wr.frozen {b : Nat} {v : Value} {bs : List UInt8} {w : World} (h : Wr b v bs w) : w.frozen? ⟨b, 0, none⟩ = false := Lib.frozen_of_heap h.blk 0
/-- A NEW SLICE STORED INTO THE WRITER. -/
theorem Wr.put {b : Nat} {v v' : Value} {bs : List UInt8} {w : World} (hb : w.heap[b]? = some (.cells #[v] 46 (0, 0))) (ho : w.ownsRow 0 5 1 v' bs.length (bc bs)) : Wr b v' bs (w.setCell ⟨b, 0, none⟩ v') := by
  have hne := Lib.ownBlock_ne ho hb (by decide)
  refine ⟨by simp [World.setCell, Array.getElem?_modify, hb], ?_⟩
  exact ho.kept (row := some b) ⟨rfl, rfl, rfl, by simp [World.setCell], fun k _ hk => Below.heap_setCell _ _ _ _ (fun e => hk (by simp [e]))⟩ (Or.inr hne)
/-- where the slice of a writer lies behind a call: where it lay, or in new memory -/
def Frs (v v' : Value) (H : Nat) : Prop := v'.ownBlock = v.ownBlock ∨ ∃ g, v'.ownBlock = some g ∧ H ≤ g
theorem Frs.refl (v : Value) (H : Nat) : Frs v v H := .inl rfl
theorem Frs.trans {a b c : Value} {H K : Nat} (h : Frs a b H) (k : Frs b c K) (hk : H ≤ K) : Frs a c H := by
  rcases k with k | ⟨g, k, hg⟩
  · unfold Frs at *; rw [k]; exact h
  · exact .inr ⟨g, k, by omega⟩
/-- WHAT A WRITING CALL LEAVES. -/
def Wrote (b : Nat) (v : Value) (bs : List UInt8) (w w' : World) : Prop :=
  ∃ v', Wr b v' bs w' ∧ Frs v v' w.heap.size ∧ Only (fun k => k = b ∨ v.ownBlock = some k) w w'
theorem Wrote.refl {b : Nat} {v : Value} {bs : List UInt8} {w : World} (h : Wr b v bs w) : Wrote b v bs w w := ⟨v, h, Frs.refl _ _, Only.refl _ _⟩
theorem Wrote.drew {b : Nat} {v : Value} {bs : List UInt8} {w w' : World} (h : Wrote b v bs w w') : Wrote b v bs w w'.drew := by
  obtain ⟨v', h1, h2, h3⟩ := h
  exact ⟨v', ⟨h1.blk, h1.own⟩, h2, h3.drew⟩
theorem Wrote.trans {b : Nat} {v v' : Value} {cs : List UInt8} {w w1 w2 : World} (hf : Frs v v' w.heap.size) (ho : Only (fun k => k = b ∨ v.ownBlock = some k) w w1) (h : Wrote b v' cs w1 w2) : Wrote b v cs w w2 := by
  obtain ⟨v2, h1, h2, h3⟩ := h
  refine ⟨v2, h1, hf.trans h2 ho.size, ho.trans' h3 ?_⟩
  rintro i hi (x | x)
  · exact .inl x
  · rcases hf with e | ⟨g, e, hg⟩
    · rw [e] at x; exact .inr x
    · rw [e] at x; simp at x; omega
end Go.Proofs.YtmipomglbccjbaaDoor
