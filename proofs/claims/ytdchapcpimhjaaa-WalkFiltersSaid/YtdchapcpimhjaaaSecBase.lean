/- What layer 6 takes of the layers below, in one text: which blocks a call may change; bytes as a string; slices of bytes in memory. -/
import Derived.Test.YtdchapcpimhjaaaRows
import Derived.Test.YtdchapcpimhjaaaKitAppend
import Derived.WalkKit
import Derived.WalkSpells
import Derived.WalkLawsBesides
import Derived.Lib.Builder
import Derived.Lib.Hide
import Derived.Lib.SmallJoins
import Derived.Lib.ConvBytes
import Derived.Deep.QuietTactic
import Derived.BigQuiet
namespace Go.Proofs.Ytdchapcpimhjaaa
open Go.RowKit

/-- OF THE BLOCKS THAT WERE THERE ONLY THOSE WITH p MAY HAVE CHANGED. -/
structure Only (p : Nat → Prop) (w w' : World) : Prop where
  os : w'.os = w.os
  tape : w'.tape = w.tape
  output : w'.output = w.output
  size : w.heap.size ≤ w'.heap.size
  block : ∀ k, k < w.heap.size → ¬ p k → w'.heap[k]? = w.heap[k]?
theorem Only.refl (p : Nat → Prop) (w : World) : Only p w w := ⟨rfl, rfl, rfl, Nat.le_refl _, fun _ _ _ => rfl⟩
theorem Only.trans {p : Nat → Prop} {a b c : World} (h : Only p a b) (k : Only p b c) : Only p a c :=
  ⟨k.os.trans h.os, k.tape.trans h.tape, k.output.trans h.output, Nat.le_trans h.size k.size, fun i hi hp => (k.block i (Nat.lt_of_lt_of_le hi h.size) hp).trans (h.block i hi hp)⟩
theorem Only.mono {p q : Nat → Prop} {w w' : World} (h : Only p w w') (hq : ∀ k, k < w.heap.size → p k → q k) : Only q w w' :=
  ⟨h.os, h.tape, h.output, h.size, fun k hk hp => h.block k hk (fun x => hp (hq k hk x))⟩
theorem Only.drew {p : Nat → Prop} {a w : World} (h : Only p a w) : Only p a w.drew := ⟨h.os, h.tape, h.output, h.size, h.block⟩
theorem Only.alloc {p : Nat → Prop} {a w : World} (h : Only p a w) (o : Obj) : Only p a (w.alloc o) :=
  h.trans ⟨rfl, rfl, rfl, by simp, fun k hk _ => Below.heap_alloc _ _ _ hk⟩
theorem Only.setCell {p : Nat → Prop} {a w : World} (h : Only p a w) {q : Addr} (hq : p q.block ∨ a.heap.size ≤ q.block) (u : Value) : Only p a (w.setCell q u) :=
  ⟨h.os, h.tape, h.output, by simpa [World.setCell] using h.size, fun k hk hp => (Below.heap_setCell _ _ _ _ (by rintro rfl; rcases hq with x | x; exact hp x; omega)).trans (h.block k hk hp)⟩
theorem Only.grown {p : Nat → Prop} {a w w' : World} {row : Option Nat} (h : Only p a w) (hg : w.grownBy w' row) (hr : ∀ k, row = some k → p k ∨ a.heap.size ≤ k) : Only p a w' :=
  ⟨hg.os.trans h.os, hg.tape.trans h.tape, hg.output.trans h.output, Nat.le_trans h.size hg.size, fun k hk hp => (hg.block k (Nat.lt_of_lt_of_le hk h.size) (fun e => by rcases hr k e.symm with x | x; exact hp x; omega)).trans (h.block k hk hp)⟩
theorem Only.below {p : Nat → Prop} {w w' : World} (h : Only p w w') (hp : ∀ k, k < w.heap.size → ¬ p k) : Below w.heap.size w w' :=
  ⟨h.os, h.tape, h.output, h.size, fun k hk => h.block k hk (hp k hk)⟩
theorem heap_lt {w : World} {b : Nat} {o : Obj} (h : w.heap[b]? = some o) : b < w.heap.size := (Array.getElem?_eq_some_iff.1 h).1
/-- a string of bytes -/
def bstr (l : List UInt8) : ByteArray := ⟨l.toArray⟩
theorem bstr_size (l : List UInt8) : (bstr l).size = l.length := by simp [bstr, ByteArray.size]
theorem bstr_data (l : List UInt8) : (bstr l).data.toList = l := rfl
theorem bstr_append (a b : List UInt8) : bstr a ++ bstr b = bstr (a ++ b) := by
  unfold bstr; apply ByteArray.ext; simp
theorem bstr_extract (l : List UInt8) (i j : Nat) : (bstr l).extract i j = bstr ((l.drop i).take (j - i)) := by
  unfold bstr; apply ByteArray.ext; simp [List.extract_eq_take_drop]
theorem ret_str {a : ByteArray} {l : List UInt8} (h : a = bstr l) : Ending.returned (.string a) = .returned (.string ⟨l.toArray⟩) := by rw [h]; rfl
/-- bytes as cells -/
def yc (l : List UInt8) : List Value := l.map fun b => Value.int .u8 b.toNat
theorem yc_length (l : List UInt8) : (yc l).length = l.length := by simp [yc]
theorem yc_get (l : List UInt8) (j : Nat) : (yc l)[j]? = l[j]?.map fun b => Value.int .u8 b.toNat := by simp [yc]
theorem yc_one (l : List UInt8) : ∀ u ∈ yc l, u.oneCell' = true := by
  intro u hu; obtain ⟨b, _, rfl⟩ := List.mem_map.1 hu; rfl
/-- BYTES: what is known of their cells -/
def Yt (v : Value) (l : List UInt8) (w : World) : Prop :=
  (∃ a c, v = .slice a 0 c ∧ l = []) ∨
  ∃ g off cap, v = .slice (some ⟨g, off, none⟩) l.length cap ∧ l.length ≤ cap ∧ g < w.heap.size ∧ ∀ j, j < l.length → w.cell? ⟨g, off + j, none⟩ = some (Value.int .u8 (l.getD j 0).toNat)
theorem Yt.keep {v : Value} {l : List UInt8} {w w' : World} (h : Yt v l w) (hb : Below w.heap.size w w') : Yt v l w' := by
  rcases h with h | ⟨g, off, cap, rfl, hc, hg, hcell⟩
  · exact .inl h
  · exact .inr ⟨g, off, cap, rfl, hc, by have := hb.size; omega, fun j hj => (hb.cell (p := ⟨g, off + j, none⟩) hg).trans (hcell j hj)⟩
theorem Yt.form {v : Value} {l : List UInt8} {w : World} (h : Yt v l w) : ∃ a c, v = .slice a l.length c := by
  rcases h with ⟨a, c, rfl, rfl⟩ | ⟨g, off, cap, rfl, _⟩
  · exact ⟨_, _, rfl⟩
  · exact ⟨_, _, rfl⟩
theorem Yt.of_own {w : World} {B : Nat} {E : TypeId} {v : Value} {l : List UInt8} {n : Nat} (h : w.ownsRow B E 1 v n (yc l)) : Yt v l w := by
  obtain ⟨h1, h2⟩ := h
  have hn : l.length = n := by rw [yc_length] at h1; omega
  rcases h2 with ⟨rfl, rfl⟩ | ⟨g, cap, cur, rfl, _, hg, hc, hm, hs, ht⟩
  · exact .inl ⟨_, _, rfl, List.eq_nil_of_length_eq_zero hn⟩
  · refine .inr ⟨g, 0, cap, by rw [hn], by omega, (Array.getElem?_eq_some_iff.1 hg).1, fun j hj => ?_⟩
    have hb : (yc l)[j]? = some (Value.int .u8 (l.getD j 0).toNat) := by rw [yc_get]; simp [List.getD, hj]
    rw [← ht, List.getElem?_take] at hb
    rw [Lib.cell_of_heap hg, Nat.zero_add]
    split at hb
    · simpa using hb
    · cases hb
end Go.Proofs.Ytdchapcpimhjaaa
