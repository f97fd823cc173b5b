/- Layer 6: what a call that changes a device leaves. -/
import Derived.Test.YtofbignggadkiaaSecRef6
namespace Go.Proofs.Ytofbignggadkiaa
open Go.RowKit

theorem only_of {B : Nat} {w w' : World} (h : Below B w w') : Only (fun k => B ≤ k) w w' :=
  ⟨h.os, h.tape, h.output, h.size, fun k _ hp => h.block k (by omega)⟩
theorem only_bel {p : Nat → Prop} {w w' : World} {B : Nat} (h : Only p w w') (hB : B ≤ w.heap.size) (hp : ∀ k, k < B → ¬ p k) : Below B w w' :=
  ⟨h.os, h.tape, h.output, h.size, fun k hk => h.block k (by omega) (hp k hk)⟩
theorem own_only {w w' : World} {B : Nat} {e : TypeId} {size n : Nat} {v : Value} {xs : List Value} {p : Nat → Prop} (h : w.ownsRow B e size v n xs) (ho : Only p w w') (hne : ∀ k, B ≤ k → ¬ p k) : w'.ownsRow B e size v n xs := by
  obtain ⟨h1, h2⟩ := h
  refine ⟨h1, ?_⟩
  rcases h2 with h2 | ⟨b, cap, cur, hv, hB, hg, rest⟩
  · exact .inl h2
  · exact .inr ⟨b, cap, cur, hv, hB, by rw [ho.block b (heap_lt hg) (hne b hB)]; exact hg, rest⟩
/-- what is asked of a device before a call that changes it -/
structure Lim (d : Sm.Dv) : Prop where
  w : d.ws.length ≤ 1000
  c0 : 0 ≤ d.calls
  c1 : d.calls ≤ 1000000
  l0 : -1 ≤ d.left
  l1 : d.left ≤ 9223372036854775807
/-- what a call that changes a device leaves -/
def Did (Dev : Nat → Sm.Dv → (Nat → Prop) → World → Prop) (g : Nat) (F : Nat → Prop) (d : Sm.Dv) (W w' : World) : Prop :=
  ∃ F', Dev g d F' w' ∧ Only F W w' ∧ ∀ k, F' k → F k ∨ W.heap.size ≤ k
theorem Did.bel {Dev : Nat → Sm.Dv → (Nat → Prop) → World → Prop} {g B : Nat} {F : Nat → Prop} {d : Sm.Dv} {W w' : World} (h : Did Dev g F d W w') (hF : ∀ k, F k → B ≤ k) (hB : B ≤ W.heap.size) : ∃ F', Dev g d F' w' ∧ (∀ k, F' k → B ≤ k) ∧ Below B W w' := by
  obtain ⟨F', h1, h2, h3⟩ := h
  refine ⟨F', h1, fun k hk => ?_, only_bel h2 hB fun k hk hF' => by have := hF k hF'; omega⟩
  rcases h3 k hk with h | h
  · exact hF k h
  · omega
end Go.Proofs.Ytofbignggadkiaa
