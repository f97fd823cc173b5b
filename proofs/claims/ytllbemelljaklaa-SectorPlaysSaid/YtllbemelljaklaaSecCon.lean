/- Layer 6: what the laws take of package sector, as one bundle over a predicate for the device in memory. -/
import Derived.Test.YtllbemelljaklaaSecRef6
namespace Go.Proofs.Ytllbemelljaklaa
open Go.RowKit

theorem only_of {B : Nat} {w w' : World} (h : Below B w w') : Only (fun k => B ≤ k) w w' :=
  ⟨h.os, h.tape, h.output, h.size, fun k _ hp => h.block k (by omega)⟩
theorem only_bel {p : Nat → Prop} {w w' : World} {B : Nat} (h : Only p w w') (hB : B ≤ w.heap.size) (hp : ∀ k, k < B → ¬ p k) : Below B w w' :=
  ⟨h.os, h.tape, h.output, h.size, fun k hk => h.block k (by omega) (hp k hk)⟩
theorem own_only {w w' : World} {B : Nat} {e : TypeId} {size n : Nat} {v : Value} {xs : List Value} {p : Nat → Prop} (h : w.ownsRow B e size v n xs) (ho : Only p w w') (hne : ∀ k, B ≤ k → ¬ p k) : w'.ownsRow B e size v n xs := by
  obtain ⟨h1, h2⟩ := h
  refine ⟨h1, ?_⟩
  rcases h2 with h2 | ⟨b, cap, cur, hv, hB, hg, rest⟩
  · exact .inl h2
  · exact .inr ⟨b, cap, cur, hv, hB, by rw [ho.block b (heap_lt hg) (hne b hB)]; exact hg, rest⟩
/-- what is asked of a device before a call that changes it -/
structure Lim (d : Sm.Dv) : Prop where
  w : d.ws.length ≤ 1000
  c0 : 0 ≤ d.calls
  c1 : d.calls ≤ 1000000
  l0 : -1 ≤ d.left
  l1 : d.left ≤ 9223372036854775807
/-- what a call that changes a device leaves -/
def Did (Dev : Nat → Sm.Dv → (Nat → Prop) → World → Prop) (g : Nat) (F : Nat → Prop) (d : Sm.Dv) (W w' : World) : Prop :=
  ∃ F', Dev g d F' w' ∧ Only F W w' ∧ ∀ k, F' k → F k ∨ W.heap.size ≤ k

/-- the contracts of package sector; Dev g d F W: in W block g holds the device d, which lies in the blocks F -/
structure SecCon (Dev : Nat → Sm.Dv → (Nat → Prop) → World → Prop) : Prop where
  lt : ∀ {g d F W}, Dev g d F W → ∀ k, F k → k < W.heap.size
  ok : ∀ {g d F W}, Dev g d F W → Sm.Ok d
  keep : ∀ {g d F W W'} {p : Nat → Prop}, Dev g d F W → Only p W W' → (∀ k, F k → ¬ p k) → Dev g d F W'
  new : ∀ (n : Nat) (W : World), 1 ≤ n → n ≤ 65536 → Calls Try.prog 8 #[.int .i64 (n : Int)] W fun e w' => ∃ g F, e = .returned (.tuple #[.pointer (some ⟨g, 0, none⟩), .int .i64 0]) ∧ Dev g (Sm.new n) F w' ∧ (∀ k, F k → W.heap.size ≤ k) ∧ Below W.heap.size W w'
  bad : ∀ (n : Int) (W : World), n < 1 ∨ 65536 < n → Calls Try.prog 8 #[.int .i64 n] W fun e w' => e = .returned (.tuple #[.pointer none, .int .i64 2]) ∧ Below W.heap.size W w'
  sectors : ∀ {g d F W}, Dev g d F W → Calls Try.prog 22 #[.pointer (some ⟨g, 0, none⟩)] W fun e w' => e = .returned (.int .i64 (d.kept.length : Int)) ∧ Below W.heap.size W w'
  waiting : ∀ {g d F W}, Dev g d F W → Calls Try.prog 18 #[.pointer (some ⟨g, 0, none⟩)] W fun e w' => e = .returned (.int .i64 (d.ws.length : Int)) ∧ Below W.heap.size W w'
  calls : ∀ {g d F W}, Dev g d F W → Calls Try.prog 19 #[.pointer (some ⟨g, 0, none⟩)] W fun e w' => e = .returned (.int .i64 d.calls) ∧ Below W.heap.size W w'
  read : ∀ {g d F W} (i : Int), Dev g d F W → d.ws.length ≤ 1000 → Calls Try.prog 20 #[.pointer (some ⟨g, 0, none⟩), .int .i64 i] W fun e w' => ∃ a c n, e = .returned (.tuple #[.slice a n c, .int .i64 (Sm.read d i).2]) ∧ n = (Sm.read d i).1.length ∧ w'.ownsRow W.heap.size 62 1 (.slice a n c) n (yc (Sm.read d i).1) ∧ Below W.heap.size W w'
  write : ∀ {g d F W} (i : Int) (a : Option Addr) (n c : Nat) (l : List UInt8), Dev g d F W → Lim d → Yt (.slice a n c) l W → l.length ≤ 1000 → (0 < l.length → ∀ x, a = some x → ¬ F x.block) →
    Calls Try.prog 10 #[.pointer (some ⟨g, 0, none⟩), .int .i64 i, .slice a n c] W fun e w' => e = .returned (.int .i64 (Sm.write d i l).2) ∧ Did Dev g F (Sm.write d i l).1 W w'
  flush : ∀ {g d F W}, Dev g d F W → Lim d → Calls Try.prog 12 #[.pointer (some ⟨g, 0, none⟩)] W fun e w' => e = .returned (.int .i64 (Sm.flush d).2) ∧ Did Dev g F (Sm.flush d).1 W w'
  limit : ∀ {g d F W} (n : Int), Dev g d F W → n64 n → Calls Try.prog 14 #[.pointer (some ⟨g, 0, none⟩), .int .i64 n] W fun e w' => e = .returned (.tuple #[]) ∧ Did Dev g F (Sm.bound d n) W w'
  crash : ∀ {g d F W} (a : Option Addr) (n c : Nat) (ts : List Int), Dev g d F W → d.ws.length ≤ 1000 → It (.slice a n c) ts W → ts.length ≤ 1000 → (0 < ts.length → ∀ x, a = some x → ¬ F x.block) →
    Calls Try.prog 16 #[.pointer (some ⟨g, 0, none⟩), .slice a n c] W fun e w' => e = .returned (.tuple #[]) ∧ Did Dev g F (Sm.crash d ts) W w'
  nRead : ∀ (W : World) (i : Int), Calls Try.prog 20 #[.pointer none, .int .i64 i] W fun e w' => ∃ v, e = .returned (.tuple #[v, .int .i64 1]) ∧ Below W.heap.size W w'
  nWrite : ∀ (W : World) (i : Int), Calls Try.prog 10 #[.pointer none, .int .i64 i, .slice none 0 0] W fun e w' => e = .returned (.int .i64 1) ∧ Below W.heap.size W w'
  nFlush : ∀ (W : World), Calls Try.prog 12 #[.pointer none] W fun e w' => e = .returned (.int .i64 1) ∧ Below W.heap.size W w'
  nSectors : ∀ (W : World), Calls Try.prog 22 #[.pointer none] W fun e w' => e = .returned (.int .i64 0) ∧ Below W.heap.size W w'
  nWaiting : ∀ (W : World), Calls Try.prog 18 #[.pointer none] W fun e w' => e = .returned (.int .i64 0) ∧ Below W.heap.size W w'
  nCalls : ∀ (W : World), Calls Try.prog 19 #[.pointer none] W fun e w' => e = .returned (.int .i64 0) ∧ Below W.heap.size W w'
  nLimit : ∀ (W : World) (n : Int), Calls Try.prog 14 #[.pointer none, .int .i64 n] W fun e w' => e = .returned (.tuple #[]) ∧ Below W.heap.size W w'
  nCrash : ∀ (W : World) (v : Value), Calls Try.prog 16 #[.pointer none, v] W fun e w' => e = .returned (.tuple #[]) ∧ Below W.heap.size W w'

section
variable {Dev : Nat → Sm.Dv → (Nat → Prop) → World → Prop} (V : SecCon Dev)
include V
/-- a device of one's own (made since B) stays in a world that differs only below .. -/
theorem SecCon.below {g : Nat} {d : Sm.Dv} {F : Nat → Prop} {W W' : World} (h : Dev g d F W) (hb : Below W.heap.size W W') : Dev g d F W' :=
  V.keep h (only_of hb) (fun k hk hp => by have := V.lt h k hk; omega)
end
theorem Did.bel {Dev : Nat → Sm.Dv → (Nat → Prop) → World → Prop} {g B : Nat} {F : Nat → Prop} {d : Sm.Dv} {W w' : World} (h : Did Dev g F d W w') (hF : ∀ k, F k → B ≤ k) (hB : B ≤ W.heap.size) : ∃ F', Dev g d F' w' ∧ (∀ k, F' k → B ≤ k) ∧ Below B W w' := by
  obtain ⟨F', h1, h2, h3⟩ := h
  refine ⟨F', h1, fun k hk => ?_, only_bel h2 hB fun k hk hF' => by have := hF k hF'; omega⟩
  rcases h3 k hk with h | h
  · exact hF k h
  · omega
end Go.Proofs.Ytllbemelljaklaa
