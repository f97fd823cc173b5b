/- Layer 7: what is taken of package sector, as one bundle over a predicate for the device in memory; and its proof. -/
import Derived.Test.YtofbignggadkiaaSecC7
namespace Go.Proofs.Ytofbignggadkiaa
open Go.RowKit

/-- the contracts of package sector; Dev g d F W: in W block g holds the device d, which lies in the blocks F -/
structure SecCon (Dev : Nat → Sm.Dv → (Nat → Prop) → World → Prop) : Prop where
  lt : ∀ {g d F W}, Dev g d F W → ∀ k, F k → k < W.heap.size
  ok : ∀ {g d F W}, Dev g d F W → Sm.Ok d
  keep : ∀ {g d F W W'} {p : Nat → Prop}, Dev g d F W → Only p W W' → (∀ k, F k → ¬ p k) → Dev g d F W'
  new : ∀ (n : Nat) (W : World), 1 ≤ n → n ≤ 65536 → Calls Try.prog 5 #[.int .i64 (n : Int)] W fun e w' => ∃ g F, e = .returned (.tuple #[.pointer (some ⟨g, 0, none⟩), .int .i64 0]) ∧ Dev g (Sm.new n) F w' ∧ (∀ k, F k → W.heap.size ≤ k) ∧ Below W.heap.size W w'
  bad : ∀ (n : Int) (W : World), n < 1 ∨ 65536 < n → Calls Try.prog 5 #[.int .i64 n] W fun e w' => e = .returned (.tuple #[.pointer none, .int .i64 2]) ∧ Below W.heap.size W w'
  sectors : ∀ {g d F W}, Dev g d F W → Calls Try.prog 29 #[.pointer (some ⟨g, 0, none⟩)] W fun e w' => e = .returned (.int .i64 (d.kept.length : Int)) ∧ Below W.heap.size W w'
  calls : ∀ {g d F W}, Dev g d F W → Calls Try.prog 25 #[.pointer (some ⟨g, 0, none⟩)] W fun e w' => e = .returned (.int .i64 d.calls) ∧ Below W.heap.size W w'
  read : ∀ {g d F W} (i : Int), Dev g d F W → d.ws.length ≤ 1000 → Calls Try.prog 26 #[.pointer (some ⟨g, 0, none⟩), .int .i64 i] W fun e w' => ∃ a c n, e = .returned (.tuple #[.slice a n c, .int .i64 (Sm.read d i).2]) ∧ n = (Sm.read d i).1.length ∧ w'.ownsRow W.heap.size 87 1 (.slice a n c) n (yc (Sm.read d i).1) ∧ Below W.heap.size W w'
  write : ∀ {g d F W} (i : Int) (a : Option Addr) (n c : Nat) (l : List UInt8), Dev g d F W → Lim d → Yt (.slice a n c) l W → l.length ≤ 1000 → (0 < l.length → ∀ x, a = some x → ¬ F x.block) →
    Calls Try.prog 20 #[.pointer (some ⟨g, 0, none⟩), .int .i64 i, .slice a n c] W fun e w' => e = .returned (.int .i64 (Sm.write d i l).2) ∧ Did Dev g F (Sm.write d i l).1 W w'
  flush : ∀ {g d F W}, Dev g d F W → Lim d → Calls Try.prog 52 #[.pointer (some ⟨g, 0, none⟩)] W fun e w' => e = .returned (.int .i64 (Sm.flush d).2) ∧ Did Dev g F (Sm.flush d).1 W w'
  limit : ∀ {g d F W} (n : Int), Dev g d F W → n64 n → Calls Try.prog 18 #[.pointer (some ⟨g, 0, none⟩), .int .i64 n] W fun e w' => e = .returned (.tuple #[]) ∧ Did Dev g F (Sm.bound d n) W w'
  crash : ∀ {g d F W} (a : Option Addr) (n c : Nat) (ts : List Int), Dev g d F W → d.ws.length ≤ 1000 → It (.slice a n c) ts W → ts.length ≤ 1000 → (0 < ts.length → ∀ x, a = some x → ¬ F x.block) →
    Calls Try.prog 22 #[.pointer (some ⟨g, 0, none⟩), .slice a n c] W fun e w' => e = .returned (.tuple #[]) ∧ Did Dev g F (Sm.crash d ts) W w'

section
variable {Dev : Nat → Sm.Dv → (Nat → Prop) → World → Prop} (V : SecCon Dev)
include V
/-- a device of one's own (made since B) stays in a world that differs only below .. -/
theorem SecCon.below {g : Nat} {d : Sm.Dv} {F : Nat → Prop} {W W' : World} (h : Dev g d F W) (hb : Below W.heap.size W W') : Dev g d F W' :=
  V.keep h (only_of hb) (fun k hk hp => by have := V.lt h k hk; omega)
end
/-- block g holds the device d, which lies in the blocks F -/
def DevK (g : Nat) (d : Sm.Dv) (F : Nat → Prop) (W : World) : Prop :=
  ∃ kb nb wa wc lim lf nw, Dk g kb nb wa wc lim lf nw d W ∧ Nv nw d ∧ F = Kf g kb nb wa
theorem secCon : SecCon DevK where
  lt := by
    rintro g d F W ⟨kb, nb, wa, wc, lim, lf, nw, h, hv, rfl⟩
    exact h.f_lt
  ok := by
    rintro g d F W ⟨kb, nb, wa, wc, lim, lf, nw, h, hv, rfl⟩
    exact h.ok
  keep := by
    rintro g d F W W' p ⟨kb, nb, wa, wc, lim, lf, nw, h, hv, rfl⟩ ho hp
    exact ⟨kb, nb, wa, wc, lim, lf, nw, h.keepO ho hp, hv, rfl⟩
  new := by
    intro n W h1 h2
    refine (sec_new n W h1 h2).mono ?_
    rintro e w' ⟨g, kb, nb, rfl, hd, hF, hb⟩
    exact ⟨g, _, rfl, ⟨kb, nb, none, 0, false, 0, _, hd, fun _ _ => rfl, rfl⟩, hF, hb⟩
  bad := fun n W h => sec_bad n W h
  sectors := by
    rintro g d F W ⟨kb, nb, wa, wc, lim, lf, nw, h, hv, rfl⟩
    exact sec_sectors _ _ _ _ _ _ _ _ _ _ h
  calls := by
    rintro g d F W ⟨kb, nb, wa, wc, lim, lf, nw, h, hv, rfl⟩
    exact sec_calls _ _ _ _ _ _ _ _ _ _ h
  read := by
    rintro g d F W i ⟨kb, nb, wa, wc, lim, lf, nw, h, hv, rfl⟩ _
    exact sec_read _ _ _ _ _ _ _ _ _ i _ h hv
  write := by
    rintro g d F W i a n c l ⟨kb, nb, wa, wc, lim, lf, nw, h, hv, rfl⟩ hl hy hz _
    refine (sec_write _ _ _ _ _ _ _ _ _ i a n c l _ h hv hl hy hz).mono ?_
    rintro e w' ⟨rfl, ho, wa', wc', lf', nw', hd, hv', hF⟩
    exact ⟨rfl, _, ⟨kb, nb, wa', wc', lim, lf', nw', hd, hv', rfl⟩, ho, hF⟩
  flush := by
    rintro g d F W ⟨kb, nb, wa, wc, lim, lf, nw, h, hv, rfl⟩ hl
    refine (sec_flush _ _ _ _ _ _ _ _ _ _ h hv hl).mono ?_
    rintro e w' ⟨rfl, ho, wa', wc', lf', nw', hd, hv', hF⟩
    exact ⟨rfl, _, ⟨kb, nb, wa', wc', lim, lf', nw', hd, hv', rfl⟩, ho, hF⟩
  limit := by
    rintro g d F W n ⟨kb, nb, wa, wc, lim, lf, nw, h, hv, rfl⟩ _
    refine (sec_limit _ _ _ _ _ _ _ _ _ n _ h).mono ?_
    rintro e w' ⟨rfl, ⟨lf', hd⟩, ho⟩
    exact ⟨rfl, _, ⟨kb, nb, wa, wc, true, lf', nw, hd, hv, rfl⟩, ho.mono (fun k _ e => .inl e), fun k hk => .inl hk⟩
  crash := by
    rintro g d F W a n c ts ⟨kb, nb, wa, wc, lim, lf, nw, h, hv, rfl⟩ hl ht _ hta
    refine (sec_crash _ _ _ _ _ _ _ _ _ a n c ts _ h hv hl ht hta).mono ?_
    rintro e w' ⟨rfl, ho, wa', wc', lim', lf', nw', hd, hv', hF⟩
    exact ⟨rfl, _, ⟨kb, nb, wa', wc', lim', lf', nw', hd, hv', rfl⟩, ho, hF⟩
end Go.Proofs.Ytofbignggadkiaa
