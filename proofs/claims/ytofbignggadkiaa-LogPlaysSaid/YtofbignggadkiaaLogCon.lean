/- Layer 7: what the laws take of package log, as one bundle over a predicate for the log in memory, beside the device that it writes. -/
import Derived.Test.YtofbignggadkiaaLogDev
import Derived.Test.YtofbignggadkiaaLogBnd
namespace Go.Proofs.Ytofbignggadkiaa
open Go.RowKit

theorem cell_only {p : Nat → Prop} {w w' : World} (h : Only p w w') {q : Addr} (hq : q.block < w.heap.size) (hp : ¬ p q.block) : w'.cell? q = w.cell? q := by
  have e := h.block q.block hq hp
  unfold World.cell?
  rw [e]
theorem Yt.keepO {a : Option Addr} {n c : Nat} {l : List UInt8} {w w' : World} {p : Nat → Prop} (h : Yt (.slice a n c) l w) (ho : Only p w w') (hp : 0 < l.length → ∀ x, a = some x → ¬ p x.block) : Yt (.slice a n c) l w' := by
  rcases h with h | ⟨g, off, cap, e, hc, hg, hcell⟩
  · exact .inl h
  · injection e with e1 e2 e3
    subst e1 e2 e3
    refine .inr ⟨g, off, c, rfl, hc, by have := ho.size; omega, fun j hj => ?_⟩
    rw [cell_only ho (q := ⟨g, off + j, none⟩) hg (hp (by omega) ⟨g, off, none⟩ rfl)]
    exact hcell j hj
/-- bytes that lie in blocks made since B -/
def Ytb (B : Nat) (a : Option Addr) (n c : Nat) (l : List UInt8) (W : World) : Prop :=
  n = l.length ∧ Yt (.slice a n c) l W ∧ (0 < l.length → ∀ x, a = some x → B ≤ x.block ∧ x.block < W.heap.size)
theorem Ytb.keepO {B : Nat} {a : Option Addr} {n c : Nat} {l : List UInt8} {w w' : World} {p : Nat → Prop} (h : Ytb B a n c l w) (ho : Only p w w') (hp : ∀ k, B ≤ k → k < w.heap.size → ¬ p k) : Ytb B a n c l w' :=
  ⟨h.1, h.2.1.keepO ho (fun h0 x e => by have := h.2.2 h0 x e; exact hp _ this.1 this.2), fun h0 x e => by have := h.2.2 h0 x e; have := ho.size; omega⟩
theorem Ytb.keep {B : Nat} {a : Option Addr} {n c : Nat} {l : List UInt8} {w w' : World} (h : Ytb B a n c l w) (hb : Below w.heap.size w w') : Ytb B a n c l w' :=
  h.keepO (only_of hb) (fun k _ hk hp => by omega)
/-- SLICES OF BYTES, in blocks made since B: what is known of their cells, and of what those hold -/
def Bs (B : Nat) (a : Option Addr) (n c : Nat) (L : List (List UInt8)) (W : World) : Prop :=
  n = L.length ∧ (0 < L.length → ∃ g off, a = some ⟨g, off, none⟩ ∧ L.length ≤ c ∧ B ≤ g ∧ g < W.heap.size ∧ ∀ j, j < L.length → ∃ a1 n1 c1, W.cell? ⟨g, off + j, none⟩ = some (.slice a1 n1 c1) ∧ Ytb B a1 n1 c1 (L.getD j []) W)
theorem Bs.keepO {B : Nat} {a : Option Addr} {n c : Nat} {L : List (List UInt8)} {w w' : World} {p : Nat → Prop} (h : Bs B a n c L w) (ho : Only p w w') (hp : ∀ k, B ≤ k → k < w.heap.size → ¬ p k) : Bs B a n c L w' := by
  refine ⟨h.1, fun h0 => ?_⟩
  obtain ⟨g, off, rfl, hc, hB, hg, hcell⟩ := h.2 h0
  refine ⟨g, off, rfl, hc, hB, by have := ho.size; omega, fun j hj => ?_⟩
  obtain ⟨a1, n1, c1, h1, h2⟩ := hcell j hj
  exact ⟨a1, n1, c1, (cell_only ho (q := ⟨g, off + j, none⟩) hg (hp g hB hg)).trans h1, h2.keepO ho hp⟩
theorem Bs.keep {B : Nat} {a : Option Addr} {n c : Nat} {L : List (List UInt8)} {w w' : World} (h : Bs B a n c L w) (hb : Below w.heap.size w w') : Bs B a n c L w' :=
  h.keepO (only_of hb) (fun k _ hk hp => by omega)
theorem Bs.at {B : Nat} {a : Option Addr} {n c : Nat} {L : List (List UInt8)} {w : World} (h : Bs B a n c L w) {j : Nat} (hj : j < L.length) : ∃ g off, a = some ⟨g, off, none⟩ ∧ n = L.length ∧ n ≤ c ∧ g < w.heap.size ∧ ∃ a1 n1 c1, w.cell? ⟨g, off + j, none⟩ = some (.slice a1 n1 c1) ∧ Ytb B a1 n1 c1 (L.getD j []) w := by
  obtain ⟨g, off, h1, hc, hB, hg, hcell⟩ := h.2 (by omega)
  obtain ⟨a1, n1, c1, h2, h3⟩ := hcell j hj
  exact ⟨g, off, h1, h.1, by have := h.1; omega, hg, a1, n1, c1, h2, h3⟩

/-- what a call of a log leaves of it and of its device -/
def DidL (Dev : Nat → Sm.Dv → (Nat → Prop) → World → Prop) (Log : Nat → Nat → Lm.Lg → (Nat → Prop) → World → Prop) (g gl : Nat) (F G : Nat → Prop) (L : Lm.Lg) (d : Sm.Dv) (W w' : World) : Prop :=
  ∃ F' G', Dev g d F' w' ∧ Log gl g L G' w' ∧ Only (fun k => F k ∨ G k) W w' ∧ (∀ k, F' k → F k ∨ W.heap.size ≤ k) ∧ (∀ k, G' k → G k ∨ W.heap.size ≤ k) ∧ ∀ k, F' k → ¬ G' k
/-- the contracts of package log; Log gl g L G W: in W block gl holds the log L, on the device in block g; it lies in the blocks G -/
structure LogCon (Dev : Nat → Sm.Dv → (Nat → Prop) → World → Prop) (Log : Nat → Nat → Lm.Lg → (Nat → Prop) → World → Prop) : Prop where
  lt : ∀ {gl g L G W}, Log gl g L G W → ∀ k, G k → k < W.heap.size
  keep : ∀ {gl g L G W W'} {p : Nat → Prop}, Log gl g L G W → Only p W W' → (∀ k, G k → ¬ p k) → Log gl g L G W'
  openOk : ∀ {g d F W} (frames : Int) (L : Lm.Lg), Dev g d F W → Dl d → n64 frames → (Lm.open_ d frames).1 = some L →
    Calls Try.prog 7 #[.pointer (some ⟨g, 0, none⟩), .int .i64 frames] W fun e w' => ∃ gl F' G', e = .returned (.tuple #[.pointer (some ⟨gl, 0, none⟩), .int .i64 0]) ∧ Dev g (Lm.open_ d frames).2.1 F' w' ∧ Log gl g L G' w' ∧ Only F W w' ∧ (∀ k, F' k → F k ∨ W.heap.size ≤ k) ∧ (∀ k, G' k → W.heap.size ≤ k) ∧ ∀ k, F' k → ¬ G' k
  openNo : ∀ {g d F W} (frames : Int), Dev g d F W → Dl d → n64 frames → (Lm.open_ d frames).1 = none →
    Calls Try.prog 7 #[.pointer (some ⟨g, 0, none⟩), .int .i64 frames] W fun e w' => e = .returned (.tuple #[.pointer none, .int .i64 (Lm.open_ d frames).2.2]) ∧ Did Dev g F (Lm.open_ d frames).2.1 W w'
  append : ∀ {g gl d L F G W} (a : Option Addr) (n c : Nat) (b : List UInt8), Dev g d F W → Log gl g L G W → (∀ k, F k → ¬ G k) → Dl d → Lok L d → Yt (.slice a n c) b W → (b.length : Int) ≤ 9223372036854775807 → (0 < b.length → ∀ x, a = some x → ¬ F x.block ∧ ¬ G x.block) →
    Calls Try.prog 9 #[.pointer (some ⟨gl, 0, none⟩), .slice a n c] W fun e w' => e = .returned (.int .i64 (Lm.append L d b).2.2) ∧ DidL Dev Log g gl F G (Lm.append L d b).1 (Lm.append L d b).2.1 W w'
  reset : ∀ {g gl d L F G W} (a : Option Addr) (n c : Nat) (b : List UInt8), Dev g d F W → Log gl g L G W → (∀ k, F k → ¬ G k) → Dl d → Lok L d → L.h.n ≤ N62 → Yt (.slice a n c) b W → (b.length : Int) ≤ 9223372036854775807 → (0 < b.length → ∀ x, a = some x → ¬ F x.block ∧ ¬ G x.block) →
    Calls Try.prog 10 #[.pointer (some ⟨gl, 0, none⟩), .slice a n c] W fun e w' => e = .returned (.int .i64 (Lm.reset L d b).2.2) ∧ DidL Dev Log g gl F G (Lm.reset L d b).1 (Lm.reset L d b).2.1 W w'
  head : ∀ {gl g d L G W}, Log gl g L G W → Lok L d → Calls Try.prog 11 #[.pointer (some ⟨gl, 0, none⟩)] W fun e w' => ∃ a n c, e = .returned (.slice a n c) ∧ Ytb W.heap.size a n c L.h.body w' ∧ Below W.heap.size W w'
  batches : ∀ {gl g d L G W}, Log gl g L G W → Lok L d → d.kept.length ≤ 200 → Calls Try.prog 12 #[.pointer (some ⟨gl, 0, none⟩)] W fun e w' => ∃ a n c, e = .returned (.slice a n c) ∧ Bs W.heap.size a n c L.l w' ∧ Below W.heap.size W w'
  room : ∀ {gl g d L G W}, Log gl g L G W → Lok L d → Calls Try.prog 13 #[.pointer (some ⟨gl, 0, none⟩)] W fun e w' => e = .returned (.int .i64 (if L.down = true then 0 else (L.frames : Int) - (L.at_ : Int))) ∧ Below W.heap.size W w'
  epoch : ∀ {gl g d L G W}, Log gl g L G W → Lok L d → Calls Try.prog 14 #[.pointer (some ⟨gl, 0, none⟩)] W fun e w' => e = .returned (.int .i64 (L.h.epoch : Int)) ∧ Below W.heap.size W w'
  nOpen : ∀ (W : World) (frames : Int), n64 frames → Calls Try.prog 7 #[.pointer none, .int .i64 frames] W fun e w' => e = .returned (.tuple #[.pointer none, .int .i64 1]) ∧ Below W.heap.size W w'
  nAppend : ∀ (W : World), Calls Try.prog 9 #[.pointer none, .slice none 0 0] W fun e w' => e = .returned (.int .i64 1) ∧ Below W.heap.size W w'
  nReset : ∀ (W : World), Calls Try.prog 10 #[.pointer none, .slice none 0 0] W fun e w' => e = .returned (.int .i64 1) ∧ Below W.heap.size W w'
  nHead : ∀ (W : World), Calls Try.prog 11 #[.pointer none] W fun e w' => ∃ a c, e = .returned (.slice a 0 c) ∧ Below W.heap.size W w'
  nBatches : ∀ (W : World), Calls Try.prog 12 #[.pointer none] W fun e w' => ∃ a c, e = .returned (.slice a 0 c) ∧ Below W.heap.size W w'
  nRoom : ∀ (W : World), Calls Try.prog 13 #[.pointer none] W fun e w' => e = .returned (.int .i64 0) ∧ Below W.heap.size W w'
  nEpoch : ∀ (W : World), Calls Try.prog 14 #[.pointer none] W fun e w' => e = .returned (.int .i64 0) ∧ Below W.heap.size W w'
/-- what has changed, and where device and log lie now -/
def Ch (F G F' G' : Nat → Prop) (W W' : World) : Prop := Only (fun k => F k ∨ G k) W W' ∧ ∀ k, F' k ∨ G' k → (F k ∨ G k) ∨ W.heap.size ≤ k
/-- A DEVICE AND A LOG ON IT, made since B, apart from each other -/
structure Ld (Dev : Nat → Sm.Dv → (Nat → Prop) → World → Prop) (Log : Nat → Nat → Lm.Lg → (Nat → Prop) → World → Prop) (B g gl : Nat) (d : Sm.Dv) (L : Lm.Lg) (F G : Nat → Prop) (W : World) : Prop where
  d : Dev g d F W
  l : Log gl g L G W
  of : ∀ k, F k → B ≤ k
  og : ∀ k, G k → B ≤ k
  ap : ∀ k, F k → ¬ G k
section
variable {Dev : Nat → Sm.Dv → (Nat → Prop) → World → Prop} {Log : Nat → Nat → Lm.Lg → (Nat → Prop) → World → Prop} (V : SecCon Dev) (U : LogCon Dev Log)
include U
theorem LogCon.below {gl g : Nat} {L : Lm.Lg} {G : Nat → Prop} {W W' : World} (h : Log gl g L G W) (hb : Below W.heap.size W W') : Log gl g L G W' :=
  U.keep h (only_of hb) (fun k hk hp => by have := U.lt h k hk; omega)
include V
theorem Ld.below {B g gl : Nat} {d : Sm.Dv} {L : Lm.Lg} {F G : Nat → Prop} {W W' : World} (h : Ld Dev Log B g gl d L F G W) (hb : Below W.heap.size W W') : Ld Dev Log B g gl d L F G W' :=
  ⟨V.below h.d hb, U.below h.l hb, h.of, h.og, h.ap⟩
theorem Ld.lt {B g gl : Nat} {d : Sm.Dv} {L : Lm.Lg} {F G : Nat → Prop} {W : World} (h : Ld Dev Log B g gl d L F G W) : ∀ k, F k ∨ G k → k < W.heap.size := by
  intro k hk
  rcases hk with hk | hk
  · exact V.lt h.d k hk
  · exact U.lt h.l k hk
omit U in
/-- a new block lies apart -/
theorem Ld.far {B g gl : Nat} {d : Sm.Dv} {L : Lm.Lg} {F G : Nat → Prop} {W : World} (U : LogCon Dev Log) (h : Ld Dev Log B g gl d L F G W) (k : Nat) (hk : W.heap.size ≤ k ∨ k < B) : ¬ F k ∧ ¬ G k := by
  refine ⟨fun hf => ?_, fun hg => ?_⟩
  · have := V.lt h.d k hf; have := h.of k hf; omega
  · have := U.lt h.l k hg; have := h.og k hg; omega
omit U V in
/-- behind a call of the log -/
theorem Ld.did {B g gl : Nat} {d d' : Sm.Dv} {L L' : Lm.Lg} {F G : Nat → Prop} {w W W' : World} (h : Ld Dev Log B g gl d L F G W) (hd : DidL Dev Log g gl F G L' d' W W') (hw : Below B w W) (hB : B ≤ W.heap.size) :
    ∃ F' G', Hid (Ld Dev Log B g gl d' L' F' G' W') ∧ Hid (Below B w W') ∧ Hid (Ch F G F' G' W W') := by
  obtain ⟨F', G', h1, h2, h3, h4, h5, h6⟩ := hd
  refine ⟨F', G', ⟨h1, h2, fun k hk => ?_, fun k hk => ?_, h6⟩, hw.trans (only_bel h3 hB (fun k hk hp => ?_)), h3, fun k hk => ?_⟩
  · rcases h4 k hk with h | h'
    · exact (by assumption : Ld Dev Log B g gl d L F G W).of k h
    · omega
  · rcases h5 k hk with h | h'
    · exact (by assumption : Ld Dev Log B g gl d L F G W).og k h
    · omega
  · rcases hp with hp | hp
    · have := h.of k hp; omega
    · have := h.og k hp; omega
  · rcases hk with hk | hk
    · rcases h4 k hk with x | x
      · exact .inl (.inl x)
      · exact .inr x
    · rcases h5 k hk with x | x
      · exact .inl (.inr x)
      · exact .inr x
omit U V in
/-- behind a call of the device -/
theorem Ld.dev {B g gl : Nat} {d d' : Sm.Dv} {L : Lm.Lg} {F G : Nat → Prop} {w W W' : World} (U : LogCon Dev Log) (h : Ld Dev Log B g gl d L F G W) (hd : Did Dev g F d' W W') (hw : Below B w W) (hB : B ≤ W.heap.size) :
    ∃ F', Hid (Ld Dev Log B g gl d' L F' G W') ∧ Hid (Below B w W') ∧ Hid (Ch F G F' G W W') := by
  obtain ⟨F', h1, h2, h3⟩ := hd
  refine ⟨F', ⟨h1, U.keep h.l h2 (fun k hk hp => h.ap k hp hk), fun k hk => ?_, h.og, fun k hk hg => ?_⟩, hw.trans (only_bel h2 hB (fun k hk hp => ?_)), h2.mono (fun k _ e => .inl e), fun k hk => ?_⟩
  · rcases h3 k hk with h' | h'
    · exact h.of k h'
    · omega
  · rcases h3 k hk with h' | h'
    · exact h.ap k h' hg
    · have := U.lt h.l k hg; omega
  · have := h.of k hp; omega
  · rcases hk with hk | hk
    · rcases h3 k hk with x | x
      · exact .inl (.inl x)
      · exact .inr x
    · exact .inl (.inr hk)
/-! ### calls over a device and its log -/
omit U V in
theorem Ld.append {B g gl : Nat} {d d' : Sm.Dv} {L L' : Lm.Lg} {F G : Nat → Prop} {w W : World} {code : Int} {a : Option Addr} {n c : Nat} {b : List UInt8} (U : LogCon Dev Log) (h : Ld Dev Log B g gl d L F G W) (hd : Dl d) (hl : Lok L d) (hw : Below B w W) (hB : B ≤ W.heap.size) (hy : Yt (.slice a n c) b W) (hb : (b.length : Int) ≤ 9223372036854775807) (hx : 0 < b.length → ∀ x, a = some x → ¬ F x.block ∧ ¬ G x.block) (e : Lm.append L d b = (L', d', code)) :
    Calls Try.prog 9 #[.pointer (some ⟨gl, 0, none⟩), .slice a n c] W fun e w' => e = .returned (.int .i64 code) ∧ ∃ F' G', Hid (Ld Dev Log B g gl d' L' F' G' w') ∧ Hid (Below B w w') ∧ Hid (Ch F G F' G' W w') := by
  refine (U.append a n c b h.d h.l h.ap hd hl hy hb hx).mono ?_
  rintro e2 w' ⟨rfl, hdid⟩
  rw [e] at hdid ⊢
  exact ⟨rfl, h.did hdid hw hB⟩
omit U V in
theorem Ld.reset {B g gl : Nat} {d d' : Sm.Dv} {L L' : Lm.Lg} {F G : Nat → Prop} {w W : World} {code : Int} {a : Option Addr} {n c : Nat} {b : List UInt8} (U : LogCon Dev Log) (h : Ld Dev Log B g gl d L F G W) (hd : Dl d) (hl : Lok L d) (hn : L.h.n ≤ N62) (hw : Below B w W) (hB : B ≤ W.heap.size) (hy : Yt (.slice a n c) b W) (hb : (b.length : Int) ≤ 9223372036854775807) (hx : 0 < b.length → ∀ x, a = some x → ¬ F x.block ∧ ¬ G x.block) (e : Lm.reset L d b = (L', d', code)) :
    Calls Try.prog 10 #[.pointer (some ⟨gl, 0, none⟩), .slice a n c] W fun e w' => e = .returned (.int .i64 code) ∧ ∃ F' G', Hid (Ld Dev Log B g gl d' L' F' G' w') ∧ Hid (Below B w w') ∧ Hid (Ch F G F' G' W w') := by
  refine (U.reset a n c b h.d h.l h.ap hd hl hn hy hb hx).mono ?_
  rintro e2 w' ⟨rfl, hdid⟩
  rw [e] at hdid ⊢
  exact ⟨rfl, h.did hdid hw hB⟩
omit U V in
/-- a log is opened beside another one, which stays as it was -/
theorem Ld.open {B g gl : Nat} {d d' : Sm.Dv} {L L' : Lm.Lg} {F G : Nat → Prop} {w W : World} {frames : Int} (_V : SecCon Dev) (U : LogCon Dev Log) (h : Ld Dev Log B g gl d L F G W) (hd : Dl d) (hn : n64 frames) (hw : Below B w W) (hB : B ≤ W.heap.size) (e : Lm.open_ d frames = (some L', d', 0)) :
    Calls Try.prog 7 #[.pointer (some ⟨g, 0, none⟩), .int .i64 frames] W fun e w' => ∃ gl' F' G', e = .returned (.tuple #[.pointer (some ⟨gl', 0, none⟩), .int .i64 0]) ∧ Hid (Ld Dev Log B g gl' d' L' F' G' w') ∧ Hid (Below B w w') ∧ Hid (Ch F G F' G' W w') ∧ Hid (Ld Dev Log B g gl d' L F' G w') := by
  refine (U.openOk frames L' h.d hd hn (by rw [e])).mono ?_
  rintro e2 w' ⟨gl', F', G', rfl, h1, h2, h3, h4, h5, h6⟩
  rw [e] at h1
  have hF : ∀ k, F' k → B ≤ k := fun k hk => by
    rcases h4 k hk with x | x
    · exact h.of k x
    · omega
  refine ⟨gl', F', G', rfl, ⟨h1, h2, hF, fun k hk => by have := h5 k hk; omega, h6⟩, hw.trans (only_bel h3 hB (fun k hk hp => by have := h.of k hp; omega)), ⟨h3.mono (fun k _ e => .inl e), fun k hk => by
    rcases hk with hk | hk
    · rcases h4 k hk with x | x
      · exact .inl (.inl x)
      · exact .inr x
    · exact .inr (h5 k hk)⟩, ⟨h1, U.keep h.l h3 (fun k hk hp => h.ap k hp hk), hF, h.og, fun k hk hg => ?_⟩⟩
  rcases h4 k hk with x | x
  · exact h.ap k x hg
  · have := U.lt h.l k hg; omega
omit U V in
theorem Ld.openNo {B g gl : Nat} {d d' : Sm.Dv} {L : Lm.Lg} {F G : Nat → Prop} {w W : World} {frames code : Int} (_V : SecCon Dev) (U : LogCon Dev Log) (h : Ld Dev Log B g gl d L F G W) (hd : Dl d) (hn : n64 frames) (hw : Below B w W) (hB : B ≤ W.heap.size) (e : Lm.open_ d frames = (none, d', code)) :
    Calls Try.prog 7 #[.pointer (some ⟨g, 0, none⟩), .int .i64 frames] W fun e w' => e = .returned (.tuple #[.pointer none, .int .i64 code]) ∧ ∃ F', Hid (Ld Dev Log B g gl d' L F' G w') ∧ Hid (Below B w w') ∧ Hid (Ch F G F' G W w') := by
  refine (U.openNo frames h.d hd hn (by rw [e])).mono ?_
  rintro e2 w' ⟨rfl, hdid⟩
  rw [e] at hdid ⊢
  exact ⟨rfl, h.dev U hdid hw hB⟩
omit U V in
theorem Ld.limit {B g gl : Nat} {d : Sm.Dv} {L : Lm.Lg} {F G : Nat → Prop} {w W : World} (n : Int) (V : SecCon Dev) (U : LogCon Dev Log) (h : Ld Dev Log B g gl d L F G W) (hn : n64 n) (hw : Below B w W) (hB : B ≤ W.heap.size) :
    Calls Try.prog 18 #[.pointer (some ⟨g, 0, none⟩), .int .i64 n] W fun e w' => e = .returned (.tuple #[]) ∧ ∃ F', Hid (Ld Dev Log B g gl (Sm.bound d n) L F' G w') ∧ Hid (Below B w w') ∧ Hid (Ch F G F' G W w') := by
  refine (V.limit n h.d hn).mono ?_
  rintro e2 w' ⟨rfl, hdid⟩
  exact ⟨rfl, h.dev U hdid hw hB⟩
omit U V in
theorem Ld.crash {B g gl : Nat} {d : Sm.Dv} {L : Lm.Lg} {F G : Nat → Prop} {w W : World} (a : Option Addr) (n c : Nat) (ts : List Int) (V : SecCon Dev) (U : LogCon Dev Log) (h : Ld Dev Log B g gl d L F G W) (hd : d.ws.length ≤ 1000) (ht : It (.slice a n c) ts W) (hl : ts.length ≤ 1000) (hx : 0 < ts.length → ∀ x, a = some x → ¬ F x.block) (hw : Below B w W) (hB : B ≤ W.heap.size) :
    Calls Try.prog 22 #[.pointer (some ⟨g, 0, none⟩), .slice a n c] W fun e w' => e = .returned (.tuple #[]) ∧ ∃ F', Hid (Ld Dev Log B g gl (Sm.crash d ts) L F' G w') ∧ Hid (Below B w w') ∧ Hid (Ch F G F' G W w') := by
  refine (V.crash a n c ts h.d hd ht hl hx).mono ?_
  rintro e2 w' ⟨rfl, hdid⟩
  exact ⟨rfl, h.dev U hdid hw hB⟩
end
end Go.Proofs.Ytofbignggadkiaa
