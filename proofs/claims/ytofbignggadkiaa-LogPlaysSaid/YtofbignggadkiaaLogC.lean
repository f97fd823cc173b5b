/- Package log: its contracts as one bundle. -/
import Derived.Test.YtofbignggadkiaaLogKj
namespace Go.Proofs.Ytofbignggadkiaa
open Go.RowKit

/-- a log of at most 1000 frames in memory -/
def LogX (gl g : Nat) (L : Lm.Lg) (G : Nat → Prop) (W : World) : Prop := LogK gl g L G W ∧ L.frames ≤ 1000
theorem Lm.append_frames (L : Lm.Lg) (d : Sm.Dv) (b : List UInt8) : (Lm.append L d b).1.frames = L.frames := by
  unfold Lm.append
  split
  · rfl
  split
  · rfl
  split
  · rfl
  split <;> rfl
theorem Lm.reset_frames (L : Lm.Lg) (d : Sm.Dv) (b : List UInt8) : (Lm.reset L d b).1.frames = L.frames := by
  unfold Lm.reset
  split
  · rfl
  split
  · rfl
  split
  · rfl
  split <;> rfl
theorem Lm.open_frames {d : Sm.Dv} {fr : Int} {L : Lm.Lg} (h : (Lm.open_ d fr).1 = some L) : (L.frames : Int) ≤ (d.kept.length : Int) := by
  unfold Lm.open_ at h
  split at h
  · cases h
  split at h
  · cases h
  split at h
  · cases h
  · injection h with h
    subst h
    show ((fr.toNat : Nat) : Int) ≤ _
    omega
theorem DidL.x {g gl : Nat} {F G : Nat → Prop} {L : Lm.Lg} {d : Sm.Dv} {W w' : World} (h : DidL DevK LogK g gl F G L d W w') (hf : L.frames ≤ 1000) : DidL DevK LogX g gl F G L d W w' := by
  obtain ⟨F', G', h1, h2, h3⟩ := h
  exact ⟨F', G', h1, ⟨h2, hf⟩, h3⟩
theorem logCon : LogCon DevK LogX where
  lt := by
    rintro gl g L G W ⟨⟨ha, hc, ba, bc, vs, Y, h, rfl⟩, _⟩ k hk
    exact h.lt k hk
  keep := by
    rintro gl g L G W W' p ⟨⟨ha, hc, ba, bc, vs, Y, h, rfl⟩, hf⟩ ho hp
    exact ⟨⟨ha, hc, ba, bc, vs, Y, h.keepO ho hp, rfl⟩, hf⟩
  openOk := by
    intro g d F W frames L hd hD hn he
    have hfr := Lm.open_frames he
    have hk := hD.k
    refine (log_open frames hd hD hn).mono ?_
    intro e w' h
    unfold OpL at h
    rw [he] at h
    obtain ⟨gl, F', G', h1, h2, h3, h4⟩ := h
    exact ⟨gl, F', G', h1, h2, ⟨h3, by omega⟩, h4⟩
  openNo := by
    intro g d F W frames hd hD hn he
    refine (log_open frames hd hD hn).mono ?_
    intro e w' h
    unfold OpL at h
    rw [he] at h
    exact h
  append := fun a n c b hd hl hap hD hL hy hb hx => (log_append a n c b hd hl.1 hap hD hL hy hb hx).mono fun e w' h => ⟨h.1, h.2.x (by rw [Lm.append_frames]; exact hl.2)⟩
  reset := fun a n c b hd hl hap hD hL hN hy hb hx => (log_reset a n c b hd hl.1 hap hD hL hN hy hb hx).mono fun e w' h => ⟨h.1, h.2.x (by rw [Lm.reset_frames]; exact hl.2)⟩
  head := by
    rintro gl g d L G W ⟨⟨ha, hc, ba, bc, vs, Y, h, rfl⟩, _⟩ hL
    exact log_head h hL.body
  batches := by
    rintro gl g d L G W ⟨⟨ha, hc, ba, bc, vs, Y, h, rfl⟩, _⟩ hL hk
    have h1 := hL.f1; have h2 := hL.at_; have h3 := hL.l
    exact log_batches h (by omega) (fun b hb => by have := hL.b b hb; omega)
  room := by
    rintro gl g d L G W ⟨⟨ha, hc, ba, bc, vs, Y, h, rfl⟩, hs⟩ hL
    refine (log_room h hs (by have := hL.at_; omega)).mono ?_
    rintro e w' ⟨rfl, k, rfl⟩
    exact ⟨rfl, below_drewN _ _⟩
  epoch := by
    rintro gl g d L G W ⟨⟨ha, hc, ba, bc, vs, Y, h, rfl⟩, _⟩ _
    refine (log_epoch h).mono ?_
    rintro e w' ⟨rfl, rfl⟩
    exact ⟨rfl, Below.refl _ _⟩
  nOpen := fun W frames _ => log_nOpen W frames
  nAppend := log_nAppend
  nReset := log_nReset
  nHead := log_nHead
  nBatches := log_nBatches
  nRoom := log_nRoom
  nEpoch := log_nEpoch
end Go.Proofs.Ytofbignggadkiaa
