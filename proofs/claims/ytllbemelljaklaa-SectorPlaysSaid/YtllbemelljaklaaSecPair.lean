/- Layer 6: a device beside the reference's, apart from each other, for SectorPlays. -/
import Derived.Test.YtllbemelljaklaaSecW0
namespace Go.Proofs.Ytllbemelljaklaa
open Go.RowKit

structure Pd (Dev : Nat → Sm.Dv → (Nat → Prop) → World → Prop) (B g gr kb kc : Nat) (wa : Option Addr) (wc : Nat) (d1 d2 : Sm.Dv) (F : Nat → Prop) (W : World) : Prop where
  a : Dev g d1 F W
  r : Dr gr kb kc wa wc d2 W
  o1 : ∀ k, F k → B ≤ k
  o2 : B ≤ gr ∧ B ≤ kb
  ow : ∀ x, wa = some x → B ≤ x.block ∧ x.block < W.heap.size
  dg : ¬ F gr
  dk : ¬ F kb
  dw : ∀ x, wa = some x → ¬ F x.block
/-- where the pair lies -/
def Pp (gr kb : Nat) (wa : Option Addr) (F : Nat → Prop) : Nat → Prop := fun k => F k ∨ k = gr ∨ k = kb ∨ ∃ x, wa = some x ∧ x.block = k
theorem Pd.kb_lt {Dev : Nat → Sm.Dv → (Nat → Prop) → World → Prop} {B g gr kb kc wc : Nat} {wa : Option Addr} {d1 d2 : Sm.Dv} {F : Nat → Prop} {W : World} (h : Pd Dev B g gr kb kc wa wc d1 d2 F W) : kb < W.heap.size := (h.r.kr.lt kb rfl).2
section
variable {Dev : Nat → Sm.Dv → (Nat → Prop) → World → Prop} (V : SecCon Dev)
include V
theorem Pd.pp_lt {B g gr kb kc wc : Nat} {wa : Option Addr} {d1 d2 : Sm.Dv} {F : Nat → Prop} {W : World} (h : Pd Dev B g gr kb kc wa wc d1 d2 F W) : ∀ k, Pp gr kb wa F k → k < W.heap.size := by
  intro k hk
  rcases hk with hk | rfl | rfl | ⟨x, e, rfl⟩
  · exact V.lt h.a k hk
  · exact h.r.lt
  · exact Pd.kb_lt h
  · exact (h.ow x e).2
/-- what changes elsewhere -/
theorem Pd.keepO {B g gr kb kc wc : Nat} {wa : Option Addr} {d1 d2 : Sm.Dv} {F : Nat → Prop} {W W' : World} {p : Nat → Prop} (h : Pd Dev B g gr kb kc wa wc d1 d2 F W) (ho : Only p W W') (hp : ∀ k, Pp gr kb wa F k → ¬ p k) : Pd Dev B g gr kb kc wa wc d1 d2 F W' :=
  ⟨V.keep h.a ho (fun k hk => hp k (.inl hk)), Dr.keepO h.r ho (hp gr (.inr (.inl rfl))) (hp kb (.inr (.inr (.inl rfl)))) (fun x e => hp x.block (.inr (.inr (.inr ⟨x, e, rfl⟩)))),
    h.o1, h.o2, fun x e => ⟨(h.ow x e).1, by have := ho.size; have := (h.ow x e).2; omega⟩, h.dg, h.dk, h.dw⟩
theorem Pd.below {B g gr kb kc wc : Nat} {wa : Option Addr} {d1 d2 : Sm.Dv} {F : Nat → Prop} {W W' : World} (h : Pd Dev B g gr kb kc wa wc d1 d2 F W) (hb : Below W.heap.size W W') : Pd Dev B g gr kb kc wa wc d1 d2 F W' :=
  Pd.keepO V h (only_of hb) (fun k hk hp => by have := Pd.pp_lt V h k hk; omega)
omit V in
/-- behind a call of the device -/
theorem Pd.one {B g gr kb kc wc : Nat} {wa : Option Addr} {d1 d2 d : Sm.Dv} {F : Nat → Prop} {w W W' : World} (h : Pd Dev B g gr kb kc wa wc d1 d2 F W) (hd : Did Dev g F d W W') (hw : Below B w W) (hB : B ≤ W.heap.size) :
    ∃ F', Hid (Pd Dev B g gr kb kc wa wc d d2 F' W') ∧ Hid (Below B w W') ∧ Hid (Only F W W') ∧ Hid (∀ k, Pp gr kb wa F' k → Pp gr kb wa F k ∨ W.heap.size ≤ k) := by
  obtain ⟨F', h1, h2, h3⟩ := hd
  have hsz := h2.size
  refine ⟨F', ⟨h1, Dr.keepO h.r h2 h.dg h.dk h.dw, fun k hk => ?_, h.o2, fun x e => ⟨(h.ow x e).1, by have := (h.ow x e).2; omega⟩, fun hf => ?_, fun hf => ?_, fun x e hf => ?_⟩, hw.trans (only_bel h2 hB (fun k hk hp => by have := h.o1 k hp; omega)), h2, fun k hk => ?_⟩
  · rcases h3 k hk with h4 | h4
    · exact h.o1 k h4
    · omega
  · rcases h3 gr hf with h4 | h4
    · exact h.dg h4
    · have := h.r.lt; omega
  · rcases h3 kb hf with h4 | h4
    · exact h.dk h4
    · have := Pd.kb_lt h; omega
  · rcases h3 x.block hf with h4 | h4
    · exact h.dw x e h4
    · have := (h.ow x e).2; omega
  · rcases hk with hk | hk
    · rcases h3 k hk with h4 | h4
      · exact .inl (.inl h4)
      · exact .inr h4
    · exact .inl (.inr hk)
/-- behind a call of the reference's -/
theorem Pd.two {B g gr kb kc wc wc' : Nat} {wa wa' : Option Addr} {d1 d2 d : Sm.Dv} {F : Nat → Prop} {w W W' : World} (h : Pd Dev B g gr kb kc wa wc d1 d2 F W) (ho : Only (Fp gr kb) W W') (hd : Dr gr kb kc wa' wc' d W') (ha : ∀ x, wa' = some x → wa = some x ∨ (W.heap.size ≤ x.block ∧ x.block < W'.heap.size)) (hw : Below B w W) (hB : B ≤ W.heap.size) :
    Hid (Pd Dev B g gr kb kc wa' wc' d1 d F W') ∧ Hid (Below B w W') ∧ Hid (∀ k, Pp gr kb wa' F k → Pp gr kb wa F k ∨ W.heap.size ≤ k) := by
  have hsz := ho.size
  have h2 := h.o2
  refine ⟨⟨V.keep h.a ho (fun k hk hp => ?_), hd, h.o1, h.o2, fun x e => ?_, h.dg, h.dk, fun x e hf => ?_⟩, hw.trans (only_bel ho hB (fun k hk hp => ?_)), fun k hk => ?_⟩
  · rcases hp with rfl | rfl
    · exact h.dg hk
    · exact h.dk hk
  · rcases ha x e with e2 | ⟨e2, e3⟩
    · exact ⟨(h.ow x e2).1, by have := (h.ow x e2).2; omega⟩
    · exact ⟨by omega, e3⟩
  · rcases ha x e with e2 | ⟨e2, e3⟩
    · exact h.dw x e2 hf
    · have := V.lt h.a _ hf; omega
  · rcases hp with rfl | rfl <;> omega
  · rcases hk with hk | hk | hk | ⟨x, e, rfl⟩
    · exact .inl (.inl hk)
    · exact .inl (.inr (.inl hk))
    · exact .inl (.inr (.inr (.inl hk)))
    · rcases ha x e with e2 | ⟨e2, e3⟩
      · exact .inl (.inr (.inr (.inr ⟨x, e2, rfl⟩)))
      · exact .inr e2
end
/-- what a flush and a crash leave of the list -/
theorem wa_old {wa wa' : Option Addr} {n m : Nat} (h : wa' = wa ∨ wa' = none) : ∀ x, wa' = some x → wa = some x ∨ (n ≤ x.block ∧ x.block < m) := by
  intro x e
  rcases h with rfl | rfl
  · exact .inl e
  · cases e
/-! ### the plan in plain words -/
/-- behind i steps of a script -/
structure Sm.Pl (n i : Nat) (d : Sm.Dv) : Prop where
  ok : Sm.Ok d
  len : d.kept.length = n
  w : d.ws.length ≤ i
  c0 : 0 ≤ d.calls
  c1 : d.calls ≤ i
  l0 : -1 ≤ d.left
  l1 : d.left ≤ 9223372036854775807
namespace Sm
theorem pl_new (n : Nat) : Pl n 0 (new n) :=
  ⟨ok_new n, by show (List.replicate n (full [])).length = n; rw [List.length_replicate], Nat.le_refl _, Int.le_refl _, Int.le_refl _, Int.le_refl _, by show (-1 : Int) ≤ _; omega⟩
theorem pl_mono {n i : Nat} {d : Dv} (h : Pl n i d) : Pl n (i + 1) d :=
  ⟨h.ok, h.len, by have := h.w; omega, h.c0, by have := h.c1; omega, h.l0, h.l1⟩
theorem pl_count {n i : Nat} {d : Dv} (h : Ok d) (hn : d.kept.length = n) (hw : d.ws.length ≤ i + 1) (c0 : 0 ≤ d.calls) (c1 : d.calls ≤ i) (l0 : -1 ≤ d.left) (l1 : d.left ≤ 9223372036854775807) : Pl n (i + 1) (count d) := by
  refine ⟨ok_count h, hn, hw, ?_, ?_, ?_, ?_⟩
  · show 0 ≤ d.calls + 1; omega
  · show d.calls + 1 ≤ ((i + 1 : Nat) : Int); omega
  · show -1 ≤ if 0 < d.left then d.left - 1 else d.left; split <;> omega
  · show (if 0 < d.left then d.left - 1 else d.left) ≤ _; split <;> omega
theorem pl_write {n i : Nat} {d : Dv} (h : Pl n i d) (k : Int) (b : List UInt8) : Pl n (i + 1) (write d k b).1 := by
  have ho := ok_write h.ok k b
  unfold write at ho ⊢
  by_cases hc : check d k b.length = 0
  · rw [if_pos hc] at ho ⊢
    exact pl_count (d := { d with ws := d.ws ++ [⟨k.toNat, full b⟩] }) ⟨ho.k, ho.w⟩ h.len (by show (d.ws ++ [_]).length ≤ _; rw [List.length_append]; have := h.w; show d.ws.length + 1 ≤ _; omega) h.c0 h.c1 h.l0 h.l1
  · rw [if_neg hc]; exact pl_mono h
theorem pl_flush {n i : Nat} {d : Dv} (h : Pl n i d) : Pl n (i + 1) (flush d).1 := by
  have ho := ok_flush h.ok
  unfold flush at ho ⊢
  by_cases hc : check d 0 0 = 0
  · rw [if_pos hc] at ho ⊢
    exact pl_count (d := { d with kept := apply d.kept d.ws, ws := [] }) ⟨ho.k, ho.w⟩ (by show (apply d.kept d.ws).length = n; rw [apply_len]; exact h.len) (Nat.zero_le _) h.c0 h.c1 h.l0 h.l1
  · rw [if_neg hc]; exact pl_mono h
theorem pl_bound {n i : Nat} {d : Dv} (h : Pl n i d) (x : Int) (hx : x ≤ 9223372036854775807) : Pl n (i + 1) (bound d x) :=
  ⟨ok_bound h.ok x, h.len, by have := h.w; show d.ws.length ≤ _; omega, h.c0, by have := h.c1; show d.calls ≤ _; omega, by show -1 ≤ max x 0; omega, by show max x 0 ≤ _; omega⟩
theorem pl_crash {n i : Nat} {d : Dv} (h : Pl n i d) (ts : List Int) : Pl n (i + 1) (crash d ts) :=
  ⟨ok_crash h.ok ts, by show (torn d.kept d.ws ts).length = n; rw [torn_len]; exact h.len, Nat.zero_le _, h.c0, by have := h.c1; show d.calls ≤ _; omega, Int.le_refl _, by show (-1 : Int) ≤ _; omega⟩
end Sm
theorem pl_lim {n i : Nat} {d : Sm.Dv} (h : Sm.Pl n i d) (hi : i ≤ 1000) : Lim d :=
  ⟨by have := h.w; omega, h.c0, by have := h.c1; omega, h.l0, h.l1⟩
end Go.Proofs.Ytllbemelljaklaa
