/- Layer 7: an action's copy beside a device and its log; rows beside a log that stays. -/
import Derived.Test.YtmcjkaoddjakhaaLogTxt
import Derived.Test.YtmcjkaoddjakhaaLogCm
namespace Go.Proofs.Ytmcjkaoddjakhaa
open Go.RowKit

/-- an action's copy in block gO, apart from a device and its log -/
structure Oc (gO : Nat) (sk si : Int) (ab : Option Addr) (nb cb : Nat) (F G : Nat → Prop) (W : World) : Prop where
  c0 : W.cell? ⟨gO, 0, none⟩ = some (.int .i64 sk)
  c1 : W.cell? ⟨gO, 1, none⟩ = some (.int .i64 si)
  c2 : W.cell? ⟨gO, 2, none⟩ = some (.slice ab nb cb)
  ne : ∀ k, F k ∨ G k → k ≠ gO
  lt : gO < W.heap.size
theorem Oc.new {w : World} {sk si : Int} {ab av : Option Addr} {nb cb nt ct : Nat} {F G : Nat → Prop} {T : TypeId} (h : ∀ k, F k ∨ G k → k < w.heap.size) : Oc w.heap.size sk si ab nb cb F G (w.alloc (.cells #[.int .i64 sk, .int .i64 si, .slice ab nb cb, .slice av nt ct] T)) :=
  ⟨by rw [Lib.cell_of_heap (heap_alloc_new w _)]; rfl, by rw [Lib.cell_of_heap (heap_alloc_new w _)]; rfl, by rw [Lib.cell_of_heap (heap_alloc_new w _)]; rfl, fun k hk e => by have := h k hk; omega, by simp⟩
theorem Oc.step {gO : Nat} {sk si : Int} {ab : Option Addr} {nb cb : Nat} {F G F' G' : Nat → Prop} {W W' : World} (h : Oc gO sk si ab nb cb F G W) (hc : Ch F G F' G' W W') : Oc gO sk si ab nb cb F' G' W' :=
  ⟨(cell_only hc.1 (q := ⟨gO, 0, none⟩) h.lt (fun hk => h.ne _ hk rfl)).trans h.c0, (cell_only hc.1 (q := ⟨gO, 1, none⟩) h.lt (fun hk => h.ne _ hk rfl)).trans h.c1, (cell_only hc.1 (q := ⟨gO, 2, none⟩) h.lt (fun hk => h.ne _ hk rfl)).trans h.c2,
    fun k hk e => by
      rcases hc.2 k hk with hx | hx
      · exact h.ne k hx e
      · have := h.lt; omega, by have := hc.1.size; have := h.lt; omega⟩
theorem Oc.keep {gO : Nat} {sk si : Int} {ab : Option Addr} {nb cb : Nat} {F G : Nat → Prop} {W W' : World} (h : Oc gO sk si ab nb cb F G W) (hb : Below W.heap.size W W') : Oc gO sk si ab nb cb F G W' :=
  ⟨(hb.cell (p := ⟨gO, 0, none⟩) h.lt).trans h.c0, (hb.cell (p := ⟨gO, 1, none⟩) h.lt).trans h.c1, (hb.cell (p := ⟨gO, 2, none⟩) h.lt).trans h.c2, h.ne, by have := hb.size; have := h.lt; omega⟩
/-- a row, when a log was opened beside the one that is meant -/
theorem Hv.old {B : Nat} {F G F' G' : Nat → Prop} {a : Option Addr} {n c : Nat} {L : List (List UInt8)} {W W' : World} (h : Hv B F G a n c L W) (hc : Ch F G F' G' W W') : Hv B F' G a n c L W' := by
  have h2 := h.step hc
  exact ⟨h2.s, fun h0 x e hx => by
    rcases hx with hx | hx
    · exact h2.ap h0 x e (.inl hx)
    · exact h.ap h0 x e (.inr hx)⟩
theorem Oc.old {gO : Nat} {sk si : Int} {ab : Option Addr} {nb cb : Nat} {F G F' G' : Nat → Prop} {W W' : World} (h : Oc gO sk si ab nb cb F G W) (hc : Ch F G F' G' W W') : Oc gO sk si ab nb cb F' G W' := by
  have h2 := h.step hc
  exact ⟨h2.c0, h2.c1, h2.c2, fun k hk e => by
    rcases hk with hk | hk
    · exact h2.ne k (.inl hk) e
    · exact h.ne k (.inr hk) e, h2.lt⟩
/-- bytes that came in are apart from what was made since -/
theorem far_in {B : Nat} {F G : Nat → Prop} {ab : Option Addr} {nb cb : Nat} {sb : List UInt8} {w : World} (hy : Yt (.slice ab nb cb) sb w) (hw : w.heap.size = B) (hF : ∀ k, F k → B ≤ k) (hG : ∀ k, G k → B ≤ k) : 0 < sb.length → ∀ x, ab = some x → ¬ F x.block ∧ ¬ G x.block := fun h0 x e => by
  subst e
  rcases hy with ⟨_, _, _, e2⟩ | ⟨gy, oy, cy, e2, _, hgy, _⟩
  · rw [e2] at h0; exact absurd h0 (by decide)
  · injection e2 with e3
    injection e3 with e3
    subst e3
    exact ⟨fun h => by have := hF _ h; simp at this; omega, fun h => by have := hG _ h; simp at this; omega⟩
theorem far_it {B : Nat} {F : Nat → Prop} {ab : Option Addr} {nb cb : Nat} {ts : List Int} {w : World} (hy : It (.slice ab nb cb) ts w) (hw : w.heap.size = B) (hF : ∀ k, F k → B ≤ k) : 0 < ts.length → ∀ x, ab = some x → ¬ F x.block := fun h0 x e => by
  subst e
  rcases hy with ⟨_, _, _, e2⟩ | ⟨gy, oy, cy, e2, _, hgy, _⟩
  · rw [e2] at h0; exact absurd h0 (by decide)
  · injection e2 with e3
    injection e3 with e3
    subst e3
    exact fun h => by have := hF _ h; simp at this; omega
end Go.Proofs.Ytmcjkaoddjakhaa
