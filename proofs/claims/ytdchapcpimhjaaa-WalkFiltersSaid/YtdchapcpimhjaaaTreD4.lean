/- Package tree: Levels, Rank. -/
import Derived.Test.YtdchapcpimhjaaaTreD3
namespace Go.Proofs.Ytdchapcpimhjaaa
open Go.RowKit

/-- the children of an inner node, each -/
theorem Tn.each {ex : Nat → Prop} {h p : Nat} {ks : List Tm.T} {W : World} (ht : Tn ex (h + 1) p (.inner ks) W) (h0 : 0 < ks.length) : ∃ bg boff bc, W.cell? ⟨p, 2, none⟩ = some (.slice (some ⟨bg, boff, none⟩) ks.length bc) ∧ ks.length ≤ bc ∧ bc ≤ 64 ∧ bg < W.heap.size ∧ p < W.heap.size ∧
    ∀ j, j < ks.length → ∃ y, W.cell? ⟨bg, boff + j, none⟩ = some (.pointer (some ⟨y, 0, none⟩)) ∧ Tn ex h y (ks.getD j (.leaf [])) W := by
  obtain ⟨ks', ps, el, hxp, hpl2, ⟨ka, kc, va, vc, ba, bc, hn, hk, hv, hcp⟩, hj⟩ := ht
  injection el with el
  subst el
  obtain ⟨bg, boff, rfl, hc, hg, hcell⟩ := hv.at h0
  exact ⟨bg, boff, bc, by rw [Lib.cell_of_heap hn]; rfl, hc, hcp.2.2, hg, heap_lt hn, fun j hjl => ⟨ps.getD j 0, by rw [hcell j hjl, pv_get ps (by omega)]; rfl, hj j hjl⟩⟩
end Go.Proofs.Ytdchapcpimhjaaa
