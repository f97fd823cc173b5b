/- Layer 9: texts as arguments. -/
import Derived.Test.YtnjmfhdgemigcaaTreM
import Derived.ProofKit
import Derived.OpenShut
import Derived.ChangeSlices
import Derived.ChangeOld
import Derived.ChangeMaps5
import Derived.Deep.Strs
import Derived.Shelf.Vars
namespace Go.Proofs.Ytnjmfhdgemigcaa
open Go.ChangeShapes Go.WideShapes Go.ChangeAt Go.RowKit Go.WideMaps Go.Joins

section
variable {H : Type} {enc : TypeId × Value → H} {w : World} {base : Nat} {held : Bool}
theorem str_bstr9 (s : ByteArray) : ∃ k : Tm.K, s = bstr k := ⟨s.data.toList, by unfold bstr; apply ByteArray.ext; simp⟩
set_option maxRecDepth 100000 in
theorem open_strs9 {r : Reach} {b0 : Nat} {v : Value} {d : DataW H} {p : List MemPlace} (hv : Value.okWide Try.prog w r b0 22 v) (h : DataW.Trod enc Try.prog w base (fun _ => true) held 22 v d p) :
    ∃ (a : Option Addr) (n c : Nat) (ks : List Tm.K), v = .slice a n c ∧ Rv (fun _ => False) a n c (sk ks) w := by
  obtain ⟨a, n, cap, rfl⟩ := okWide_slice Try.underlying22 hv
  obtain ⟨fuel, hf⟩ := h
  rcases Go.Deep.open_strs Try.underlying22 Try.underlying9 (by kernel_rfl) hf with ⟨hcs, _⟩ | ⟨x, l, c, m, Sx, hcs, _, hl, hm, hmm, _, hcell⟩
  · simp [Value.cells] at hcs
    obtain ⟨rfl, rfl, rfl⟩ := hcs
    exact ⟨_, _, _, [], rfl, Rv.nil _ _ _ _⟩
  · simp [Value.cells] at hcs
    obtain ⟨rfl, rfl, rfl⟩ := hcs
    rw [if_pos rfl] at hmm
    refine ⟨_, _, _, (List.range n).map (fun i => (Sx i).data.toList), rfl, by simp [sk], fun h0 => ?_⟩
    obtain ⟨b, off, spot⟩ := x
    have hspot : spot = none := by simpa [Addr.add] using World.cell?_spot (hcell 0 (by omega)).1
    subst hspot
    have hc : ∀ j, j < m → w.cell? ⟨b, off + j, none⟩ = some (.string (Sx j)) := fun j hj => by rw [← Go.WideShapes.add_plain]; exact (hcell j hj).1
    refine ⟨b, off, rfl, hl, World.block_lt_of_cell? w ⟨b, off + 0, none⟩ (hc 0 (by omega)), fun h => h, fun j hj => ?_⟩
    rw [hc j (by omega), sk_get _ (by simpa using hj)]
    have : bstr (Sx j).data.toList = Sx j := by unfold bstr; apply ByteArray.ext; simp
    simp [List.getD, hj, this]
end
end Go.Proofs.Ytnjmfhdgemigcaa
