/- Layer 8: bytes and numbers of 16 bits as arguments. -/
import Derived.Test.YtlakolcjgnmllaaTreW2
import Derived.ProofKit
import Derived.OpenShut
import Derived.ChangeSlices
import Derived.ChangeOld
import Derived.Shelf.Vars
import Derived.Lib.SmallJoins
namespace Go.Proofs.Ytlakolcjgnmllaa
open Go.ChangeShapes Go.WideShapes Go.ChangeAt Go.RowKit Go.WideMaps Go.Joins

section
variable {H : Type} {enc : TypeId × Value → H} {w : World} {base : Nat} {held : Bool}
theorem yt_op {W : World} (x : Addr) (len cap : Nat) (zs : List Int) (hl : len ≤ cap) (hm : cap ≤ maxLen) (hzl : len ≤ zs.length) (hcell : ∀ i, i < zs.length → W.cell? (x.add i) = some (.int .u8 (zs.getD i 0))) (hwz : ∀ n ∈ zs, (Lit.int .u8 n).wf = true) :
    ∃ raw : List UInt8, raw.length = len ∧ len ≤ maxLen ∧ Yt (.slice (some x) len cap) raw W := by
  have hlen : ((zs.take len).map fun z => UInt8.ofNat z.toNat).length = len := by rw [List.length_map, List.length_take]; omega
  refine ⟨(zs.take len).map fun z => UInt8.ofNat z.toNat, hlen, by omega, ?_⟩
  rcases Nat.eq_zero_or_pos len with e | e
  · subst e; exact .inl ⟨_, _, rfl, by simp⟩
  · obtain ⟨b, off, spot⟩ := x
    have hspot : spot = none := by simpa [Addr.add] using World.cell?_spot (hcell 0 (by omega))
    subst hspot
    have hc : ∀ j, j < zs.length → W.cell? ⟨b, off + j, none⟩ = some (.int .u8 (zs.getD j 0)) := fun j hj => by rw [← add_pl8]; exact hcell j hj
    refine .inr ⟨b, off, cap, by rw [hlen], by rw [hlen]; exact hl, World.block_lt_of_cell? W ⟨b, off + 0, none⟩ (hc 0 (by omega)), fun j hj => ?_⟩
    rw [hlen] at hj
    have hj' : j < zs.length := by omega
    rw [hc j hj']
    have hb : 0 ≤ zs.getD j 0 ∧ zs.getD j 0 ≤ 255 := by
      have := hwz (zs.getD j 0) (by simp [List.getD, hj'])
      simpa [Lit.wf, IntKind.min, IntKind.max, IntKind.signed, IntKind.bits] using this
    have e2 : ((zs.take len).map fun z => UInt8.ofNat z.toNat).getD j 0 = UInt8.ofNat (zs.getD j 0).toNat := by
      simp [List.getD, hj, hj']
    rw [e2, UInt8.toNat_ofNat']
    congr 2
    omega
theorem open_yt {m : Nat} {cs : List Value} {y : DataW H × List MemPlace} (h : DataW.trod enc Try.prog w base (fun _ => true) held m 49 cs = some y) :
    ∃ (a : Option Addr) (n cap : Nat) (l : List UInt8), cs = [.slice a n cap] ∧ n ≤ maxLen ∧ Yt (.slice a n cap) l w := by
  rcases open_ints Try.underlying49 Try.underlying5 (by kernel_rfl) h with ⟨hcs, _⟩ | ⟨x, l, c, zs, hcs, _, hl, hm, hz, _, hcell, hwz⟩
  · exact ⟨_, _, _, [], hcs, Nat.zero_le _, .inl ⟨_, _, rfl, rfl⟩⟩
  · have hzl : l ≤ zs.length := by simp at hz; omega
    obtain ⟨raw, h1, h2, h3⟩ := yt_op x l c zs hl hm hzl hcell hwz
    exact ⟨_, _, _, raw, hcs, h2, h3⟩
set_option maxRecDepth 100000 in
theorem open_byt {r : Reach} {b0 : Nat} {v : Value} {d : DataW H} {p : List MemPlace} (hv : Value.okWide Try.prog w r b0 49 v) (h : DataW.Trod enc Try.prog w base (fun _ => true) held 49 v d p) :
    ∃ (a : Option Addr) (n cap : Nat) (l : List UInt8), v = .slice a n cap ∧ n ≤ maxLen ∧ Yt (.slice a n cap) l w := by
  obtain ⟨a, n, cap, rfl⟩ := okWide_slice Try.underlying49 hv
  obtain ⟨fuel, hf⟩ := h
  obtain ⟨a', n', c', l, e, hm, hy⟩ := open_yt hf
  simp [Value.cells] at e
  obtain ⟨rfl, rfl, rfl⟩ := e
  exact ⟨_, _, _, l, rfl, hm, hy⟩
theorem ut_op {W : World} (x : Addr) (len cap : Nat) (zs : List Int) (hl : len ≤ cap) (hm : cap ≤ maxLen) (hzl : len ≤ zs.length) (hcell : ∀ i, i < zs.length → W.cell? (x.add i) = some (.int .u16 (zs.getD i 0))) (hwz : ∀ n ∈ zs, (Lit.int .u16 n).wf = true) :
    ∃ raw : List Nat, raw.length = len ∧ len ≤ maxLen ∧ Ut (.slice (some x) len cap) raw W := by
  have hlen : ((zs.take len).map fun z => z.toNat).length = len := by rw [List.length_map, List.length_take]; omega
  refine ⟨(zs.take len).map fun z => z.toNat, hlen, by omega, ?_⟩
  rcases Nat.eq_zero_or_pos len with e | e
  · subst e; exact .inl ⟨_, _, rfl, by simp⟩
  · obtain ⟨b, off, spot⟩ := x
    have hspot : spot = none := by simpa [Addr.add] using World.cell?_spot (hcell 0 (by omega))
    subst hspot
    have hc : ∀ j, j < zs.length → W.cell? ⟨b, off + j, none⟩ = some (.int .u16 (zs.getD j 0)) := fun j hj => by rw [← add_pl8]; exact hcell j hj
    refine .inr ⟨b, off, cap, by rw [hlen], by rw [hlen]; exact hl, World.block_lt_of_cell? W ⟨b, off + 0, none⟩ (hc 0 (by omega)), fun j hj => ?_⟩
    rw [hlen] at hj
    have hj' : j < zs.length := by omega
    have hb : 0 ≤ zs.getD j 0 ∧ zs.getD j 0 ≤ 65535 := by
      have := hwz (zs.getD j 0) (by simp [List.getD, hj'])
      simpa [Lit.wf, IntKind.min, IntKind.max, IntKind.signed, IntKind.bits] using this
    have e2 : ((zs.take len).map fun z => z.toNat).getD j 0 = (zs.getD j 0).toNat := by
      simp [List.getD, hj, hj']
    rw [hc j hj', e2]
    exact ⟨by congr 2; omega, by omega⟩
set_option maxRecDepth 100000 in
theorem open_ut {r : Reach} {b0 : Nat} {v : Value} {d : DataW H} {p : List MemPlace} (hv : Value.okWide Try.prog w r b0 47 v) (h : DataW.Trod enc Try.prog w base (fun _ => true) held 47 v d p) :
    ∃ (a : Option Addr) (n cap : Nat) (l : List Nat), v = .slice a n cap ∧ n ≤ maxLen ∧ Ut (.slice a n cap) l w := by
  obtain ⟨a, n, cap, rfl⟩ := okWide_slice Try.underlying47 hv
  obtain ⟨fuel, hf⟩ := h
  rcases open_ints Try.underlying47 Try.underlying48 (by kernel_rfl) hf with ⟨hcs, _⟩ | ⟨x, l, c, zs, hcs, _, hl, hm, hz, _, hcell, hwz⟩
  · simp [Value.cells] at hcs
    obtain ⟨rfl, rfl, rfl⟩ := hcs
    exact ⟨_, _, _, [], rfl, Nat.zero_le _, .inl ⟨_, _, rfl, rfl⟩⟩
  · have hzl : l ≤ zs.length := by simp at hz; omega
    obtain ⟨raw, h1, h2, h3⟩ := ut_op x l c zs hl hm hzl hcell hwz
    simp [Value.cells] at hcs
    obtain ⟨rfl, rfl, rfl⟩ := hcs
    exact ⟨_, _, _, raw, rfl, h2, h3⟩
theorem wf8 (a : Int) (h : (Lit.int .u8 a).wf = true) : 0 ≤ a ∧ a < 256 := by
  simp [Lit.wf, IntKind.min, IntKind.max, IntKind.signed, IntKind.bits] at h
  exact ⟨by omega, by omega⟩
end
end Go.Proofs.Ytlakolcjgnmllaa
