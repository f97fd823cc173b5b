/- Layer 8: a script as an argument. -/
import Derived.Test.YtlakolcjgnmllaaTreG6
import Derived.ProofKit
import Derived.OpenShut
import Derived.ChangeSlices
import Derived.ChangeOld
import Derived.Shelf.Vars
import Derived.Lib.SmallJoins
import Derived.Deep.Strs
namespace Go.Proofs.Ytlakolcjgnmllaa
open Go.ChangeShapes Go.WideShapes Go.ChangeAt Go.RowKit Go.WideMaps Go.Joins Go.Deep

theorem pick_fun {α : Type} (Q : Nat → α → Prop) : ∀ n : Nat, (∀ i, i < n → ∃ c, Q i c) → ∃ l : List α, l.length = n ∧ ∀ i c, l[i]? = some c → Q i c
  | 0, _ => ⟨[], rfl, fun i c h => by simp at h⟩
  | n + 1, h => by
    obtain ⟨l, hl, hq⟩ := pick_fun Q n fun i hi => h i (by omega)
    obtain ⟨c, hc⟩ := h n (by omega)
    refine ⟨l ++ [c], by simp [hl], fun i d hd => ?_⟩
    by_cases hi : i < l.length
    · rw [List.getElem?_append_left hi] at hd; exact hq i d hd
    · rw [List.getElem?_append_right (by omega)] at hd
      have : i - l.length = 0 := by
        have := (List.getElem?_eq_some_iff.1 hd).1
        simp at this; omega
      rw [this] at hd
      simp at hd
      subst hd
      rw [show i = n by omega]; exact hc
theorem cells_op8 : Try.prog.cellsOf 28 = 3 := by kernel_rfl
section
variable {H : Type} {enc : TypeId × Value → H} {w : World} {base : Nat} {held : Bool}
theorem cells3o {a : Addr} {cs : List Value} (h : w.cells? base a 3 = some cs) : ∃ x0 x1 x2, cs = [x0, x1, x2] ∧ w.cell? (a.add 0) = some x0 ∧ w.cell? (a.add 1) = some x1 ∧ w.cell? (a.add 2) = some x2 := by
  unfold World.cells? at h
  split at h
  · rw [show List.range 3 = [0, 1, 2] from rfl, List.mapM_cons, List.mapM_cons, List.mapM_cons, List.mapM_nil] at h
    simp only [bind, Option.bind_eq_some_iff, pure, Option.some.injEq] at h
    obtain ⟨x0, h0, _, ⟨x1, h1, _, ⟨x2, h2, _, rfl, rfl⟩, rfl⟩, rfl⟩ := h
    exact ⟨x0, x1, x2, rfl, h0, h1, h2⟩
  · cases h
theorem bstr_list (s : ByteArray) : bstr s.data.toList = s := rfl
theorem open_act8 {n : Nat} {x0 x1 x2 : Value} {y : DataW H × List MemPlace} (h : DataW.trod enc Try.prog w base (fun _ => true) held n 28 [x0, x1, x2] = some y) :
    ∃ s : Sp8, x0 = .int .i64 s.k ∧ x1 = .string (bstr s.s) ∧ x2 = .int .i64 s.v := by
  obtain ⟨y0, y1, y2, m, _, _, h0, h1, h2⟩ := trod_struct3 Try.underlying28 h
  have k1 : Try.prog.cellsOf 3 = 1 := by kernel_rfl
  have k2 : Try.prog.cellsOf 9 = 1 := by kernel_rfl
  obtain ⟨a0, e0, _, w0⟩ := DataW.trod_int Try.underlying3 h0
  obtain ⟨s1, e1, _, w1⟩ := DataW.trod_string Try.underlying9 h1
  obtain ⟨a2, e2, _, w2⟩ := DataW.trod_int Try.underlying3 h2
  simp [k1] at e0
  simp [k2] at e1
  simp [k1] at e2
  exact ⟨⟨a0, s1.data.toList, a2⟩, e0, e1, e2⟩
/-- a script as an argument -/
theorem open_script8 {r : Reach} {b0 : Nat} {v : Value} {d : DataW H} {p : List MemPlace} (hv : Value.okWide Try.prog w r b0 22 v) (h : DataW.Trod enc Try.prog w base (fun _ => true) held 22 v d p) :
    ∃ (a : Option Addr) (n cap : Nat) (l : List Sp8), v = .slice a n cap ∧ n ≤ maxLen ∧ Sv8 a n l w := by
  obtain ⟨a, n, cap, rfl⟩ := okWide_slice Try.underlying22 hv
  obtain ⟨fuel, hf⟩ := h
  rcases DataW.trod_slice Try.underlying22 hf with ⟨hcs, _⟩ | ⟨x, len, c, elems, rest, m, _, hcs, _, _, hl, hm, hlen, hel, _, _⟩
  · simp [Value.cells] at hcs
    obtain ⟨rfl, rfl, rfl⟩ := hcs
    exact ⟨_, _, _, [], rfl, Nat.zero_le _, rfl, fun j hj => by simp at hj⟩
  · simp [Value.cells] at hcs
    obtain ⟨rfl, rfl, rfl⟩ := hcs
    have raw : ∀ i, i < n → ∃ x0 x1 x2 y, w.cell? ((x.add (i * 3)).add 0) = some x0 ∧ w.cell? ((x.add (i * 3)).add 1) = some x1 ∧ w.cell? ((x.add (i * 3)).add 2) = some x2 ∧ DataW.trod enc Try.prog w base (fun _ => true) held m 28 [x0, x1, x2] = some y := by
      intro i hi
      have he := hel i hi
      rw [List.getElem?_eq_getElem (by omega), cells_op8] at he
      rw [Option.bind_eq_some_iff] at he
      obtain ⟨cs', hc', hy⟩ := he
      obtain ⟨x0, x1, x2, rfl, h0, h1, h2⟩ := cells3o hc'
      exact ⟨x0, x1, x2, _, h0, h1, h2, hy⟩
    have hx : 0 < n → ∃ g off, x = ⟨g, off, none⟩ := by
      intro h0
      obtain ⟨x0, _, _, _, c0, _⟩ := raw 0 h0
      obtain ⟨b, off, spot⟩ := x
      have hspot : spot = none := by simpa [Addr.add] using World.cell?_spot c0
      exact ⟨b, off, by rw [hspot]⟩
    have each : ∀ i, i < n → ∃ s : Sp8, ∃ g off, x = ⟨g, off, none⟩ ∧ g < w.heap.size ∧ w.cell? ⟨g, off + i * 3, none⟩ = some (.int .i64 s.k) ∧ w.cell? ⟨g, off + i * 3 + 1, none⟩ = some (.string (bstr s.s)) ∧ w.cell? ⟨g, off + i * 3 + 2, none⟩ = some (.int .i64 s.v) := by
      intro i hi
      obtain ⟨x0, x1, x2, y, h0, h1, h2, hy⟩ := raw i hi
      obtain ⟨s, rfl, rfl, rfl⟩ := open_act8 hy
      obtain ⟨b, off, rfl⟩ := hx (by omega)
      rw [add_pl8, add_pl8] at h0 h1 h2
      exact ⟨s, b, off, rfl, World.block_lt_of_cell? w ⟨b, off + i * 3 + 0, none⟩ h0, h0, h1, h2⟩
    obtain ⟨cs, hcl, hcq⟩ := pick_fun _ n each
    refine ⟨_, _, _, cs, rfl, by omega, hcl.symm, fun j hj => ?_⟩
    obtain ⟨g, off, rfl, hsp⟩ := hcq j cs[j] (List.getElem?_eq_getElem hj)
    exact ⟨g, off, rfl, hsp⟩
end
end Go.Proofs.Ytlakolcjgnmllaa
