/- Layer 7: the arguments of its laws: a script of actions, numbers of 16 bits. -/
import Derived.Test.YtofbignggadkiaaLogW0
import Derived.Test.YtofbignggadkiaaLogPl
import Derived.ProofKit
import Derived.OpenShut
import Derived.ChangeSlices
import Derived.ChangeOld
import Derived.Shelf.Vars
import Derived.Lib.SmallJoins
namespace Go.Proofs.Ytofbignggadkiaa
open Go.ChangeShapes Go.WideShapes Go.ChangeAt Go.RowKit Go.WideMaps Go.Joins

theorem cells_op : Try.prog.cellsOf 46 = 4 := by kernel_rfl
section
variable {H : Type} {enc : TypeId × Value → H} {w : World} {base : Nat} {sp : Nat → Bool} {held : Bool}
/-- four cells that read as an action -/
theorem open_act {n : Nat} {x0 x1 x2 x3 : Value} {y : DataW H × List MemPlace} (h : DataW.trod enc Try.prog w base (fun _ => true) held n 46 [x0, x1, x2, x3] = some y) :
    ∃ (s : Sp) (ab : Option Addr) (nb cb : Nat) (av : Option Addr) (nt ct : Nat), x0 = .int .i64 s.k ∧ x1 = .int .i64 s.i ∧ x2 = .slice ab nb cb ∧ x3 = .slice av nt ct ∧ Yt (.slice ab nb cb) s.b w ∧ It (.slice av nt ct) s.t w ∧ nb ≤ maxLen ∧ nt ≤ maxLen ∧ n64 s.k ∧ n64 s.i ∧ ∀ x ∈ s.t, n64 x := by
  obtain ⟨y0, y1, y2, y3, m, _, _, h0, h1, h2, h3⟩ := trod_struct4 Try.underlying46 h
  have k1 : Try.prog.cellsOf 3 = 1 := by kernel_rfl
  have k2 : Try.prog.cellsOf 39 = 1 := by kernel_rfl
  have k3 : Try.prog.cellsOf 44 = 1 := by kernel_rfl
  obtain ⟨a0, e0, _, w0⟩ := DataW.trod_int Try.underlying3 h0
  obtain ⟨a1, e1, _, w1⟩ := DataW.trod_int Try.underlying3 h1
  obtain ⟨a2, n2, c2, l2, e2, m2, y2⟩ := open_yt h2
  obtain ⟨a3, n3, c3, l3, e3, m3, y3, i3⟩ := open_it h3
  simp [k1] at e0
  simp [k1] at e1
  simp [k2] at e2
  simp [k3] at e3
  exact ⟨⟨a0, a1, l2, l3⟩, a2, n2, c2, a3, n3, c3, e0, e1, e2, e3, y2, y3, m2, m3, wfi _ w0, wfi _ w1, i3⟩
set_option maxRecDepth 100000 in
/-- a script as an argument -/
theorem open_script {r : Reach} {b0 : Nat} {v : Value} {d : DataW H} {p : List MemPlace} (hv : Value.okWide Try.prog w r b0 23 v) (h : DataW.Trod enc Try.prog w base (fun _ => true) held 23 v d p) :
    ∃ (a : Option Addr) (n cap : Nat) (l : List Sp), v = .slice a n cap ∧ n ≤ maxLen ∧ Sv a n l w := by
  obtain ⟨a, n, cap, rfl⟩ := okWide_slice Try.underlying23 hv
  obtain ⟨fuel, hf⟩ := h
  rcases DataW.trod_slice Try.underlying23 hf with ⟨hcs, _⟩ | ⟨x, len, c, elems, rest, m, _, hcs, _, _, hl, hm, hlen, hel, _, _⟩
  · simp [Value.cells] at hcs
    obtain ⟨rfl, rfl, rfl⟩ := hcs
    exact ⟨_, _, _, [], rfl, Nat.zero_le _, rfl, fun j hj => by simp at hj⟩
  · simp [Value.cells] at hcs
    obtain ⟨rfl, rfl, rfl⟩ := hcs
    have raw : ∀ i, i < n → ∃ x0 x1 x2 x3 y, w.cell? ((x.add (i * 4)).add 0) = some x0 ∧ w.cell? ((x.add (i * 4)).add 1) = some x1 ∧ w.cell? ((x.add (i * 4)).add 2) = some x2 ∧ w.cell? ((x.add (i * 4)).add 3) = some x3 ∧ DataW.trod enc Try.prog w base (fun _ => true) held m 46 [x0, x1, x2, x3] = some y := by
      intro i hi
      have he := hel i hi
      rw [List.getElem?_eq_getElem (by omega), cells_op] at he
      rw [Option.bind_eq_some_iff] at he
      obtain ⟨cs', hc', hy⟩ := he
      obtain ⟨x0, x1, x2, x3, rfl, h0, h1, h2, h3⟩ := cells4o hc'
      exact ⟨x0, x1, x2, x3, _, h0, h1, h2, h3, hy⟩
    have hx : 0 < n → ∃ g off, x = ⟨g, off, none⟩ := by
      intro h0
      obtain ⟨x0, _, _, _, _, c0, _⟩ := raw 0 h0
      obtain ⟨b, off, spot⟩ := x
      have hspot : spot = none := by simpa [Addr.add] using World.cell?_spot c0
      exact ⟨b, off, by rw [hspot]⟩
    have each : ∀ i, i < n → ∃ s : Sp, ∃ g off ab nb cb av nt ct, x = ⟨g, off, none⟩ ∧ Spx g (off + i * 4) s ab nb cb av nt ct w := by
      intro i hi
      obtain ⟨x0, x1, x2, x3, y, h0, h1, h2, h3, hy⟩ := raw i hi
      obtain ⟨s, ab, nb, cb, av, nt, ct, rfl, rfl, rfl, rfl, hyb, hyt, hb, ht, hk, hi, hti⟩ := open_act hy
      obtain ⟨b, off, rfl⟩ := hx (by omega)
      rw [add_pl, add_pl] at h0 h1 h2 h3
      exact ⟨s, b, off, ab, nb, cb, av, nt, ct, rfl, h0, h1, h2, h3, hyb, hyt, World.block_lt_of_cell? w ⟨b, off + i * 4 + 0, none⟩ h0, hb, ht, hk, hi, hti⟩
    obtain ⟨cs, hcl, hcq⟩ := pick_fun _ n each
    refine ⟨_, _, _, cs, rfl, by omega, hcl.symm, fun j hj => ?_⟩
    obtain ⟨g, off, ab, nb, cb, av, nt, ct, rfl, hsp⟩ := hcq j cs[j] (List.getElem?_eq_getElem hj)
    exact ⟨g, off, ab, nb, cb, av, nt, ct, rfl, hsp⟩
end
end Go.Proofs.Ytofbignggadkiaa
