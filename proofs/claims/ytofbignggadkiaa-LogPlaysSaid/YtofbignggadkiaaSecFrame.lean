/- Layer 6: a script in memory, numbers in memory; a script, bytes and numbers as arguments of a law. -/
import Derived.Test.YtofbignggadkiaaSecLaw
import Derived.Test.YtofbignggadkiaaSecBase
import Derived.ProofKit
import Derived.OpenShut
import Derived.ChangeSlices
import Derived.ChangeOld
import Derived.Shelf.Vars
import Derived.Lib.SmallJoins
namespace Go.Proofs.Ytofbignggadkiaa
open Go.ChangeShapes Go.WideShapes Go.ChangeAt Go.RowKit Go.WideMaps Go.Joins

theorem add_pl (g o j : Nat) : (⟨g, o, none⟩ : Addr).add j = ⟨g, o + j, none⟩ := by unfold Addr.add; split <;> simp_all
/-- a number of 64 bits -/
def n64 (n : Int) : Prop := -9223372036854775808 ≤ n ∧ n ≤ 9223372036854775807
/-- NUMBERS: what is known of their cells -/
def It (v : Value) (l : List Int) (w : World) : Prop :=
  (∃ a c, v = .slice a 0 c ∧ l = []) ∨
  ∃ g off cap, v = .slice (some ⟨g, off, none⟩) l.length cap ∧ l.length ≤ cap ∧ g < w.heap.size ∧ ∀ j, j < l.length → w.cell? ⟨g, off + j, none⟩ = some (Value.int .i64 (l.getD j 0))
theorem It.keep {v : Value} {l : List Int} {w w' : World} (h : It v l w) (hb : Below w.heap.size w w') : It v l w' := by
  rcases h with h | ⟨g, off, cap, rfl, hc, hg, hcell⟩
  · exact .inl h
  · exact .inr ⟨g, off, cap, rfl, hc, by have := hb.size; omega, fun j hj => (hb.cell (p := ⟨g, off + j, none⟩) hg).trans (hcell j hj)⟩
theorem It.form {v : Value} {l : List Int} {w : World} (h : It v l w) : ∃ a c, v = .slice a l.length c := by
  rcases h with ⟨a, c, rfl, rfl⟩ | ⟨g, off, cap, rfl, _⟩
  · exact ⟨_, _, rfl⟩
  · exact ⟨_, _, rfl⟩
theorem It.at {a : Option Addr} {n c : Nat} {l : List Int} {w : World} (h : It (.slice a n c) l w) (j : Nat) (hj : j < l.length) : ∃ g off, a = some ⟨g, off, none⟩ ∧ n ≤ c ∧ g < w.heap.size ∧ w.cell? ⟨g, off + j, none⟩ = some (Value.int .i64 l[j]) := by
  rcases h with ⟨_, _, _, rfl⟩ | ⟨g, off, cap, e, hc, hg, hcell⟩
  · simp at hj
  · injection e with e1 e2 e3
    refine ⟨g, off, e1, by omega, hg, ?_⟩
    rw [hcell j hj]; simp [List.getD, hj]
/-- an action of a script -/
structure Sp where
  k : Int
  i : Int
  b : List UInt8
  t : List Int
/-- a script's action in memory -/
structure Spx (g o : Nat) (s : Sp) (ab : Option Addr) (nb cb : Nat) (av : Option Addr) (nt ct : Nat) (w : World) : Prop where
  c0 : w.cell? ⟨g, o, none⟩ = some (.int .i64 s.k)
  c1 : w.cell? ⟨g, o + 1, none⟩ = some (.int .i64 s.i)
  c2 : w.cell? ⟨g, o + 2, none⟩ = some (.slice ab nb cb)
  c3 : w.cell? ⟨g, o + 3, none⟩ = some (.slice av nt ct)
  b : Yt (.slice ab nb cb) s.b w
  t : It (.slice av nt ct) s.t w
  lt : g < w.heap.size
  hb : nb ≤ maxLen
  ht : nt ≤ maxLen
  ik : n64 s.k
  ii : n64 s.i
  it : ∀ x ∈ s.t, n64 x
theorem Spx.keep {g o : Nat} {s : Sp} {ab av : Option Addr} {nb cb nt ct : Nat} {w w' : World} (h : Spx g o s ab nb cb av nt ct w) (hb : Below w.heap.size w w') : Spx g o s ab nb cb av nt ct w' :=
  ⟨(hb.cell (p := ⟨g, o, none⟩) h.lt).trans h.c0, (hb.cell (p := ⟨g, o + 1, none⟩) h.lt).trans h.c1, (hb.cell (p := ⟨g, o + 2, none⟩) h.lt).trans h.c2, (hb.cell (p := ⟨g, o + 3, none⟩) h.lt).trans h.c3,
    h.b.keep hb, h.t.keep hb, by have := h.lt; have := hb.size; omega, h.hb, h.ht, h.ik, h.ii, h.it⟩
/-- A SCRIPT: what is known of it -/
def Sv (a : Option Addr) (n : Nat) (l : List Sp) (w : World) : Prop :=
  n = l.length ∧ ∀ j (hj : j < l.length), ∃ g off ab nb cb av nt ct, a = some ⟨g, off, none⟩ ∧ Spx g (off + j * 4) l[j] ab nb cb av nt ct w
theorem Sv.keep {a : Option Addr} {n : Nat} {l : List Sp} {w w' : World} (h : Sv a n l w) (hb : Below w.heap.size w w') : Sv a n l w' :=
  ⟨h.1, fun j hj => by obtain ⟨g, off, ab, nb, cb, av, nt, ct, ha, hx⟩ := h.2 j hj; exact ⟨g, off, ab, nb, cb, av, nt, ct, ha, hx.keep hb⟩⟩
theorem wfi (a : Int) (h : (Lit.int .i64 a).wf = true) : n64 a := by
  simp [Lit.wf, IntKind.min, IntKind.max, IntKind.signed, IntKind.bits] at h
  exact ⟨by omega, by omega⟩
theorem pick_fun {α : Type} (Q : Nat → α → Prop) : ∀ n : Nat, (∀ i, i < n → ∃ c, Q i c) → ∃ l : List α, l.length = n ∧ ∀ i c, l[i]? = some c → Q i c
  | 0, _ => ⟨[], rfl, fun i c h => by simp at h⟩
  | n + 1, h => by
    obtain ⟨l, hl, hq⟩ := pick_fun Q n fun i hi => h i (by omega)
    obtain ⟨c, hc⟩ := h n (by omega)
    refine ⟨l ++ [c], by simp [hl], fun i d hd => ?_⟩
    by_cases hi : i < l.length
    · rw [List.getElem?_append_left hi] at hd; exact hq i d hd
    · rw [List.getElem?_append_right (by omega)] at hd
      have : i - l.length = 0 := by
        have := (List.getElem?_eq_some_iff.1 hd).1
        simp at this; omega
      rw [this] at hd
      simp at hd
      subst hd
      rw [show i = n by omega]; exact hc
theorem yt_op {W : World} (x : Addr) (len cap : Nat) (zs : List Int) (hl : len ≤ cap) (hm : cap ≤ maxLen) (hzl : len ≤ zs.length) (hcell : ∀ i, i < zs.length → W.cell? (x.add i) = some (.int .u8 (zs.getD i 0))) (hwz : ∀ n ∈ zs, (Lit.int .u8 n).wf = true) :
    ∃ raw : List UInt8, raw.length = len ∧ len ≤ maxLen ∧ Yt (.slice (some x) len cap) raw W := by
  have hlen : ((zs.take len).map fun z => UInt8.ofNat z.toNat).length = len := by rw [List.length_map, List.length_take]; omega
  refine ⟨(zs.take len).map fun z => UInt8.ofNat z.toNat, hlen, by omega, ?_⟩
  rcases Nat.eq_zero_or_pos len with e | e
  · subst e; exact .inl ⟨_, _, rfl, by simp⟩
  · obtain ⟨b, off, spot⟩ := x
    have hspot : spot = none := by simpa [Addr.add] using World.cell?_spot (hcell 0 (by omega))
    subst hspot
    have hc : ∀ j, j < zs.length → W.cell? ⟨b, off + j, none⟩ = some (.int .u8 (zs.getD j 0)) := fun j hj => by rw [← add_pl]; exact hcell j hj
    refine .inr ⟨b, off, cap, by rw [hlen], by rw [hlen]; exact hl, World.block_lt_of_cell? W ⟨b, off + 0, none⟩ (hc 0 (by omega)), fun j hj => ?_⟩
    rw [hlen] at hj
    have hj' : j < zs.length := by omega
    rw [hc j hj']
    have hb : 0 ≤ zs.getD j 0 ∧ zs.getD j 0 ≤ 255 := by
      have := hwz (zs.getD j 0) (by simp [List.getD, hj'])
      simpa [Lit.wf, IntKind.min, IntKind.max, IntKind.signed, IntKind.bits] using this
    have e2 : ((zs.take len).map fun z => UInt8.ofNat z.toNat).getD j 0 = UInt8.ofNat (zs.getD j 0).toNat := by
      simp [List.getD, hj, hj']
    rw [e2, UInt8.toNat_ofNat']
    congr 2
    omega
theorem it_op {W : World} (x : Addr) (len cap : Nat) (zs : List Int) (hl : len ≤ cap) (hm : cap ≤ maxLen) (hzl : len ≤ zs.length) (hcell : ∀ i, i < zs.length → W.cell? (x.add i) = some (.int .i64 (zs.getD i 0))) (hwz : ∀ n ∈ zs, (Lit.int .i64 n).wf = true) :
    ∃ raw : List Int, raw.length = len ∧ len ≤ maxLen ∧ It (.slice (some x) len cap) raw W ∧ ∀ y ∈ raw, n64 y := by
  have hlen : (zs.take len).length = len := by rw [List.length_take]; omega
  refine ⟨zs.take len, hlen, by omega, ?_, fun y hy => wfi y (hwz y (List.mem_of_mem_take hy))⟩
  rcases Nat.eq_zero_or_pos len with e | e
  · subst e; exact .inl ⟨_, _, rfl, by simp⟩
  · obtain ⟨b, off, spot⟩ := x
    have hspot : spot = none := by simpa [Addr.add] using World.cell?_spot (hcell 0 (by omega))
    subst hspot
    have hc : ∀ j, j < zs.length → W.cell? ⟨b, off + j, none⟩ = some (.int .i64 (zs.getD j 0)) := fun j hj => by rw [← add_pl]; exact hcell j hj
    refine .inr ⟨b, off, cap, by rw [hlen], by rw [hlen]; exact hl, World.block_lt_of_cell? W ⟨b, off + 0, none⟩ (hc 0 (by omega)), fun j hj => ?_⟩
    rw [hlen] at hj
    have hj' : j < zs.length := by omega
    rw [hc j hj']
    simp [List.getD, hj, hj']
section
variable {H : Type} {enc : TypeId × Value → H} {w : World} {base : Nat} {sp : Nat → Bool} {held : Bool}
theorem cells4o {a : Addr} {cs : List Value} (h : w.cells? base a 4 = some cs) : ∃ x0 x1 x2 x3, cs = [x0, x1, x2, x3] ∧ w.cell? (a.add 0) = some x0 ∧ w.cell? (a.add 1) = some x1 ∧ w.cell? (a.add 2) = some x2 ∧ w.cell? (a.add 3) = some x3 := by
  unfold World.cells? at h
  split at h
  · rw [show List.range 4 = [0, 1, 2, 3] from rfl, List.mapM_cons, List.mapM_cons, List.mapM_cons, List.mapM_cons, List.mapM_nil] at h
    simp only [bind, Option.bind_eq_some_iff, pure, Option.some.injEq] at h
    obtain ⟨x0, h0, _, ⟨x1, h1, _, ⟨x2, h2, _, ⟨x3, h3, _, rfl, rfl⟩, rfl⟩, rfl⟩, rfl⟩ := h
    exact ⟨x0, x1, x2, x3, rfl, h0, h1, h2, h3⟩
  · cases h
theorem open_yt {m : Nat} {cs : List Value} {y : DataW H × List MemPlace} (h : DataW.trod enc Try.prog w base (fun _ => true) held m 39 cs = some y) :
    ∃ (a : Option Addr) (n cap : Nat) (l : List UInt8), cs = [.slice a n cap] ∧ n ≤ maxLen ∧ Yt (.slice a n cap) l w := by
  rcases open_ints Try.underlying39 Try.underlying5 (by kernel_rfl) h with ⟨hcs, _⟩ | ⟨x, l, c, zs, hcs, _, hl, hm, hz, _, hcell, hwz⟩
  · exact ⟨_, _, _, [], hcs, Nat.zero_le _, .inl ⟨_, _, rfl, rfl⟩⟩
  · have hzl : l ≤ zs.length := by simp at hz; omega
    obtain ⟨raw, h1, h2, h3⟩ := yt_op x l c zs hl hm hzl hcell hwz
    exact ⟨_, _, _, raw, hcs, h2, h3⟩
theorem open_it {m : Nat} {cs : List Value} {y : DataW H × List MemPlace} (h : DataW.trod enc Try.prog w base (fun _ => true) held m 44 cs = some y) :
    ∃ (a : Option Addr) (n cap : Nat) (l : List Int), cs = [.slice a n cap] ∧ n ≤ maxLen ∧ It (.slice a n cap) l w ∧ ∀ x ∈ l, n64 x := by
  rcases open_ints Try.underlying44 Try.underlying3 (by kernel_rfl) h with ⟨hcs, _⟩ | ⟨x, l, c, zs, hcs, _, hl, hm, hz, _, hcell, hwz⟩
  · exact ⟨_, _, _, [], hcs, Nat.zero_le _, .inl ⟨_, _, rfl, rfl⟩, fun x h => by cases h⟩
  · have hzl : l ≤ zs.length := by simp at hz; omega
    obtain ⟨raw, h1, h2, h3, h4⟩ := it_op x l c zs hl hm hzl hcell hwz
    exact ⟨_, _, _, raw, hcs, h2, h3, h4⟩
set_option maxRecDepth 100000 in
/-- bytes, numbers as arguments -/
theorem open_byt {r : Reach} {b0 : Nat} {v : Value} {d : DataW H} {p : List MemPlace} (hv : Value.okWide Try.prog w r b0 39 v) (h : DataW.Trod enc Try.prog w base (fun _ => true) held 39 v d p) :
    ∃ (a : Option Addr) (n cap : Nat) (l : List UInt8), v = .slice a n cap ∧ n ≤ maxLen ∧ Yt (.slice a n cap) l w := by
  obtain ⟨a, n, cap, rfl⟩ := okWide_slice Try.underlying39 hv
  obtain ⟨fuel, hf⟩ := h
  obtain ⟨a', n', c', l, e, hm, hy⟩ := open_yt hf
  simp [Value.cells] at e
  obtain ⟨rfl, rfl, rfl⟩ := e
  exact ⟨_, _, _, l, rfl, hm, hy⟩
set_option maxRecDepth 100000 in
theorem open_num {r : Reach} {b0 : Nat} {v : Value} {d : DataW H} {p : List MemPlace} (hv : Value.okWide Try.prog w r b0 44 v) (h : DataW.Trod enc Try.prog w base (fun _ => true) held 44 v d p) :
    ∃ (a : Option Addr) (n cap : Nat) (l : List Int), v = .slice a n cap ∧ n ≤ maxLen ∧ It (.slice a n cap) l w ∧ ∀ x ∈ l, n64 x := by
  obtain ⟨a, n, cap, rfl⟩ := okWide_slice Try.underlying44 hv
  obtain ⟨fuel, hf⟩ := h
  obtain ⟨a', n', c', l, e, hm, hy, hi⟩ := open_it hf
  simp [Value.cells] at e
  obtain ⟨rfl, rfl, rfl⟩ := e
  exact ⟨_, _, _, l, rfl, hm, hy, hi⟩
end
end Go.Proofs.Ytofbignggadkiaa
