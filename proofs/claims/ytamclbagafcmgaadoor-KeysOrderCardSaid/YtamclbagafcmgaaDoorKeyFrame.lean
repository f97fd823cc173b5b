/- Bytes and lists of values as arguments of a law. -/
import Derived.Test.YtamclbagafcmgaaDoorValFrame
import Derived.Test.YtamclbagafcmgaaDoorKeyVs
import Derived.ChangeSlices
import Derived.ChangeOld
namespace Go.Proofs.YtamclbagafcmgaaDoor
open Go.ChangeShapes Go.WideShapes Go.ChangeAt Go.RowKit Go.WideMaps Go.Joins

theorem pick_list {α : Type} (Q : Nat → α → Prop) : ∀ n : Nat, (∀ i, i < n → ∃ c, Q i c) → ∃ l : List α, l.length = n ∧ ∀ i c, l[i]? = some c → Q i c
  | 0, _ => ⟨[], rfl, fun i c h => by simp at h⟩
  | n + 1, h => by
    obtain ⟨l, hl, hq⟩ := pick_list Q n fun i hi => h i (by omega)
    obtain ⟨c, hc⟩ := h n (by omega)
    refine ⟨l ++ [c], by simp [hl], fun i d hd => ?_⟩
    by_cases hi : i < l.length
    · rw [List.getElem?_append_left hi] at hd; exact hq i d hd
    · rw [List.getElem?_append_right (by omega)] at hd
      have : i - l.length = 0 := by
        have := (List.getElem?_eq_some_iff.1 hd).1
        simp at this; omega
      rw [this] at hd
      simp at hd
      subst hd
      rw [show i = n by omega]; exact hc
theorem cells_at (l : List Vm.Cl) (g off : Nat) (w : World) (h : ∀ j c, l[j]? = some c → Bx4 g (off + j * 4) c w) (i : Nat) (u : Value) (hi : (vcs l)[i]? = some u) : w.cell? ⟨g, off + i, none⟩ = some u := by
  have hil : i < l.length * 4 := by rw [← vcs_length]; exact (List.getElem?_eq_some_iff.1 hi).1
  obtain ⟨j, o, ho, rfl⟩ : ∃ j o, o < 4 ∧ i = j * 4 + o := ⟨i / 4, i % 4, by omega, by omega⟩
  have hj : j < l.length := by omega
  have hb := h j l[j] (List.getElem?_eq_getElem hj)
  rw [vcs_get l j o l[j] (List.getElem?_eq_getElem hj) ho] at hi
  rcases (show o = 0 ∨ o = 1 ∨ o = 2 ∨ o = 3 by omega) with rfl | rfl | rfl | rfl
  · have hu : Value.int .i64 l[j].k = u := Option.some.inj hi
    rw [← hu]; exact hb.c0
  · have hu : Value.int .i64 l[j].n = u := Option.some.inj hi
    rw [← hu, ← Nat.add_assoc]; exact hb.c1
  · have hu : Value.int .i64 l[j].sc = u := Option.some.inj hi
    rw [← hu, ← Nat.add_assoc]; exact hb.c2
  · have hu : Value.string l[j].s = u := Option.some.inj hi
    rw [← hu, ← Nat.add_assoc]; exact hb.c3
theorem yt_open {W : World} (x : Addr) (len cap : Nat) (zs : List Int) (hl : len ≤ cap) (hm : cap ≤ maxLen) (hzl : zs.length = cap) (hcell : ∀ i, i < zs.length → W.cell? (x.add i) = some (.int .u8 (zs.getD i 0))) (hwz : ∀ n ∈ zs, (Lit.int .u8 n).wf = true) :
    ∃ raw : List UInt8, raw.length = len ∧ len ≤ maxLen ∧ Yt (.slice (some x) len cap) raw W := by
  have hlen : ((zs.take len).map fun z => UInt8.ofNat z.toNat).length = len := by rw [List.length_map, List.length_take]; omega
  refine ⟨(zs.take len).map fun z => UInt8.ofNat z.toNat, hlen, by omega, ?_⟩
  rcases Nat.eq_zero_or_pos len with e | e
  · subst e; exact .inl ⟨_, _, rfl, by simp⟩
  · obtain ⟨b, off, spot⟩ := x
    have hspot : spot = none := by simpa [Addr.add] using World.cell?_spot (hcell 0 (by omega))
    subst hspot
    have hc : ∀ j, j < zs.length → W.cell? ⟨b, off + j, none⟩ = some (.int .u8 (zs.getD j 0)) := fun j hj => by rw [← Go.WideShapes.add_plain]; exact hcell j hj
    refine .inr ⟨b, off, cap, by rw [hlen], by rw [hlen]; exact hl, World.block_lt_of_cell? W ⟨b, off + 0, none⟩ (hc 0 (by omega)), fun j hj => ?_⟩
    rw [hlen] at hj
    have hj' : j < zs.length := by omega
    rw [hc j hj']
    have hb : 0 ≤ zs.getD j 0 ∧ zs.getD j 0 ≤ 255 := by
      have := hwz (zs.getD j 0) (by simp [List.getD, hj'])
      simpa [Lit.wf, IntKind.min, IntKind.max, IntKind.signed, IntKind.bits] using this
    have e2 : ((zs.take len).map fun z => UInt8.ofNat z.toNat).getD j 0 = UInt8.ofNat (zs.getD j 0).toNat := by
      simp [List.getD, hj, hj']
    rw [e2, UInt8.toNat_ofNat']
    congr 2
    omega

section
variable {H : Type} {enc : TypeId × Value → H} {w : World} {base : Nat} {sp : Nat → Bool} {held : Bool}
theorem cells4 {a : Addr} {cs : List Value} (h : w.cells? base a 4 = some cs) : ∃ x0 x1 x2 x3, cs = [x0, x1, x2, x3] ∧ w.cell? (a.add 0) = some x0 ∧ w.cell? (a.add 1) = some x1 ∧ w.cell? (a.add 2) = some x2 ∧ w.cell? (a.add 3) = some x3 := by
  unfold World.cells? at h
  split at h
  · rw [show List.range 4 = [0, 1, 2, 3] from rfl, List.mapM_cons, List.mapM_cons, List.mapM_cons, List.mapM_cons, List.mapM_nil] at h
    simp only [bind, Option.bind_eq_some_iff, pure, Option.some.injEq] at h
    obtain ⟨x0, h0, _, ⟨x1, h1, _, ⟨x2, h2, _, ⟨x3, h3, _, rfl, rfl⟩, rfl⟩, rfl⟩, rfl⟩ := h
    exact ⟨x0, x1, x2, x3, rfl, h0, h1, h2, h3⟩
  · cases h
/-- a list of values as an argument -/
theorem open_vals {r : Reach} {b0 : Nat} {v : Value} {d : DataW H} {p : List MemPlace} (hv : Value.okWide Tryd.prog w r b0 22 v) (h : DataW.Trod enc Tryd.prog w base sp held 22 v d p) :
    ∃ (a : Option Addr) (n cap : Nat) (cs : List Vm.Cl), v = .slice a n cap ∧ n ≤ maxLen ∧ Vs (.slice a n cap) cs w ∧ ∀ c ∈ cs, ValOk c := by
  obtain ⟨a, n, cap, rfl⟩ := okWide_slice Tryd.underlying22 hv
  obtain ⟨fuel, hf⟩ := h
  rcases DataW.trod_slice Tryd.underlying22 hf with ⟨hcs, _⟩ | ⟨x, len, c, elems, rest, m, _, hcs, _, _, hl, hm, hlen, hel, _, _⟩
  · simp [Value.cells] at hcs
    obtain ⟨rfl, rfl, rfl⟩ := hcs
    exact ⟨_, _, _, [], rfl, Nat.zero_le _, .inl ⟨_, _, rfl, rfl⟩, fun c h => by cases h⟩
  · simp [Value.cells] at hcs
    obtain ⟨rfl, rfl, rfl⟩ := hcs
    have each : ∀ i, i < n → ∃ c : Vm.Cl, ValOk c ∧ w.cell? ((x.add (i * 4)).add 0) = some (.int .i64 c.k) ∧ w.cell? ((x.add (i * 4)).add 1) = some (.int .i64 c.n) ∧ w.cell? ((x.add (i * 4)).add 2) = some (.int .i64 c.sc) ∧ w.cell? ((x.add (i * 4)).add 3) = some (.string c.s) := by
      intro i hi
      have he := hel i hi
      rw [List.getElem?_eq_getElem (by omega), cells_val] at he
      rw [Option.bind_eq_some_iff] at he
      obtain ⟨cs', hc', hy⟩ := he
      obtain ⟨x0, x1, x2, x3, rfl, h0, h1, h2, h3⟩ := cells4 hc'
      obtain ⟨c, rfl, rfl, rfl, rfl, hok⟩ := open_cells hy
      exact ⟨c, hok, h0, h1, h2, h3⟩
    obtain ⟨cs, hcl, hcq⟩ := pick_list _ n each
    refine ⟨_, _, _, cs, rfl, by omega, ?_, fun c hc => ?_⟩
    · rcases Nat.eq_zero_or_pos n with e | e
      · subst e
        exact .inl ⟨_, _, rfl, List.eq_nil_of_length_eq_zero hcl⟩
      · obtain ⟨b, off, spot⟩ := x
        have hc0 := (hcq 0 cs[0] (List.getElem?_eq_getElem (by omega))).2.1
        have hspot : spot = none := by simpa [Addr.add] using World.cell?_spot hc0
        subst hspot
        have hB : ∀ j c, cs[j]? = some c → Bx4 b (off + j * 4) c w := by
          intro j c hc
          obtain ⟨_, h0, h1, h2, h3⟩ := hcq j c hc
          rw [add_at, add_at] at h0 h1 h2 h3
          exact ⟨h0, h1, h2, h3⟩
        refine .inr ⟨b, off, cap, by rw [hcl], by rw [hcl]; exact hl, World.block_lt_of_cell? w ⟨b, off + 0 * 4, none⟩ (hB 0 cs[0] (List.getElem?_eq_getElem (by omega))).c0, fun i u hi => cells_at cs b off w hB i u hi⟩
    · obtain ⟨i, hi⟩ := List.getElem?_of_mem hc
      exact (hcq i c hi).1
/-- bytes as an argument -/
theorem open_bytes {r : Reach} {b0 : Nat} {v : Value} {d : DataW H} {p : List MemPlace} (hv : Value.okWide Tryd.prog w r b0 25 v) (h : DataW.Trod enc Tryd.prog w base (fun _ => true) held 25 v d p) :
    ∃ (a : Option Addr) (n cap : Nat) (l : List UInt8), v = .slice a n cap ∧ n ≤ maxLen ∧ Yt (.slice a n cap) l w := by
  obtain ⟨a, n, cap, rfl⟩ := okWide_slice Tryd.underlying25 hv
  obtain ⟨fuel, hf⟩ := h
  rcases open_ints Tryd.underlying25 Tryd.underlying5 (by kernel_rfl) hf with ⟨hcs, _⟩ | ⟨x, l, c, zs, hcs, _, hl, hm, hz, _, hcell, hwz⟩
  · simp [Value.cells] at hcs
    obtain ⟨rfl, rfl, rfl⟩ := hcs
    exact ⟨_, _, _, [], rfl, Nat.zero_le _, .inl ⟨_, _, rfl, rfl⟩⟩
  · simp [Value.cells] at hcs
    obtain ⟨rfl, rfl, rfl⟩ := hcs
    have hzl : zs.length = cap := by simpa using hz
    obtain ⟨raw, h1, h2, h3⟩ := yt_open x n cap zs hl hm hzl hcell hwz
    exact ⟨_, _, _, raw, rfl, h2, h3⟩
end
end Go.Proofs.YtamclbagafcmgaaDoor
