/- Rows, cells, ints and bytes as arguments of a law. -/
import Derived.Test.YtmipomglbccjbaaDoorValFrame
import Derived.Test.YtmipomglbccjbaaDoorRowW2
import Derived.Test.YtmipomglbccjbaaDoorRowGc
import Derived.ChangeSlices
import Derived.ChangeOld
namespace Go.Proofs.YtmipomglbccjbaaDoor
open Go.ChangeShapes Go.WideShapes Go.ChangeAt Go.RowKit Go.WideMaps Go.Joins

theorem i64_inR {x : Int} (h : i64 x) : Wm.inR x := by unfold i64 at h; unfold Wm.inR; omega
theorem pick_list {α : Type} (Q : Nat → α → Prop) : ∀ n : Nat, (∀ i, i < n → ∃ c, Q i c) → ∃ l : List α, l.length = n ∧ ∀ i c, l[i]? = some c → Q i c
  | 0, _ => ⟨[], rfl, fun i c h => by simp at h⟩
  | n + 1, h => by
    obtain ⟨l, hl, hq⟩ := pick_list Q n fun i hi => h i (by omega)
    obtain ⟨c, hc⟩ := h n (by omega)
    refine ⟨l ++ [c], by simp [hl], fun i d hd => ?_⟩
    by_cases hi : i < l.length
    · rw [List.getElem?_append_left hi] at hd; exact hq i d hd
    · rw [List.getElem?_append_right (by omega)] at hd
      have : i - l.length = 0 := by
        have := (List.getElem?_eq_some_iff.1 hd).1
        simp at this; omega
      rw [this] at hd
      simp at hd
      subst hd
      rw [show i = n by omega]; exact hc
theorem cells_at (l : List Rm.C) (g off : Nat) (w : World) (h : ∀ j c, l[j]? = some c → Bx5 g (off + j * 5) c w) (i : Nat) (u : Value) (hi : (rcs l)[i]? = some u) : w.cell? ⟨g, off + i, none⟩ = some u := by
  have hil : i < l.length * 5 := by rw [← rcs_length]; exact (List.getElem?_eq_some_iff.1 hi).1
  obtain ⟨j, o, ho, rfl⟩ : ∃ j o, o < 5 ∧ i = j * 5 + o := ⟨i / 5, i % 5, by omega, by omega⟩
  have hj : j < l.length := by omega
  have hb := h j l[j] (List.getElem?_eq_getElem hj)
  rw [rcs_get l j o l[j] (List.getElem?_eq_getElem hj) ho] at hi
  rcases (show o = 0 ∨ o = 1 ∨ o = 2 ∨ o = 3 ∨ o = 4 by omega) with rfl | rfl | rfl | rfl | rfl
  · have hu : Value.int .i64 l[j].col = u := Option.some.inj hi
    rw [← hu]; exact hb.c0
  · have hu : Value.int .i64 l[j].v.k = u := Option.some.inj hi
    rw [← hu, ← Nat.add_assoc]; exact hb.c1
  · have hu : Value.int .i64 l[j].v.n = u := Option.some.inj hi
    rw [← hu, ← Nat.add_assoc]; exact hb.c2
  · have hu : Value.int .i64 l[j].v.sc = u := Option.some.inj hi
    rw [← hu, ← Nat.add_assoc]; exact hb.c3
  · have hu : Value.string l[j].v.s = u := Option.some.inj hi
    rw [← hu, ← Nat.add_assoc]; exact hb.c4
theorem yt_open {W : World} (x : Addr) (len cap : Nat) (zs : List Int) (hl : len ≤ cap) (hm : cap ≤ maxLen) (hzl : zs.length = cap) (hcell : ∀ i, i < zs.length → W.cell? (x.add i) = some (.int .u8 (zs.getD i 0))) (hwz : ∀ n ∈ zs, (Lit.int .u8 n).wf = true) :
    ∃ raw : List UInt8, raw.length = len ∧ len ≤ maxLen ∧ Yt (.slice (some x) len cap) raw W := by
  have hlen : ((zs.take len).map fun z => UInt8.ofNat z.toNat).length = len := by rw [List.length_map, List.length_take]; omega
  refine ⟨(zs.take len).map fun z => UInt8.ofNat z.toNat, hlen, by omega, ?_⟩
  rcases Nat.eq_zero_or_pos len with e | e
  · subst e; exact .inl ⟨_, _, rfl, by simp⟩
  · obtain ⟨b, off, spot⟩ := x
    have hspot : spot = none := by simpa [Addr.add] using World.cell?_spot (hcell 0 (by omega))
    subst hspot
    have hc : ∀ j, j < zs.length → W.cell? ⟨b, off + j, none⟩ = some (.int .u8 (zs.getD j 0)) := fun j hj => by rw [← Go.WideShapes.add_plain]; exact hcell j hj
    refine .inr ⟨b, off, cap, by rw [hlen], by rw [hlen]; exact hl, World.block_lt_of_cell? W ⟨b, off + 0, none⟩ (hc 0 (by omega)), fun j hj => ?_⟩
    rw [hlen] at hj
    have hj' : j < zs.length := by omega
    rw [hc j hj']
    have hb : 0 ≤ zs.getD j 0 ∧ zs.getD j 0 ≤ 255 := by
      have := hwz (zs.getD j 0) (by simp [List.getD, hj'])
      simpa [Lit.wf, IntKind.min, IntKind.max, IntKind.signed, IntKind.bits] using this
    have e2 : ((zs.take len).map fun z => UInt8.ofNat z.toNat).getD j 0 = UInt8.ofNat (zs.getD j 0).toNat := by
      simp [List.getD, hj, hj']
    rw [e2, UInt8.toNat_ofNat']
    congr 2
    omega

theorem it_op11 {W : World} (x : Addr) (len cap : Nat) (zs : List Int) (hl : len ≤ cap) (hm : cap ≤ maxLen) (hzl : len ≤ zs.length) (hcell : ∀ i, i < zs.length → W.cell? (x.add i) = some (.int .i64 (zs.getD i 0))) (hwz : ∀ n ∈ zs, (Lit.int .i64 n).wf = true) :
    ∃ raw : List Int, raw.length = len ∧ len ≤ maxLen ∧ It (.slice (some x) len cap) raw W ∧ ∀ y ∈ raw, i64 y := by
  have hlen : (zs.take len).length = len := by rw [List.length_take]; omega
  refine ⟨zs.take len, hlen, by omega, ?_, fun y hy => wf_i64 y (hwz y (List.mem_of_mem_take hy))⟩
  rcases Nat.eq_zero_or_pos len with e | e
  · subst e; exact .inl ⟨_, _, rfl, by simp⟩
  · obtain ⟨b, off, spot⟩ := x
    have hspot : spot = none := by simpa [Addr.add] using World.cell?_spot (hcell 0 (by omega))
    subst hspot
    have hc : ∀ j, j < zs.length → W.cell? ⟨b, off + j, none⟩ = some (.int .i64 (zs.getD j 0)) := fun j hj => by rw [← Go.WideShapes.add_plain]; exact hcell j hj
    refine .inr ⟨b, off, cap, by rw [hlen], by rw [hlen]; exact hl, World.block_lt_of_cell? W ⟨b, off + 0, none⟩ (hc 0 (by omega)), fun j hj => ?_⟩
    rw [hlen] at hj
    have hj' : j < zs.length := by omega
    rw [hc j hj']
    simp [List.getD, hj, hj']

theorem cells_cell : Tryd.prog.cellsOf 38 = 5 := by kernel_rfl
section
variable {H : Type} {enc : TypeId × Value → H} {w : World} {base : Nat} {sp : Nat → Bool} {held : Bool}
theorem cells5 {a : Addr} {cs : List Value} (h : w.cells? base a 5 = some cs) : ∃ x0 x1 x2 x3 x4, cs = [x0, x1, x2, x3, x4] ∧ w.cell? (a.add 0) = some x0 ∧ w.cell? (a.add 1) = some x1 ∧ w.cell? (a.add 2) = some x2 ∧ w.cell? (a.add 3) = some x3 ∧ w.cell? (a.add 4) = some x4 := by
  unfold World.cells? at h
  split at h
  · rw [show List.range 5 = [0, 1, 2, 3, 4] from rfl, List.mapM_cons, List.mapM_cons, List.mapM_cons, List.mapM_cons, List.mapM_cons, List.mapM_nil] at h
    simp only [bind, Option.bind_eq_some_iff, pure, Option.some.injEq] at h
    obtain ⟨x0, h0, _, ⟨x1, h1, _, ⟨x2, h2, _, ⟨x3, h3, _, ⟨x4, h4, _, rfl, rfl⟩, rfl⟩, rfl⟩, rfl⟩, rfl⟩ := h
    exact ⟨x0, x1, x2, x3, x4, rfl, h0, h1, h2, h3, h4⟩
  · cases h
/-- five cells that read as a cell of a row -/
theorem open_cell5 {n : Nat} {x0 x1 x2 x3 x4 : Value} {y : DataW H × List MemPlace} (h : DataW.trod enc Tryd.prog w base sp held n 38 [x0, x1, x2, x3, x4] = some y) :
    ∃ c : Rm.C, x0 = .int .i64 c.col ∧ x1 = .int .i64 c.v.k ∧ x2 = .int .i64 c.v.n ∧ x3 = .int .i64 c.v.sc ∧ x4 = .string c.v.s ∧ RowOk c := by
  obtain ⟨y0, y1, m, _, _, h0, h1⟩ := trod_struct2 Tryd.underlying38 h
  have k0 : Tryd.prog.cellsOf 3 = 1 := by kernel_rfl
  obtain ⟨a0, e0, _, w0⟩ := DataW.trod_int Tryd.underlying3 h0
  simp [k0] at e0
  have h1' : DataW.trod enc Tryd.prog w base sp held m 36 [x1, x2, x3, x4] = some y1 := by
    have h := h1
    simp only [cells_val] at h
    exact h
  obtain ⟨c, e1, e2, e3, e4, ok⟩ := open_cells h1'
  exact ⟨⟨a0, c⟩, e0, e1, e2, e3, e4, i64_inR (wf_i64 _ w0), i64_inR ok.i, ok.s⟩
theorem open_cell {r : Reach} {b0 : Nat} {v : Value} {d : DataW H} {p : List MemPlace} (hv : Value.okWide Tryd.prog w r b0 38 v) (h : DataW.Trod enc Tryd.prog w base sp held 38 v d p) :
    ∃ c : Rm.C, v = .agg #[.int .i64 c.col, .int .i64 c.v.k, .int .i64 c.v.n, .int .i64 c.v.sc, .string c.v.s] ∧ RowOk c := by
  obtain ⟨cs, rfl, hsz⟩ := okWide_struct Tryd.underlying38 hv
  rw [cells_cell] at hsz
  obtain ⟨l⟩ := cs
  match l, hsz with
  | [x0, x1, x2, x3, x4], _ =>
    obtain ⟨fuel, hf⟩ := h
    obtain ⟨c, rfl, rfl, rfl, rfl, rfl, ok⟩ := open_cell5 (x0 := x0) (x1 := x1) (x2 := x2) (x3 := x3) (x4 := x4) (by simpa [Value.cells] using hf)
    exact ⟨c, rfl, ok⟩
/-- a row as an argument -/
theorem open_row {r : Reach} {b0 : Nat} {v : Value} {d : DataW H} {p : List MemPlace} (hv : Value.okWide Tryd.prog w r b0 22 v) (h : DataW.Trod enc Tryd.prog w base sp held 22 v d p) :
    ∃ (a : Option Addr) (n cap : Nat) (cs : List Rm.C), v = .slice a n cap ∧ n ≤ maxLen ∧ Rs (.slice a n cap) cs w ∧ ∀ c ∈ cs, RowOk c := by
  obtain ⟨a, n, cap, rfl⟩ := okWide_slice Tryd.underlying22 hv
  obtain ⟨fuel, hf⟩ := h
  rcases DataW.trod_slice Tryd.underlying22 hf with ⟨hcs, _⟩ | ⟨x, len, c, elems, rest, m, _, hcs, _, _, hl, hm, hlen, hel, _, _⟩
  · simp [Value.cells] at hcs
    obtain ⟨rfl, rfl, rfl⟩ := hcs
    exact ⟨_, _, _, [], rfl, Nat.zero_le _, .inl ⟨_, _, rfl, rfl⟩, fun c h => by cases h⟩
  · simp [Value.cells] at hcs
    obtain ⟨rfl, rfl, rfl⟩ := hcs
    have each : ∀ i, i < n → ∃ c : Rm.C, RowOk c ∧ w.cell? ((x.add (i * 5)).add 0) = some (.int .i64 c.col) ∧ w.cell? ((x.add (i * 5)).add 1) = some (.int .i64 c.v.k) ∧ w.cell? ((x.add (i * 5)).add 2) = some (.int .i64 c.v.n) ∧ w.cell? ((x.add (i * 5)).add 3) = some (.int .i64 c.v.sc) ∧ w.cell? ((x.add (i * 5)).add 4) = some (.string c.v.s) := by
      intro i hi
      have he := hel i hi
      rw [List.getElem?_eq_getElem (by omega), cells_cell] at he
      rw [Option.bind_eq_some_iff] at he
      obtain ⟨cs', hc', hy⟩ := he
      obtain ⟨x0, x1, x2, x3, x4, rfl, h0, h1, h2, h3, h4⟩ := cells5 hc'
      obtain ⟨c, rfl, rfl, rfl, rfl, rfl, hok⟩ := open_cell5 hy
      exact ⟨c, hok, h0, h1, h2, h3, h4⟩
    obtain ⟨cs, hcl, hcq⟩ := pick_list _ n each
    refine ⟨_, _, _, cs, rfl, by omega, ?_, fun c hc => ?_⟩
    · rcases Nat.eq_zero_or_pos n with e | e
      · subst e
        exact .inl ⟨_, _, rfl, List.eq_nil_of_length_eq_zero hcl⟩
      · obtain ⟨b, off, spot⟩ := x
        have hc0 := (hcq 0 cs[0] (List.getElem?_eq_getElem (by omega))).2.1
        have hspot : spot = none := by simpa [Addr.add] using World.cell?_spot hc0
        subst hspot
        have hB : ∀ j c, cs[j]? = some c → Bx5 b (off + j * 5) c w := by
          intro j c hc
          obtain ⟨_, h0, h1, h2, h3, h4⟩ := hcq j c hc
          rw [add_at, add_at] at h0 h1 h2 h3 h4
          exact ⟨h0, h1, h2, h3, h4⟩
        refine .inr ⟨b, off, cap, by rw [hcl], by rw [hcl]; exact hl, World.block_lt_of_cell? w ⟨b, off + 0 * 5, none⟩ (hB 0 cs[0] (List.getElem?_eq_getElem (by omega))).c0, fun i u hi => cells_at cs b off w hB i u hi⟩
    · obtain ⟨i, hi⟩ := List.getElem?_of_mem hc
      exact (hcq i c hi).1
/-- bytes as an argument -/
theorem open_bytes {r : Reach} {b0 : Nat} {v : Value} {d : DataW H} {p : List MemPlace} (hv : Value.okWide Tryd.prog w r b0 25 v) (h : DataW.Trod enc Tryd.prog w base (fun _ => true) held 25 v d p) :
    ∃ (a : Option Addr) (n cap : Nat) (l : List UInt8), v = .slice a n cap ∧ n ≤ maxLen ∧ Yt (.slice a n cap) l w := by
  obtain ⟨a, n, cap, rfl⟩ := okWide_slice Tryd.underlying25 hv
  obtain ⟨fuel, hf⟩ := h
  rcases open_ints Tryd.underlying25 Tryd.underlying5 (by kernel_rfl) hf with ⟨hcs, _⟩ | ⟨x, l, c, zs, hcs, _, hl, hm, hz, _, hcell, hwz⟩
  · simp [Value.cells] at hcs
    obtain ⟨rfl, rfl, rfl⟩ := hcs
    exact ⟨_, _, _, [], rfl, Nat.zero_le _, .inl ⟨_, _, rfl, rfl⟩⟩
  · simp [Value.cells] at hcs
    obtain ⟨rfl, rfl, rfl⟩ := hcs
    have hzl : zs.length = cap := by simpa using hz
    obtain ⟨raw, h1, h2, h3⟩ := yt_open x n cap zs hl hm hzl hcell hwz
    exact ⟨_, _, _, raw, rfl, h2, h3⟩
theorem open_it11 {m : Nat} {cs : List Value} {y : DataW H × List MemPlace} (h : DataW.trod enc Tryd.prog w base (fun _ => true) held m 39 cs = some y) :
    ∃ (a : Option Addr) (n cap : Nat) (l : List Int), cs = [.slice a n cap] ∧ n ≤ maxLen ∧ It (.slice a n cap) l w ∧ ∀ x ∈ l, i64 x := by
  rcases open_ints Tryd.underlying39 Tryd.underlying3 (by kernel_rfl) h with ⟨hcs, _⟩ | ⟨x, l, c, zs, hcs, _, hl, hm, hz, _, hcell, hwz⟩
  · exact ⟨_, _, _, [], hcs, Nat.zero_le _, .inl ⟨_, _, rfl, rfl⟩, fun x h => by cases h⟩
  · have hzl : l ≤ zs.length := by simp at hz; omega
    obtain ⟨raw, h1, h2, h3, h4⟩ := it_op11 x l c zs hl hm hzl hcell hwz
    exact ⟨_, _, _, raw, hcs, h2, h3, h4⟩
theorem open_ints11 {r : Reach} {b0 : Nat} {v : Value} {d : DataW H} {p : List MemPlace} (hv : Value.okWide Tryd.prog w r b0 39 v) (h : DataW.Trod enc Tryd.prog w base (fun _ => true) held 39 v d p) :
    ∃ (a : Option Addr) (n cap : Nat) (l : List Int), v = .slice a n cap ∧ n ≤ maxLen ∧ It (.slice a n cap) l w ∧ ∀ x ∈ l, i64 x := by
  obtain ⟨a, n, cap, rfl⟩ := okWide_slice Tryd.underlying39 hv
  obtain ⟨fuel, hf⟩ := h
  obtain ⟨a', n', c', l, e, hm, hy, hi⟩ := open_it11 hf
  simp [Value.cells] at e
  obtain ⟨rfl, rfl, rfl⟩ := e
  exact ⟨_, _, _, l, rfl, hm, hy, hi⟩
end
end Go.Proofs.YtmipomglbccjbaaDoor
