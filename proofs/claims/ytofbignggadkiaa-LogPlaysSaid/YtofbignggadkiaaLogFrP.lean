/- Layer 7: a script as an argument, with the bytes that it takes up. -/
import Derived.Test.YtofbignggadkiaaLogFrame
import Derived.SizedLaws
import Derived.WideKeyPair
namespace Go.Proofs.Ytofbignggadkiaa
open Go.ChangeShapes Go.WideShapes Go.ChangeAt Go.RowKit Go.WideMaps Go.Joins

theorem bytes_u8 : Try.prog.bytesOf 5 = 1 := by kernel_rfl
theorem pairKey7 : ArrKey Try.prog 22 3 2 := ⟨Try.underlying22, by kernel_rfl, by kernel_rfl, by kernel_rfl⟩
theorem mem_weightsAll {H : Type} {P : Program} {e : TypeId} : ∀ {l : List (DataW H)} {d : DataW H}, d ∈ l → ∀ n ∈ d.weights P e, n ∈ DataW.weightsAll P e l
  | [], _, h, _, _ => by cases h
  | a :: r, d, h, n, hn => by
    unfold DataW.weightsAll
    rcases List.mem_cons.1 h with rfl | h
    · exact List.mem_append_left _ hn
    · exact List.mem_append_right _ (mem_weightsAll h n hn)
section
variable {H : Type} {enc : TypeId × Value → H} {w : World} {base : Nat} {held : Bool}
theorem open_ytZ {m : Nat} {cs : List Value} {y : DataW H × List MemPlace} (h : DataW.trod enc Try.prog w base (fun _ => true) held m 39 cs = some y) :
    ∃ (a : Option Addr) (n cap : Nat) (l : List UInt8), cs = [.slice a n cap] ∧ n ≤ maxLen ∧ Yt (.slice a n cap) l w ∧ ∀ M, (∀ x ∈ y.1.weights Try.prog 39, x ≤ M) → l.length ≤ M := by
  rcases open_ints Try.underlying39 Try.underlying5 (by kernel_rfl) h with ⟨hcs, _⟩ | ⟨x, l, c, zs, hcs, _, hl, hm, hz, hy, hcell, hwz⟩
  · exact ⟨_, _, _, [], hcs, Nat.zero_le _, .inl ⟨_, _, rfl, rfl⟩, fun M _ => Nat.zero_le _⟩
  · have hzl : l ≤ zs.length := by simp at hz; omega
    obtain ⟨raw, h1, h2, h3⟩ := yt_op x l c zs hl hm hzl hcell hwz
    refine ⟨_, _, _, raw, hcs, h2, h3, fun M hM => ?_⟩
    have h4 := hM ((lits .u8 (zs.take l)).length * Try.prog.bytesOf 5 + (lits .u8 (zs.drop l)).length * Try.prog.bytesOf 5) (by rw [hy]; simp [DataW.weights, Try.underlying39, Nat.add_mul]; try exact .inl rfl)
    rw [bytes_u8] at h4
    simp [lits] at h4
    omega
theorem open_actZ {n : Nat} {x0 x1 x2 x3 : Value} {y : DataW H × List MemPlace} (h : DataW.trod enc Try.prog w base (fun _ => true) held n 46 [x0, x1, x2, x3] = some y) :
    ∃ (s : Sp) (ab : Option Addr) (nb cb : Nat) (av : Option Addr) (nt ct : Nat), x0 = .int .i64 s.k ∧ x1 = .int .i64 s.i ∧ x2 = .slice ab nb cb ∧ x3 = .slice av nt ct ∧ Yt (.slice ab nb cb) s.b w ∧ It (.slice av nt ct) s.t w ∧ nb ≤ maxLen ∧ nt ≤ maxLen ∧ n64 s.k ∧ n64 s.i ∧ (∀ x ∈ s.t, n64 x) ∧ ∀ M, (∀ x ∈ y.1.weights Try.prog 46, x ≤ M) → s.b.length ≤ M := by
  obtain ⟨y0, y1, y2, y3, m, hy, _, h0, h1, h2, h3⟩ := trod_struct4 Try.underlying46 h
  have k1 : Try.prog.cellsOf 3 = 1 := by kernel_rfl
  have k2 : Try.prog.cellsOf 39 = 1 := by kernel_rfl
  have k3 : Try.prog.cellsOf 44 = 1 := by kernel_rfl
  obtain ⟨a0, e0, _, w0⟩ := DataW.trod_int Try.underlying3 h0
  obtain ⟨a1, e1, _, w1⟩ := DataW.trod_int Try.underlying3 h1
  obtain ⟨a2, n2, c2, l2, e2, m2, y2', z2⟩ := open_ytZ h2
  obtain ⟨a3, n3, c3, l3, e3, m3, y3', i3⟩ := open_it h3
  simp [k1] at e0
  simp [k1] at e1
  simp [k2] at e2
  simp [k3] at e3
  refine ⟨⟨a0, a1, l2, l3⟩, a2, n2, c2, a3, n3, c3, e0, e1, e2, e3, y2', y3', m2, m3, wfi _ w0, wfi _ w1, i3, fun M hM => z2 M (fun x hx => hM x ?_)⟩
  rw [hy]
  simp only [DataW.weights, Try.underlying46]
  exact DataW.weights_mem_each (j := 2) (t := 39) (d := y2.1) rfl rfl x hx
set_option maxRecDepth 100000 in
/-- a script as an argument -/
theorem open_scriptZ {r : Reach} {b0 : Nat} {v : Value} {d : DataW H} {p : List MemPlace} (hv : Value.okWide Try.prog w r b0 23 v) (h : DataW.Trod enc Try.prog w base (fun _ => true) held 23 v d p) :
    ∃ (a : Option Addr) (n cap : Nat) (l : List Sp), v = .slice a n cap ∧ n ≤ maxLen ∧ Sv a n l w ∧ ∀ M, (∀ x ∈ d.weights Try.prog 23, x ≤ M) → ∀ s ∈ l, s.b.length ≤ M := by
  obtain ⟨a, n, cap, rfl⟩ := okWide_slice Try.underlying23 hv
  obtain ⟨fuel, hf⟩ := h
  rcases DataW.trod_slice Try.underlying23 hf with ⟨hcs, _⟩ | ⟨x, len, c, elems, rest, m, _, hcs, hd, _, hl, hm, hlen, hel, _, _⟩
  · simp [Value.cells] at hcs
    obtain ⟨rfl, rfl, rfl⟩ := hcs
    exact ⟨_, _, _, [], rfl, Nat.zero_le _, ⟨rfl, fun j hj => by simp at hj⟩, fun M _ s hs => by cases hs⟩
  · simp [Value.cells] at hcs
    obtain ⟨rfl, rfl, rfl⟩ := hcs
    injection hd with hd _
    have raw : ∀ i, (hi : i < n) → ∃ x0 x1 x2 x3, w.cell? ((x.add (i * 4)).add 0) = some x0 ∧ w.cell? ((x.add (i * 4)).add 1) = some x1 ∧ w.cell? ((x.add (i * 4)).add 2) = some x2 ∧ w.cell? ((x.add (i * 4)).add 3) = some x3 ∧ DataW.trod enc Try.prog w base (fun _ => true) held m 46 [x0, x1, x2, x3] = some (elems[i]'(by omega)) := by
      intro i hi
      have he := hel i hi
      rw [List.getElem?_eq_getElem (by omega), cells_op] at he
      rw [Option.bind_eq_some_iff] at he
      obtain ⟨cs', hc', hy⟩ := he
      obtain ⟨x0, x1, x2, x3, rfl, h0, h1, h2, h3⟩ := cells4o hc'
      exact ⟨x0, x1, x2, x3, h0, h1, h2, h3, hy⟩
    have hx : 0 < n → ∃ g off, x = ⟨g, off, none⟩ := by
      intro h0
      obtain ⟨x0, _, _, _, c0, _⟩ := raw 0 h0
      obtain ⟨b, off, spot⟩ := x
      have hspot : spot = none := by simpa [Addr.add] using World.cell?_spot c0
      exact ⟨b, off, by rw [hspot]⟩
    have each : ∀ i, i < n → ∃ s : Sp, (∃ g off ab nb cb av nt ct, x = ⟨g, off, none⟩ ∧ Spx g (off + i * 4) s ab nb cb av nt ct w) ∧ ∀ M, (∀ z ∈ d.weights Try.prog 23, z ≤ M) → s.b.length ≤ M := by
      intro i hi
      obtain ⟨x0, x1, x2, x3, h0, h1, h2, h3, hy⟩ := raw i hi
      obtain ⟨s, ab, nb, cb, av, nt, ct, rfl, rfl, rfl, rfl, hyb, hyt, hb, ht, hk, hi2, hti, hz⟩ := open_actZ hy
      obtain ⟨b, off, rfl⟩ := hx (by omega)
      rw [add_pl, add_pl] at h0 h1 h2 h3
      refine ⟨s, ⟨b, off, ab, nb, cb, av, nt, ct, rfl, h0, h1, h2, h3, hyb, hyt, World.block_lt_of_cell? w ⟨b, off + i * 4 + 0, none⟩ h0, hb, ht, hk, hi2, hti⟩, fun M hM => hz M (fun z hzm => hM z ?_)⟩
      rw [hd]
      simp only [DataW.weights, Try.underlying23]
      exact List.mem_cons_of_mem _ (List.mem_append_left _ (mem_weightsAll (List.mem_map.2 ⟨elems[i]'(by omega), List.getElem_mem _, rfl⟩) z hzm))
    obtain ⟨cs, hcl, hcq⟩ := pick_fun _ n each
    refine ⟨_, _, _, cs, rfl, by omega, ⟨hcl.symm, fun j hj => by
      obtain ⟨g, off, ab, nb, cb, av, nt, ct, rfl, hsp⟩ := (hcq j cs[j] (List.getElem?_eq_getElem hj)).1
      exact ⟨g, off, ab, nb, cb, av, nt, ct, rfl, hsp⟩⟩, fun M hM s hs => ?_⟩
    obtain ⟨j, hj, rfl⟩ := List.mem_iff_getElem.1 hs
    exact (hcq j cs[j] (List.getElem?_eq_getElem hj)).2 M hM
end
end Go.Proofs.Ytofbignggadkiaa
