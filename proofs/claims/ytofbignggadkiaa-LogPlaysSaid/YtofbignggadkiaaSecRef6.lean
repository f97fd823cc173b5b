/- The reference of layer 6: New. -/
import Derived.Test.YtofbignggadkiaaSecRef5
import Derived.Deep.RegionLaw
import Derived.OwnWalk
namespace Go.Proofs.Ytofbignggadkiaa
open Go.RowKit

theorem info1s : (Try.prog.info? 9).map (fun i => (i.zero, i.size, i.bytes)) = some (some (.string ⟨#[]⟩), 1, 16) := by kernel_rfl
theorem own_lits (w : World) (x : List UInt8) (B : Nat) (hB : B ≤ w.heap.size) : (w.alloc (.cells #[.string (st x)] 9)).ownsRow B 9 1 (.slice (some ⟨w.heap.size, 0, none⟩) 1 1) 1 (sc [x]) :=
  ⟨rfl, .inr ⟨w.heap.size, 1, #[.string (st x)], rfl, hB, heap_alloc_new w _, Nat.le_refl _, by unfold maxLen; decide, rfl, rfl⟩⟩
theorem sc_one (l : List (List UInt8)) : ∀ u ∈ sc l, u.oneCell' = true := by
  intro u hu; obtain ⟨b, _, rfl⟩ := List.mem_map.1 hu; rfl
theorem sc_app (l r : List (List UInt8)) : sc (l ++ r) = sc l ++ sc r := by simp [sc]
theorem src_row {w : World} {B g n cap : Nat} {xs : List Value} {t e : TypeId} (h : w.ownsRow B e 1 (.slice (some ⟨g, 0, none⟩) n cap) n xs) (ht : Try.prog.underlying t = some (.slice e)) (h1 : ∀ u ∈ xs, u.oneCell' = true) : Src Try.prog 1 t (.slice (some ⟨g, 0, none⟩) n cap) n xs w :=
  Src.ofSlice w ht ⟨g, 0, none⟩ n cap xs h.1 (h.cells (g := g) rfl) h1
theorem own_drew {w : World} {B : Nat} {e : TypeId} {size n : Nat} {v : Value} {xs : List Value} (h : w.ownsRow B e size v n xs) : w.drew.ownsRow B e size v n xs := h
theorem own_slice {w : World} {B : Nat} {e : TypeId} {size n : Nat} {v : Value} {xs : List Value} (h : w.ownsRow B e size v n xs) (h0 : 0 < n) : ∃ a c, v = .slice a n c := by
  rcases h.2 with ⟨hv, h⟩ | ⟨b, cap, cur, hv, _⟩
  · omega
  · exact ⟨_, _, hv⟩
theorem own_zero {w : World} {B : Nat} {e : TypeId} {size n : Nat} {v : Value} {xs : List Value} (h : w.ownsRow B e size v n xs) : w.ownsRow 0 e size v n xs := by
  obtain ⟨h1, h2⟩ := h
  refine ⟨h1, ?_⟩
  rcases h2 with h2 | ⟨b, cap, cur, hv, _, rest⟩
  · exact .inl h2
  · exact .inr ⟨b, cap, cur, hv, Nat.zero_le _, rest⟩
theorem row_cell {W W2 : World} {g o : Nat} {x : Obj} {row : Option Nat} (hg : ((W.alloc x).drew).grownBy W2 row) (hne : row ≠ some g) (hl : g < W.heap.size) : W2.cell? ⟨g, o, none⟩ = W.cell? ⟨g, o, none⟩ := by
  have hb := hg.block g (by simp; omega) (fun e => hne e.symm)
  have h2 : (W.alloc x).drew.heap[g]? = W.heap[g]? := Below.heap_alloc W x g hl
  rw [h2] at hb
  simp [World.cell?, hb]
theorem row_frozen {W W2 : World} {g : Nat} {x : Obj} {row : Option Nat} (hg : ((W.alloc x).drew).grownBy W2 row) (hne : row ≠ some g) (hl : g < W.heap.size) : ∀ o, W2.frozen? ⟨g, o, none⟩ = W.frozen? ⟨g, o, none⟩ := by
  have hb := hg.block g (by simp; omega) (fun e => hne e.symm)
  have h2 : (W.alloc x).drew.heap[g]? = W.heap[g]? := Below.heap_alloc W x g hl
  rw [h2] at hb
  intro o
  simp [World.frozen?, hb]
set_option maxHeartbeats 4000000 in
set_option maxRecDepth 100000 in
theorem ref6_new (n : Nat) (w : World) (h0 : 0 < n) (hn : n ≤ 1000) :
    Calls Try.prog 6 #[.int .i64 (n : Int)] w fun e w' => ∃ g kb kc, e = .returned (.pointer (some ⟨g, 0, none⟩)) ∧ w.heap.size ≤ g ∧ w.heap.size ≤ kb ∧ Dr g kb kc none 0 (Sm.new n) w' ∧ Below w.heap.size w w' := by
  obtain ⟨j0, hj0, hz0, hz1, hz2⟩ := info_of info1s
  have HI0 := Lib.hid hj0; have HZ0 := Lib.hid hz0; have HZ1 := Lib.hid hz1; have HZ2 := Lib.hid hz2
  have HF : Hid (∀ W, Calls Try.prog 28 #[.string ⟨#[]⟩] W fun e w' => e = .returned (.string (st (Sm.full []))) ∧ W = w') := fun W => ref6_full [] W (by decide)
  clear hj0 hz0 hz1 hz2
  go_enter Try.func6, Try.ntmps6
  go_wp2_with fail
  go_loopw [4] (fun iv wr => ∃ (j : Nat) (aa : Option Addr) (cc : Nat), j ≤ n ∧ iv = .int .i64 (j : Int) ∧
    wr.cell? ⟨w.heap.size, 0, none⟩ = some (.slice aa j cc) ∧ wr.cell? ⟨w.heap.size, 1, none⟩ = some (.slice none 0 0) ∧ wr.cell? ⟨w.heap.size, 2, none⟩ = some (.int .i64 (-1)) ∧ wr.cell? ⟨w.heap.size, 3, none⟩ = some (.int .i64 0) ∧
    (∀ o, wr.frozen? ⟨w.heap.size, o, none⟩ = false) ∧ w.heap.size < wr.heap.size ∧ Hid (wr.ownsRow (w.heap.size + 1) 9 1 (.slice aa j cc) j (sc (List.replicate j (Sm.full [])))) ∧ Hid (Below w.heap.size w wr)) (fun iv _ => n - (ixOf iv).toNat)
  case atStart =>
    have hb := Lib.cell_of_heap (heap_alloc_new w (.cells #[.slice none 0 0, .slice none 0 0, .int .i64 (-1), .int .i64 0] 62))
    exact ⟨0, none, 0, by omega, rfl, hb 0, hb 1, hb 2, hb 3, fun o => Lib.frozen_of_heap (heap_alloc_new w _) o, by simp, World.ownsRow_nil _ _ _ _, (Below.refl _ _).alloc (Nat.le_refl _) _⟩
  case round =>
    obtain ⟨j, aa, cc, hj, rfl, c0, c1, c2, c3, cf, cl, HO, HB⟩ := hrel
    by_cases hlt : j < n
    · have hfull : Hid (sc (List.replicate j (Sm.full [])) ++ sc [Sm.full []] = sc (List.replicate (j + 1) (Sm.full []))) := by
        show _ = _
        rw [← sc_app, ← List.replicate_succ']
      have HLIT : Hid (Src Try.prog 1 56 (.slice (some ⟨wr.heap.size, 0, none⟩) 1 1) 1 (sc [Sm.full []]) (wr.alloc (.cells #[.string (st (Sm.full []))] 9)).drew) :=
        src_row (own_drew (own_lits wr (Sm.full []) 0 (Nat.zero_le _))) Try.underlying56 (sc_one _)
      have HNE : Hid ((Value.slice aa j cc).ownBlock ≠ some w.heap.size) := by
        intro e; have := (HO.out.lt _ e).1; omega
      obtain ⟨S, hS⟩ : ∃ S, S = st (Sm.full []) := ⟨_, rfl⟩
      rw [← hS] at HF HLIT
      clear hS
      go_upto_region 5 with (fail)
      go_region_law (first
        | (refine step_append_src _ rfl (.tmp 16) (.tmp 18) 56 56 rfl (w.heap.size + 1) 9 j0 (.string ⟨#[]⟩) 1 16 Try.underlying56 HI0.out HZ0.out HZ1.out HZ2.out rfl (.slice aa j cc) j (sc (List.replicate j (Sm.full []))) rfl (own_drew (HO.out.alloc _)) _ 1 (sc [Sm.full []]) rfl HLIT.out (by unfold maxLen; omega) (by omega) (by simp; omega) ?_; intro v2 w2 hown hgrow hat; rw [hfull.out] at hown; obtain ⟨a2, c2', rfl⟩ := own_slice hown (by omega); have HO2 := Lib.hid hown; have HG := Lib.hid hgrow; have HAT := Lib.hid hat; clear hown hgrow hat; have d0 := row_cell (o := 0) HG.out HNE.out cl; have d1 := row_cell (o := 1) HG.out HNE.out cl; have d2 := row_cell (o := 2) HG.out HNE.out cl; have d3 := row_cell (o := 3) HG.out HNE.out cl; have df := row_frozen HG.out HNE.out cl; rw [c0] at d0; rw [c1] at d1; rw [c2] at d2; rw [c3] at d3; simp only [cf] at df)
        | (go_simp; go_at_call 28; refine (HF.out _).mono ?_; rintro e w4 ⟨rfl, rfl⟩))
      all_goals
        have hne2 : (Value.slice a2 (j + 1) c2').ownBlock ≠ some w.heap.size := by
          intro e; have := (HO2.out.lt _ e).1; omega
        have HB2 := Lib.hid (((show Below w.heap.size w (wr.alloc (.cells #[.string S] 9)).drew from (HB.out.alloc (by omega) (.cells #[.string S] 9)).trans ⟨rfl, rfl, rfl, Nat.le_refl _, fun _ _ => rfl⟩).grown HG.out (by simp; omega) (fun i hi => by have := (HO.out.lt i hi).1; omega)).setCell (p := ⟨w.heap.size, 0, none⟩) (Nat.le_refl _) (.slice a2 (j + 1) c2'))
        have HO3 := Lib.hid (own_set (o := 0) HO2.out (.slice a2 (j + 1) c2') hne2)
        have hl2 : w.heap.size < w2.heap.size := by have := HG.out.size; simp at this; omega
        clear HG HAT hne2 HO2
        go_wp2
        refine ⟨⟨j + 1, a2, c2', by omega, by go_num, World.cell?_setCell_same _ _ _ d0, (cell_keep _ _ _ _ _ (by decide)).trans d1, (cell_keep _ _ _ _ _ (by decide)).trans d2, (cell_keep _ _ _ _ _ (by decide)).trans d3, fun o => by have := df o; simpa using this, by simpa using hl2, HO3, HB2⟩, by simp [ixOf]; omega⟩
    · have hjn : j = n := by omega
      subst hjn
      obtain ⟨kb, kc, hv, hkb⟩ : ∃ kb kc, aa = some ⟨kb, 0, none⟩ ∧ w.heap.size + 1 ≤ kb := by
        rcases HO.out.2 with ⟨hv, h⟩ | ⟨b, cap, cur, hv, hB, _⟩
        · omega
        · injection hv with e1 _ _; exact ⟨b, cap, e1, hB⟩
      subst hv
      go_wp2
      go_ret
      have hl : (List.replicate j (Sm.full [])).length = j := List.length_replicate
      refine ⟨w.heap.size, kb, cc, rfl, Nat.le_refl _, by omega, ⟨?_, c1, c2, c3, cf, cl, ?_, by omega, .inl ⟨_, _, rfl, rfl⟩, fun a e => by cases e⟩, HB.out⟩
      · show _ = some (Value.slice (some ⟨kb, 0, none⟩) (List.replicate j (Sm.full [])).length cc)
        rw [hl]; exact c0
      · show wr.ownsRow 0 9 1 (.slice (some ⟨kb, 0, none⟩) (List.replicate j (Sm.full [])).length cc) (List.replicate j (Sm.full [])).length (sc (List.replicate j (Sm.full [])))
        rw [hl]
        exact own_zero HO.out
end Go.Proofs.Ytofbignggadkiaa
