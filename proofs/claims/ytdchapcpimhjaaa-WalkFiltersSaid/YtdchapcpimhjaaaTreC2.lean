/- Package tree: slices.Grow of nil, slices.Concat of three rows. -/
import Derived.Test.YtdchapcpimhjaaaTreC1
import Derived.Lib.AppendZerosOnto
import Derived.Lib.SliceRun
import Derived.Lib.Walk
namespace Go.Proofs.Ytdchapcpimhjaaa
open Go.RowKit

/-- how long the first j rows are, and what they hold -/
def sumn (L : List (Option Addr × Nat × Nat × List Value)) (j : Nat) : Nat := ((L.take j).map (fun x => x.2.1)).sum
def vcat (L : List (Option Addr × Nat × Nat × List Value)) (j : Nat) : List Value := ((L.take j).map (fun x => x.2.2.2)).flatten
theorem info_of8 {o : Option TypeInfo} {x : Option Value} {y z : Nat} (h : o.map (fun i => (i.zero, i.size, i.bytes)) = some (x, y, z)) : ∃ i, o = some i ∧ i.zero = x ∧ i.size = y ∧ i.bytes = z := by
  cases o with
  | none => cases h
  | some i => simp at h; exact ⟨i, rfl, h.1, h.2.1, h.2.2⟩
theorem own_form8 {w : World} {B n m : Nat} {E : TypeId} {v : Value} {vs : List Value} (h : w.ownsRow B E 1 v (n + m) vs) : ∃ a c, v = .slice a (n + m) c := by
  obtain ⟨h1, h2⟩ := h
  rcases h2 with ⟨rfl, e⟩ | ⟨g, cap, cur, rfl, _⟩
  · rw [e]; exact ⟨none, 0, rfl⟩
  · exact ⟨_, _, rfl⟩
theorem infos8 : (Try.prog.info? 9).map (fun i => (i.zero, i.size, i.bytes)) = some (some (.string ⟨#[]⟩), 1, 16) := by kernel_rfl
set_option maxHeartbeats 2000000 in
set_option maxRecDepth 100000 in
theorem tre_grows (n : Nat) (w : World) (hn : n ≤ 10000) : Calls Try.prog 78 #[.slice none 0 0, .int .i64 (n : Int)] w fun e w' => ∃ a c, e = .returned (.slice a 0 c) ∧ w'.ownsRow w.heap.size 9 1 (.slice a 0 c) 0 [] ∧ Below w.heap.size w w' := by
  obtain ⟨i0, hi0, hz0, hz1, hz2⟩ := info_of8 infos8
  have h1 : ¬ ((n : Int) < 0) := by omega
  rcases Nat.eq_zero_or_pos n with h0 | h0
  · subst h0
    go_enter Try.func78, Try.ntmps78
    go_wp2
    go_ret
    exact ⟨none, 0, rfl, World.ownsRow_nil _ _ _ _, Below.refl _ _⟩
  · have h4 : (0 : Int) < (n : Int) := by omega
    have hrz : ∀ ty, (Builtin.append_ #[22, 3] ty #[.slice none 0 0, .int .i64 (n : Int)]).run Try.prog w =
        .ok (.slice (some ⟨w.heap.size, 0, none⟩) n (grownCap w n 0 9)) (w.drew.alloc (.cells (([] : List Value).toArray ++ Builtin.zeroCells (.string ⟨#[]⟩ : Value).cells n ++ Builtin.zeroCells (.string ⟨#[]⟩ : Value).cells (grownCap w n 0 9 - n)) 9)) := fun ty => by
      have h := Lib.run_append_grow_zeros w 22 3 ty 9 i0 (.string ⟨#[]⟩) .i64 .i64 Try.underlying22 Try.underlying3 hi0 hz0 none 0 0 [] (run_firstCells_none w.drew i0.size 0 0 0) n (by omega) (by omega) (by omega) (by omega) (by rw [hz2]; omega) (by rw [hz2, Nat.zero_add]; exact growslice_fits h0 (by omega))
      rw [Nat.zero_add] at h
      exact h
    have hGn : n ≤ grownCap w n 0 9 := grownCap_ge w _ _ _
    have hGm : grownCap w n 0 9 ≤ maxLen := grownCap_le_maxLen w n 0 9 (by unfold maxLen; omega)
    obtain ⟨G, hG⟩ : ∃ G, G = grownCap w n 0 9 := ⟨_, rfl⟩
    rw [← hG] at hrz hGn hGm
    have hG63 : G ≤ 9223372036854775807 := by unfold maxLen at hGm; omega
    have HGM := Lib.hid hGm
    have HOW : Hid (∀ cs : Array Value, cs.size = G → (w.drew.alloc (.cells cs 9)).ownsRow w.heap.size 9 1 (.slice (some ⟨w.heap.size, 0, none⟩) 0 G) 0 []) := fun cs hcs => ⟨rfl, .inr ⟨w.heap.size, G, cs, rfl, Nat.le_refl _, heap_alloc_new w.drew _, Nat.zero_le _, HGM.out, by rw [hcs, Nat.mul_one], by simp⟩⟩
    have HSZ : Hid ((Builtin.zeroCells #[(.string ⟨#[]⟩ : Value)] n ++ Builtin.zeroCells #[(.string ⟨#[]⟩ : Value)] (G - n)).size = G) := by
      show _ = _
      rw [Array.size_append, size_zeroCells, size_zeroCells]
      simp
      omega
    have hnG : (n : Int) ≤ (G : Int) := by omega
    clear hG hGm hi0 hz0 hz1 hz2
    go_enter Try.func78, Try.ntmps78
    go_wp2_with (at_builtin; refine Lib.wpList_append_run _ rfl _ _ _ _ rfl _ _ rfl rfl _ _ (hrz _) ?_)
    all_goals
      go_ret
      exact ⟨_, _, rfl, HOW.out _ HSZ.out, (below_dr8 w).trans ((one_b8 w.drew _).mono (Nat.le_refl _))⟩
theorem infoi8 : (Try.prog.info? 3).map (fun i => (i.zero, i.size, i.bytes)) = some (some (.int .i64 0), 1, 8) := by kernel_rfl
set_option maxHeartbeats 2000000 in
set_option maxRecDepth 100000 in
theorem tre_growi (n : Nat) (w : World) (hn : n ≤ 10000) : Calls Try.prog 79 #[.slice none 0 0, .int .i64 (n : Int)] w fun e w' => ∃ a c, e = .returned (.slice a 0 c) ∧ w'.ownsRow w.heap.size 3 1 (.slice a 0 c) 0 [] ∧ Below w.heap.size w w' := by
  obtain ⟨i0, hi0, hz0, hz1, hz2⟩ := info_of8 infoi8
  have h1 : ¬ ((n : Int) < 0) := by omega
  rcases Nat.eq_zero_or_pos n with h0 | h0
  · subst h0
    go_enter Try.func79, Try.ntmps79
    go_wp2
    go_ret
    exact ⟨none, 0, rfl, World.ownsRow_nil _ _ _ _, Below.refl _ _⟩
  · have h4 : (0 : Int) < (n : Int) := by omega
    have hrz : ∀ ty, (Builtin.append_ #[45, 3] ty #[.slice none 0 0, .int .i64 (n : Int)]).run Try.prog w =
        .ok (.slice (some ⟨w.heap.size, 0, none⟩) n (grownCap w n 0 3)) (w.drew.alloc (.cells (([] : List Value).toArray ++ Builtin.zeroCells (.int .i64 0 : Value).cells n ++ Builtin.zeroCells (.int .i64 0 : Value).cells (grownCap w n 0 3 - n)) 3)) := fun ty => by
      have h := Lib.run_append_grow_zeros w 45 3 ty 3 i0 (.int .i64 0) .i64 .i64 Try.underlying45 Try.underlying3 hi0 hz0 none 0 0 [] (run_firstCells_none w.drew i0.size 0 0 0) n (by omega) (by omega) (by omega) (by omega) (by rw [hz2]; omega) (by rw [hz2, Nat.zero_add]; exact growslice_fits h0 (by omega))
      rw [Nat.zero_add] at h
      exact h
    have hGn : n ≤ grownCap w n 0 3 := grownCap_ge w _ _ _
    have hGm : grownCap w n 0 3 ≤ maxLen := grownCap_le_maxLen w n 0 3 (by unfold maxLen; omega)
    obtain ⟨G, hG⟩ : ∃ G, G = grownCap w n 0 3 := ⟨_, rfl⟩
    rw [← hG] at hrz hGn hGm
    have hG63 : G ≤ 9223372036854775807 := by unfold maxLen at hGm; omega
    have HGM := Lib.hid hGm
    have HOW : Hid (∀ cs : Array Value, cs.size = G → (w.drew.alloc (.cells cs 3)).ownsRow w.heap.size 3 1 (.slice (some ⟨w.heap.size, 0, none⟩) 0 G) 0 []) := fun cs hcs => ⟨rfl, .inr ⟨w.heap.size, G, cs, rfl, Nat.le_refl _, heap_alloc_new w.drew _, Nat.zero_le _, HGM.out, by rw [hcs, Nat.mul_one], by simp⟩⟩
    have HSZ : Hid ((Builtin.zeroCells #[(.int .i64 0 : Value)] n ++ Builtin.zeroCells #[(.int .i64 0 : Value)] (G - n)).size = G) := by
      show _ = _
      rw [Array.size_append, size_zeroCells, size_zeroCells]
      simp
      omega
    have hnG : (n : Int) ≤ (G : Int) := by omega
    clear hG hGm hi0 hz0 hz1 hz2
    go_enter Try.func79, Try.ntmps79
    go_wp2_with (at_builtin; refine Lib.wpList_append_run _ rfl _ _ _ _ rfl _ _ rfl rfl _ _ (hrz _) ?_)
    all_goals
      go_ret
      exact ⟨_, _, rfl, HOW.out _ HSZ.out, (below_dr8 w).trans ((one_b8 w.drew _).mono (Nat.le_refl _))⟩
theorem infop8 : (Try.prog.info? 72).map (fun i => (i.zero, i.size, i.bytes)) = some (some (.pointer none), 1, 8) := by kernel_rfl
set_option maxHeartbeats 2000000 in
set_option maxRecDepth 100000 in
theorem tre_growp (n : Nat) (w : World) (hn : n ≤ 10000) : Calls Try.prog 77 #[.slice none 0 0, .int .i64 (n : Int)] w fun e w' => ∃ a c, e = .returned (.slice a 0 c) ∧ w'.ownsRow w.heap.size 72 1 (.slice a 0 c) 0 [] ∧ Below w.heap.size w w' := by
  obtain ⟨i0, hi0, hz0, hz1, hz2⟩ := info_of8 infop8
  have h1 : ¬ ((n : Int) < 0) := by omega
  rcases Nat.eq_zero_or_pos n with h0 | h0
  · subst h0
    go_enter Try.func77, Try.ntmps77
    go_wp2
    go_ret
    exact ⟨none, 0, rfl, World.ownsRow_nil _ _ _ _, Below.refl _ _⟩
  · have h4 : (0 : Int) < (n : Int) := by omega
    have hrz : ∀ ty, (Builtin.append_ #[87, 3] ty #[.slice none 0 0, .int .i64 (n : Int)]).run Try.prog w =
        .ok (.slice (some ⟨w.heap.size, 0, none⟩) n (grownCap w n 0 72)) (w.drew.alloc (.cells (([] : List Value).toArray ++ Builtin.zeroCells (.pointer none : Value).cells n ++ Builtin.zeroCells (.pointer none : Value).cells (grownCap w n 0 72 - n)) 72)) := fun ty => by
      have h := Lib.run_append_grow_zeros w 87 3 ty 72 i0 (.pointer none) .i64 .i64 Try.underlying87 Try.underlying3 hi0 hz0 none 0 0 [] (run_firstCells_none w.drew i0.size 0 0 0) n (by omega) (by omega) (by omega) (by omega) (by rw [hz2]; omega) (by rw [hz2, Nat.zero_add]; exact growslice_fits h0 (by omega))
      rw [Nat.zero_add] at h
      exact h
    have hGn : n ≤ grownCap w n 0 72 := grownCap_ge w _ _ _
    have hGm : grownCap w n 0 72 ≤ maxLen := grownCap_le_maxLen w n 0 72 (by unfold maxLen; omega)
    obtain ⟨G, hG⟩ : ∃ G, G = grownCap w n 0 72 := ⟨_, rfl⟩
    rw [← hG] at hrz hGn hGm
    have hG63 : G ≤ 9223372036854775807 := by unfold maxLen at hGm; omega
    have HGM := Lib.hid hGm
    have HOW : Hid (∀ cs : Array Value, cs.size = G → (w.drew.alloc (.cells cs 72)).ownsRow w.heap.size 72 1 (.slice (some ⟨w.heap.size, 0, none⟩) 0 G) 0 []) := fun cs hcs => ⟨rfl, .inr ⟨w.heap.size, G, cs, rfl, Nat.le_refl _, heap_alloc_new w.drew _, Nat.zero_le _, HGM.out, by rw [hcs, Nat.mul_one], by simp⟩⟩
    have HSZ : Hid ((Builtin.zeroCells #[(.pointer none : Value)] n ++ Builtin.zeroCells #[(.pointer none : Value)] (G - n)).size = G) := by
      show _ = _
      rw [Array.size_append, size_zeroCells, size_zeroCells]
      simp
      omega
    have hnG : (n : Int) ≤ (G : Int) := by omega
    clear hG hGm hi0 hz0 hz1 hz2
    go_enter Try.func77, Try.ntmps77
    go_wp2_with (at_builtin; refine Lib.wpList_append_run _ rfl _ _ _ _ rfl _ _ rfl rfl _ _ (hrz _) ?_)
    all_goals
      go_ret
      exact ⟨_, _, rfl, HOW.out _ HSZ.out, (below_dr8 w).trans ((one_b8 w.drew _).mono (Nat.le_refl _))⟩
/-- one of the rows that are put together -/
def Rcs (ex : Nat → Prop) (g off : Nat) (L : List (Option Addr × Nat × Nat × List Value)) (W : World) : Prop :=
  g < W.heap.size ∧ ∀ j, j < 3 → ∃ x, L[j]? = some x ∧ W.cell? ⟨g, off + j, none⟩ = some (.slice x.1 x.2.1 x.2.2.1) ∧ Rv ex x.1 x.2.1 x.2.2.1 x.2.2.2 W ∧ x.2.1 ≤ 1000 ∧ ∀ u ∈ x.2.2.2, u.oneCell' = true
set_option maxHeartbeats 4000000 in
set_option maxRecDepth 100000 in
theorem tre_concats {ex : Nat → Prop} {g off c : Nat} {L : List (Option Addr × Nat × Nat × List Value)} {W : World} (hL : L.length = 3) (_hc : 3 ≤ c) (h : Rcs ex g off L W) :
    Calls Try.prog 73 #[.slice (some ⟨g, off, none⟩) 3 c] W fun e w' => ∃ a n c', e = .returned (.slice a n c') ∧ w'.ownsRow W.heap.size 9 1 (.slice a n c') n (L.map (fun x => x.2.2.2)).flatten ∧ Below W.heap.size W w' := by
  obtain ⟨i0, hi0, hz0, hz1, hz2⟩ := info_of8 infos8
  have HI0 := Lib.hid hi0; have HZ0 := Lib.hid hz0; have HZ1 := Lib.hid hz1; have HZ2 := Lib.hid hz2
  have HLL := Lib.hid hL
  obtain ⟨hg, hj⟩ := h
  have HJ := Lib.hid hj
  have HST : Hid (∀ j x, L[j]? = some x → sumn L (j + 1) = sumn L j + x.2.1 ∧ vcat L (j + 1) = vcat L j ++ x.2.2.2) := fun j x hx => by
    unfold sumn vcat
    rw [List.take_add_one, hx]
    simp
  have HSB : Hid (∀ j, j ≤ 3 → sumn L j ≤ 1000 * j) := fun j hj3 => by
    induction j with
    | zero => simp [sumn]
    | succ j ih =>
      obtain ⟨x, hx, _, _, hb, _⟩ := HJ.out j (by omega)
      rw [(HST.out j x hx).1]
      have := ih (by omega)
      omega
  clear hi0 hz0 hz1 hz2 hj hL
  go_enter Try.func73, Try.ntmps73
  go_wp2_with fail
  go_loopw [3, 5, 11] (fun sv _ iv wr => ∃ j s : Nat, j ≤ 3 ∧ iv = .int .i64 (j : Int) ∧ sv = .int .i64 (s : Int) ∧ s ≤ 1000 * j ∧ Hid (s = sumn L j) ∧ W = wr) (fun _ _ iv _ => 3 - (ixOf iv).toNat)
  case atStart => exact ⟨0, 0, by omega, rfl, rfl, by omega, rfl, rfl⟩
  case round =>
    obtain ⟨j, s, hj3, rfl, rfl, hsb, HSS, rfl⟩ := hrel
    by_cases hlt : j < 3
    · obtain ⟨⟨xa, xn, xc, xv⟩, hx, hcell, hrv, hxb, hx1⟩ := HJ.out j hlt
      dsimp only at hcell hrv hxb hx1
      have hjI : (j : Int) < 3 := by omega
      obtain ⟨s2, hs2⟩ : ∃ s2, s2 = s + xn := ⟨_, rfl⟩
      have hs2i : (s : Int) + (xn : Int) = (s2 : Int) := by omega
      have hs2b : s2 ≤ 1000 * (j + 1) := by omega
      have HSS2 : Hid (s2 = sumn L (j + 1)) := by show _ = _; rw [(HST.out j _ hx).1, hs2, HSS.out]
      clear hs2 hx hrv hx1
      go_wp2
      go_roundw
      case rel => exact ⟨j + 1, s2, by omega, by go_num, rfl, hs2b, HSS2, trivial⟩
      case measure => simp [ixOf]; omega
    · have hj3' : j = 3 := by omega
      have hjI : ¬ (j : Int) < 3 := by omega
      have hs3 : s ≤ 3000 := by omega
      clear hlt hsb
      go_wp2_with fail
      refine (tre_grows s W (by omega)).mono ?_
      rintro e w1 ⟨ga, gc, rfl, hown, hb1⟩
      have HB1 := Lib.hid hb1
      have HO1 := Lib.hid hown
      clear hb1 hown
      go_wp2_with fail
      go_loopw [6, 8, 27] (fun v _ iv wr => ∃ (j n : Nat) (a : Option Addr) (c : Nat), j ≤ 3 ∧ iv = .int .i64 (j : Int) ∧ v = .slice a n c ∧ n ≤ 1000 * j ∧ Hid (n = sumn L j) ∧ Hid (wr.ownsRow W.heap.size 9 1 (.slice a n c) n (vcat L j)) ∧ Hid (Below W.heap.size W wr)) (fun _ _ iv _ => 3 - (ixOf iv).toNat)
      case atStart => exact ⟨0, 0, ga, gc, by omega, rfl, rfl, by omega, rfl, HO1.out, HB1.out⟩
      case round =>
        clear HO1 HB1
        obtain ⟨k, n, a, c2, hk3, rfl, rfl, hnb, HN, HO, HB⟩ := hrel
        by_cases hlt : k < 3
        · obtain ⟨⟨xa, xn, xc, xv⟩, hx, hcell, hrv, hxb, hx1⟩ := HJ.out k hlt
          dsimp only at hcell hrv hxb hx1
          have hkI : (k : Int) < 3 := by omega
          have hcell2 := (HB.out.cell (p := ⟨g, off + k, none⟩) hg).trans hcell
          have HSRC : Hid (Src Try.prog 1 22 (.slice xa xn xc) xn xv wr) := (hrv.below HB.out).src Try.underlying22 hx1
          have HN2 : Hid (n + xn = sumn L (k + 1) ∧ vcat L (k + 1) = vcat L k ++ xv) := ⟨by rw [(HST.out k _ hx).1, HN.out], (HST.out k _ hx).2⟩
          have hwr := HB.out.size
          have hgr : g < wr.heap.size := by omega
          clear hx hrv hx1 hcell
          go_wp2_with (at_builtin; refine wpList_append_src _ rfl (.tmp 31) (.tmp 32) 22 22 rfl W.heap.size 9 i0 _ 1 16 Try.underlying22 HI0.out HZ0.out HZ1.out HZ2.out rfl (.slice a n c2) n (vcat L k) rfl HO.out _ xn xv rfl HSRC.out ?qa ?qb ?qc ?_)
          case qa => unfold maxLen; omega
          case qb => omega
          case qc => exact hwr
          intro v2 w2 hown2 hgrow2 hv2
          have hb2 : Below W.heap.size W w2 := HB.out.grown hgrow2 hwr (fun k e => (HO.out.lt k e).1)
          rw [← HN2.out.2] at hown2
          obtain ⟨a2, c3, rfl⟩ := own_form8 hown2
          have HO2 := Lib.hid hown2; have HB2 := Lib.hid hb2
          clear hown2 hgrow2 hv2 hb2
          go_wp2
          go_roundw
          case rel => exact ⟨k + 1, n + xn, a2, c3, by omega, by go_num, rfl, by omega, HN2.out.1, HO2.out, HB2.out⟩
          case measure => simp [ixOf]; omega
        · have hk3' : k = 3 := by omega
          have hkI : ¬ (k : Int) < 3 := by omega
          have HF : Hid (wr.ownsRow W.heap.size 9 1 (.slice a n c2) n (L.map (fun x => x.2.2.2)).flatten) := by
            have := HO.out
            rw [hk3'] at this
            unfold vcat at this
            rw [List.take_of_length_le (by have := HLL.out; omega)] at this
            exact this
          clear hlt hnb HO
          go_wp2
          go_ret
          exact ⟨_, _, _, rfl, HF.out, HB.out⟩
/-- one of the rows that are put together -/
def Rci (ex : Nat → Prop) (g off : Nat) (L : List (Option Addr × Nat × Nat × List Value)) (W : World) : Prop :=
  g < W.heap.size ∧ ∀ j, j < 3 → ∃ x, L[j]? = some x ∧ W.cell? ⟨g, off + j, none⟩ = some (.slice x.1 x.2.1 x.2.2.1) ∧ Rv ex x.1 x.2.1 x.2.2.1 x.2.2.2 W ∧ x.2.1 ≤ 1000 ∧ ∀ u ∈ x.2.2.2, u.oneCell' = true
set_option maxHeartbeats 4000000 in
set_option maxRecDepth 100000 in
theorem tre_concati {ex : Nat → Prop} {g off c : Nat} {L : List (Option Addr × Nat × Nat × List Value)} {W : World} (hL : L.length = 3) (_hc : 3 ≤ c) (h : Rci ex g off L W) :
    Calls Try.prog 74 #[.slice (some ⟨g, off, none⟩) 3 c] W fun e w' => ∃ a n c', e = .returned (.slice a n c') ∧ w'.ownsRow W.heap.size 3 1 (.slice a n c') n (L.map (fun x => x.2.2.2)).flatten ∧ Below W.heap.size W w' := by
  obtain ⟨i0, hi0, hz0, hz1, hz2⟩ := info_of8 infoi8
  have HI0 := Lib.hid hi0; have HZ0 := Lib.hid hz0; have HZ1 := Lib.hid hz1; have HZ2 := Lib.hid hz2
  have HLL := Lib.hid hL
  obtain ⟨hg, hj⟩ := h
  have HJ := Lib.hid hj
  have HST : Hid (∀ j x, L[j]? = some x → sumn L (j + 1) = sumn L j + x.2.1 ∧ vcat L (j + 1) = vcat L j ++ x.2.2.2) := fun j x hx => by
    unfold sumn vcat
    rw [List.take_add_one, hx]
    simp
  have HSB : Hid (∀ j, j ≤ 3 → sumn L j ≤ 1000 * j) := fun j hj3 => by
    induction j with
    | zero => simp [sumn]
    | succ j ih =>
      obtain ⟨x, hx, _, _, hb, _⟩ := HJ.out j (by omega)
      rw [(HST.out j x hx).1]
      have := ih (by omega)
      omega
  clear hi0 hz0 hz1 hz2 hj hL
  go_enter Try.func74, Try.ntmps74
  go_wp2_with fail
  go_loopw [3, 5, 11] (fun sv _ iv wr => ∃ j s : Nat, j ≤ 3 ∧ iv = .int .i64 (j : Int) ∧ sv = .int .i64 (s : Int) ∧ s ≤ 1000 * j ∧ Hid (s = sumn L j) ∧ W = wr) (fun _ _ iv _ => 3 - (ixOf iv).toNat)
  case atStart => exact ⟨0, 0, by omega, rfl, rfl, by omega, rfl, rfl⟩
  case round =>
    obtain ⟨j, s, hj3, rfl, rfl, hsb, HSS, rfl⟩ := hrel
    by_cases hlt : j < 3
    · obtain ⟨⟨xa, xn, xc, xv⟩, hx, hcell, hrv, hxb, hx1⟩ := HJ.out j hlt
      dsimp only at hcell hrv hxb hx1
      have hjI : (j : Int) < 3 := by omega
      obtain ⟨s2, hs2⟩ : ∃ s2, s2 = s + xn := ⟨_, rfl⟩
      have hs2i : (s : Int) + (xn : Int) = (s2 : Int) := by omega
      have hs2b : s2 ≤ 1000 * (j + 1) := by omega
      have HSS2 : Hid (s2 = sumn L (j + 1)) := by show _ = _; rw [(HST.out j _ hx).1, hs2, HSS.out]
      clear hs2 hx hrv hx1
      go_wp2
      go_roundw
      case rel => exact ⟨j + 1, s2, by omega, by go_num, rfl, hs2b, HSS2, trivial⟩
      case measure => simp [ixOf]; omega
    · have hj3' : j = 3 := by omega
      have hjI : ¬ (j : Int) < 3 := by omega
      have hs3 : s ≤ 3000 := by omega
      clear hlt hsb
      go_wp2_with fail
      refine (tre_growi s W (by omega)).mono ?_
      rintro e w1 ⟨ga, gc, rfl, hown, hb1⟩
      have HB1 := Lib.hid hb1
      have HO1 := Lib.hid hown
      clear hb1 hown
      go_wp2_with fail
      go_loopw [6, 8, 27] (fun v _ iv wr => ∃ (j n : Nat) (a : Option Addr) (c : Nat), j ≤ 3 ∧ iv = .int .i64 (j : Int) ∧ v = .slice a n c ∧ n ≤ 1000 * j ∧ Hid (n = sumn L j) ∧ Hid (wr.ownsRow W.heap.size 3 1 (.slice a n c) n (vcat L j)) ∧ Hid (Below W.heap.size W wr)) (fun _ _ iv _ => 3 - (ixOf iv).toNat)
      case atStart => exact ⟨0, 0, ga, gc, by omega, rfl, rfl, by omega, rfl, HO1.out, HB1.out⟩
      case round =>
        clear HO1 HB1
        obtain ⟨k, n, a, c2, hk3, rfl, rfl, hnb, HN, HO, HB⟩ := hrel
        by_cases hlt : k < 3
        · obtain ⟨⟨xa, xn, xc, xv⟩, hx, hcell, hrv, hxb, hx1⟩ := HJ.out k hlt
          dsimp only at hcell hrv hxb hx1
          have hkI : (k : Int) < 3 := by omega
          have hcell2 := (HB.out.cell (p := ⟨g, off + k, none⟩) hg).trans hcell
          have HSRC : Hid (Src Try.prog 1 45 (.slice xa xn xc) xn xv wr) := (hrv.below HB.out).src Try.underlying45 hx1
          have HN2 : Hid (n + xn = sumn L (k + 1) ∧ vcat L (k + 1) = vcat L k ++ xv) := ⟨by rw [(HST.out k _ hx).1, HN.out], (HST.out k _ hx).2⟩
          have hwr := HB.out.size
          have hgr : g < wr.heap.size := by omega
          clear hx hrv hx1 hcell
          go_wp2_with (at_builtin; refine wpList_append_src _ rfl (.tmp 31) (.tmp 32) 45 45 rfl W.heap.size 3 i0 _ 1 8 Try.underlying45 HI0.out HZ0.out HZ1.out HZ2.out rfl (.slice a n c2) n (vcat L k) rfl HO.out _ xn xv rfl HSRC.out ?qa ?qb ?qc ?_)
          case qa => unfold maxLen; omega
          case qb => omega
          case qc => exact hwr
          intro v2 w2 hown2 hgrow2 hv2
          have hb2 : Below W.heap.size W w2 := HB.out.grown hgrow2 hwr (fun k e => (HO.out.lt k e).1)
          rw [← HN2.out.2] at hown2
          obtain ⟨a2, c3, rfl⟩ := own_form8 hown2
          have HO2 := Lib.hid hown2; have HB2 := Lib.hid hb2
          clear hown2 hgrow2 hv2 hb2
          go_wp2
          go_roundw
          case rel => exact ⟨k + 1, n + xn, a2, c3, by omega, by go_num, rfl, by omega, HN2.out.1, HO2.out, HB2.out⟩
          case measure => simp [ixOf]; omega
        · have hk3' : k = 3 := by omega
          have hkI : ¬ (k : Int) < 3 := by omega
          have HF : Hid (wr.ownsRow W.heap.size 3 1 (.slice a n c2) n (L.map (fun x => x.2.2.2)).flatten) := by
            have := HO.out
            rw [hk3'] at this
            unfold vcat at this
            rw [List.take_of_length_le (by have := HLL.out; omega)] at this
            exact this
          clear hlt hnb HO
          go_wp2
          go_ret
          exact ⟨_, _, _, rfl, HF.out, HB.out⟩
/-- one of the rows that are put together -/
def Rcp (ex : Nat → Prop) (g off : Nat) (L : List (Option Addr × Nat × Nat × List Value)) (W : World) : Prop :=
  g < W.heap.size ∧ ∀ j, j < 3 → ∃ x, L[j]? = some x ∧ W.cell? ⟨g, off + j, none⟩ = some (.slice x.1 x.2.1 x.2.2.1) ∧ Rv ex x.1 x.2.1 x.2.2.1 x.2.2.2 W ∧ x.2.1 ≤ 1000 ∧ ∀ u ∈ x.2.2.2, u.oneCell' = true
set_option maxHeartbeats 4000000 in
set_option maxRecDepth 100000 in
theorem tre_concatp {ex : Nat → Prop} {g off c : Nat} {L : List (Option Addr × Nat × Nat × List Value)} {W : World} (hL : L.length = 3) (_hc : 3 ≤ c) (h : Rcp ex g off L W) :
    Calls Try.prog 72 #[.slice (some ⟨g, off, none⟩) 3 c] W fun e w' => ∃ a n c', e = .returned (.slice a n c') ∧ w'.ownsRow W.heap.size 72 1 (.slice a n c') n (L.map (fun x => x.2.2.2)).flatten ∧ Below W.heap.size W w' := by
  obtain ⟨i0, hi0, hz0, hz1, hz2⟩ := info_of8 infop8
  have HI0 := Lib.hid hi0; have HZ0 := Lib.hid hz0; have HZ1 := Lib.hid hz1; have HZ2 := Lib.hid hz2
  have HLL := Lib.hid hL
  obtain ⟨hg, hj⟩ := h
  have HJ := Lib.hid hj
  have HST : Hid (∀ j x, L[j]? = some x → sumn L (j + 1) = sumn L j + x.2.1 ∧ vcat L (j + 1) = vcat L j ++ x.2.2.2) := fun j x hx => by
    unfold sumn vcat
    rw [List.take_add_one, hx]
    simp
  have HSB : Hid (∀ j, j ≤ 3 → sumn L j ≤ 1000 * j) := fun j hj3 => by
    induction j with
    | zero => simp [sumn]
    | succ j ih =>
      obtain ⟨x, hx, _, _, hb, _⟩ := HJ.out j (by omega)
      rw [(HST.out j x hx).1]
      have := ih (by omega)
      omega
  clear hi0 hz0 hz1 hz2 hj hL
  go_enter Try.func72, Try.ntmps72
  go_wp2_with fail
  go_loopw [3, 5, 11] (fun sv _ iv wr => ∃ j s : Nat, j ≤ 3 ∧ iv = .int .i64 (j : Int) ∧ sv = .int .i64 (s : Int) ∧ s ≤ 1000 * j ∧ Hid (s = sumn L j) ∧ W = wr) (fun _ _ iv _ => 3 - (ixOf iv).toNat)
  case atStart => exact ⟨0, 0, by omega, rfl, rfl, by omega, rfl, rfl⟩
  case round =>
    obtain ⟨j, s, hj3, rfl, rfl, hsb, HSS, rfl⟩ := hrel
    by_cases hlt : j < 3
    · obtain ⟨⟨xa, xn, xc, xv⟩, hx, hcell, hrv, hxb, hx1⟩ := HJ.out j hlt
      dsimp only at hcell hrv hxb hx1
      have hjI : (j : Int) < 3 := by omega
      obtain ⟨s2, hs2⟩ : ∃ s2, s2 = s + xn := ⟨_, rfl⟩
      have hs2i : (s : Int) + (xn : Int) = (s2 : Int) := by omega
      have hs2b : s2 ≤ 1000 * (j + 1) := by omega
      have HSS2 : Hid (s2 = sumn L (j + 1)) := by show _ = _; rw [(HST.out j _ hx).1, hs2, HSS.out]
      clear hs2 hx hrv hx1
      go_wp2
      go_roundw
      case rel => exact ⟨j + 1, s2, by omega, by go_num, rfl, hs2b, HSS2, trivial⟩
      case measure => simp [ixOf]; omega
    · have hj3' : j = 3 := by omega
      have hjI : ¬ (j : Int) < 3 := by omega
      have hs3 : s ≤ 3000 := by omega
      clear hlt hsb
      go_wp2_with fail
      refine (tre_growp s W (by omega)).mono ?_
      rintro e w1 ⟨ga, gc, rfl, hown, hb1⟩
      have HB1 := Lib.hid hb1
      have HO1 := Lib.hid hown
      clear hb1 hown
      go_wp2_with fail
      go_loopw [6, 8, 27] (fun v _ iv wr => ∃ (j n : Nat) (a : Option Addr) (c : Nat), j ≤ 3 ∧ iv = .int .i64 (j : Int) ∧ v = .slice a n c ∧ n ≤ 1000 * j ∧ Hid (n = sumn L j) ∧ Hid (wr.ownsRow W.heap.size 72 1 (.slice a n c) n (vcat L j)) ∧ Hid (Below W.heap.size W wr)) (fun _ _ iv _ => 3 - (ixOf iv).toNat)
      case atStart => exact ⟨0, 0, ga, gc, by omega, rfl, rfl, by omega, rfl, HO1.out, HB1.out⟩
      case round =>
        clear HO1 HB1
        obtain ⟨k, n, a, c2, hk3, rfl, rfl, hnb, HN, HO, HB⟩ := hrel
        by_cases hlt : k < 3
        · obtain ⟨⟨xa, xn, xc, xv⟩, hx, hcell, hrv, hxb, hx1⟩ := HJ.out k hlt
          dsimp only at hcell hrv hxb hx1
          have hkI : (k : Int) < 3 := by omega
          have hcell2 := (HB.out.cell (p := ⟨g, off + k, none⟩) hg).trans hcell
          have HSRC : Hid (Src Try.prog 1 87 (.slice xa xn xc) xn xv wr) := (hrv.below HB.out).src Try.underlying87 hx1
          have HN2 : Hid (n + xn = sumn L (k + 1) ∧ vcat L (k + 1) = vcat L k ++ xv) := ⟨by rw [(HST.out k _ hx).1, HN.out], (HST.out k _ hx).2⟩
          have hwr := HB.out.size
          have hgr : g < wr.heap.size := by omega
          clear hx hrv hx1 hcell
          go_wp2_with (at_builtin; refine wpList_append_src _ rfl (.tmp 31) (.tmp 32) 87 87 rfl W.heap.size 72 i0 _ 1 8 Try.underlying87 HI0.out HZ0.out HZ1.out HZ2.out rfl (.slice a n c2) n (vcat L k) rfl HO.out _ xn xv rfl HSRC.out ?qa ?qb ?qc ?_)
          case qa => unfold maxLen; omega
          case qb => omega
          case qc => exact hwr
          intro v2 w2 hown2 hgrow2 hv2
          have hb2 : Below W.heap.size W w2 := HB.out.grown hgrow2 hwr (fun k e => (HO.out.lt k e).1)
          rw [← HN2.out.2] at hown2
          obtain ⟨a2, c3, rfl⟩ := own_form8 hown2
          have HO2 := Lib.hid hown2; have HB2 := Lib.hid hb2
          clear hown2 hgrow2 hv2 hb2
          go_wp2
          go_roundw
          case rel => exact ⟨k + 1, n + xn, a2, c3, by omega, by go_num, rfl, by omega, HN2.out.1, HO2.out, HB2.out⟩
          case measure => simp [ixOf]; omega
        · have hk3' : k = 3 := by omega
          have hkI : ¬ (k : Int) < 3 := by omega
          have HF : Hid (wr.ownsRow W.heap.size 72 1 (.slice a n c2) n (L.map (fun x => x.2.2.2)).flatten) := by
            have := HO.out
            rw [hk3'] at this
            unfold vcat at this
            rw [List.take_of_length_le (by have := HLL.out; omega)] at this
            exact this
          clear hlt hnb HO
          go_wp2
          go_ret
          exact ⟨_, _, _, rfl, HF.out, HB.out⟩
end Go.Proofs.Ytdchapcpimhjaaa
