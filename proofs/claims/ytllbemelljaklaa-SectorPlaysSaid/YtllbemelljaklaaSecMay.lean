/- Layer 6: an array of slices of bytes in memory (what stood at each place), for SectorTears. -/
import Derived.Test.YtllbemelljaklaaSecW0
namespace Go.Proofs.Ytllbemelljaklaa
open Go.RowKit

/-- the array in block gm, the slices v, their bytes ms -/
structure My (B gm : Nat) (ms : List (List UInt8)) (v : Nat → Value) (W : World) : Prop where
  len : ms.length = 64
  cell : ∀ k, k < 64 → W.cell? ⟨gm, k, none⟩ = some (v k)
  own : ∀ k, k < 64 → W.ownsRow B 5 1 (v k) (ms.getD k []).length (yc (ms.getD k []))
  ne : ∀ k, k < 64 → (v k).ownBlock ≠ some gm
  ap : ∀ k j, k < 64 → j < 64 → k ≠ j → ∀ b, (v k).ownBlock = some b → (v j).ownBlock ≠ some b
  fz : ∀ o, W.frozen? ⟨gm, o, none⟩ = false
  lt : gm < W.heap.size
  ge : B ≤ gm
/-- where they lie -/
def Mf (gm : Nat) (v : Nat → Value) : Nat → Prop := fun k => k = gm ∨ ∃ j, j < 64 ∧ (v j).ownBlock = some k
theorem My.mf_lt {B gm : Nat} {ms : List (List UInt8)} {v : Nat → Value} {W : World} (h : My B gm ms v W) : ∀ k, Mf gm v k → k < W.heap.size := by
  intro k hk
  rcases hk with rfl | ⟨j, hj, e⟩
  · exact h.lt
  · exact ((h.own j hj).lt k e).2
theorem My.mf_ge {B gm : Nat} {ms : List (List UInt8)} {v : Nat → Value} {W : World} (h : My B gm ms v W) : ∀ k, Mf gm v k → B ≤ k := by
  intro k hk
  rcases hk with rfl | ⟨j, hj, e⟩
  · exact h.ge
  · exact ((h.own j hj).lt k e).1
theorem own_keepO {w w' : World} {B : Nat} {e : TypeId} {size n : Nat} {v : Value} {xs : List Value} {p : Nat → Prop} (h : w.ownsRow B e size v n xs) (ho : Only p w w') (hne : ∀ b, v.ownBlock = some b → ¬ p b) : w'.ownsRow B e size v n xs := by
  obtain ⟨h1, h2⟩ := h
  refine ⟨h1, ?_⟩
  rcases h2 with h2 | ⟨b, cap, cur, hv, hB, hg, rest⟩
  · exact .inl h2
  · exact .inr ⟨b, cap, cur, hv, hB, by rw [ho.block b (heap_lt hg) (hne b (by rw [hv]; rfl))]; exact hg, rest⟩
theorem My.keep {B gm : Nat} {ms : List (List UInt8)} {v : Nat → Value} {W W' : World} {p : Nat → Prop} (h : My B gm ms v W) (ho : Only p W W') (hp : ∀ k, Mf gm v k → ¬ p k) : My B gm ms v W' := by
  have hb := ho.block gm h.lt (hp gm (.inl rfl))
  exact ⟨h.len, fun k hk => by rw [← h.cell k hk]; simp [World.cell?, hb], fun k hk => own_keepO (h.own k hk) ho (fun b e => hp b (.inr ⟨k, hk, e⟩)), h.ne, h.ap,
    fun o => by rw [← h.fz o]; simp [World.frozen?, hb], by have := ho.size; have := h.lt; omega, h.ge⟩
theorem My.below {B gm : Nat} {ms : List (List UInt8)} {v : Nat → Value} {W W' : World} (h : My B gm ms v W) (hb : Below W.heap.size W W') : My B gm ms v W' :=
  h.keep (only_of hb) (fun k hk hp => by have := h.mf_lt k hk; omega)
theorem getD_setL (ms : List (List UInt8)) (j k : Nat) (l : List UInt8) (hj : j < ms.length) : (ms.set j l).getD k [] = if k = j then l else ms.getD k [] := by
  rw [List.getD, List.getD, List.getElem?_set]
  by_cases h : j = k
  · subst h; rw [if_pos rfl, if_pos rfl, if_pos hj]; rfl
  · rw [if_neg h, if_neg (fun e => h e.symm)]
/-- a new slice stored -/
theorem My.upd {B gm : Nat} {ms : List (List UInt8)} {v : Nat → Value} {W W2 : World} (h : My B gm ms v W) {j : Nat} (hj : j < 64) (ho : Only (fun k => (v j).ownBlock = some k) W W2) {v' : Value} {l : List UInt8} (hv : W2.ownsRow B 5 1 v' l.length (yc l)) (hn : v'.ownBlock = (v j).ownBlock ∨ ∃ b, v'.ownBlock = some b ∧ W.heap.size ≤ b) :
    My B gm (ms.set j l) (fun i => if i = j then v' else v i) (W2.setCell ⟨gm, j, none⟩ v') ∧ ∀ k, Mf gm (fun i => if i = j then v' else v i) k → Mf gm v k ∨ W.heap.size ≤ k := by
  have hpg : ¬ ((v j).ownBlock = some gm) := h.ne j hj
  have hb := ho.block gm h.lt hpg
  have hc : ∀ k, W2.cell? ⟨gm, k, none⟩ = W.cell? ⟨gm, k, none⟩ := fun k => by simp [World.cell?, hb]
  have hf : ∀ k, W2.frozen? ⟨gm, k, none⟩ = W.frozen? ⟨gm, k, none⟩ := fun k => by simp [World.frozen?, hb]
  have hne' : v'.ownBlock ≠ some gm := by
    rcases hn with e | ⟨b, e, hb2⟩
    · rw [e]; exact hpg
    · rw [e]; intro e2; injection e2 with e2; have := h.lt; omega
  have hset : ∀ {x : Value} {n : Nat} {xs : List Value}, W2.ownsRow B 5 1 x n xs → x.ownBlock ≠ some gm → (W2.setCell ⟨gm, j, none⟩ v').ownsRow B 5 1 x n xs := fun hx hxn => own_set hx v' hxn
  refine ⟨⟨by rw [List.length_set]; exact h.len, fun k hk => ?_, fun k hk => ?_, fun k hk => ?_, fun k i hk hi hki b e => ?_, fun o => ?_, ?_, h.ge⟩, fun k hk => ?_⟩
  · by_cases e : k = j
    · subst e
      rw [World.cell?_setCell_same _ _ _ ((hc k).trans (h.cell k hk))]; simp
    · rw [cell_keep _ _ _ _ _ (fun e2 => e e2.symm), hc k, h.cell k hk]; simp [e]
  · rw [getD_setL ms j k l (by rw [h.len]; exact hj)]
    by_cases e : k = j
    · subst e; simp only [if_true]; exact hset hv hne'
    · simp only [if_neg e]
      exact hset (own_keepO (h.own k hk) ho (fun b e2 e3 => h.ap k j hk hj e b e2 e3)) (h.ne k hk)
  · by_cases e : k = j
    · subst e; simp only [if_true]; exact hne'
    · simp only [if_neg e]; exact h.ne k hk
  · by_cases ek : k = j
    · by_cases ei : i = j
      · exact absurd (ek.trans ei.symm) hki
      · simp only [if_pos ek] at e
        simp only [if_neg ei]
        rcases hn with e2 | ⟨b2, e2, hb2⟩
        · rw [e2] at e; exact h.ap j i hj hi (fun e3 => ei e3.symm) b e
        · rw [e2] at e; injection e with e
          intro e3
          have := ((h.own i hi).lt b e3).2
          omega
    · simp only [if_neg ek] at e
      by_cases ei : i = j
      · simp only [if_pos ei]
        rcases hn with e2 | ⟨b2, e2, hb2⟩
        · rw [e2]; exact h.ap k j hk hj ek b e
        · rw [e2]; intro e3; injection e3 with e3
          have := ((h.own k hk).lt b e).2
          omega
      · simp only [if_neg ei]; exact h.ap k i hk hi hki b e
  · have := (hf o).trans (h.fz o); simpa using this
  · have := ho.size; have := h.lt; simp; omega
  · rcases hk with rfl | ⟨i, hi, e⟩
    · exact .inl (.inl rfl)
    · by_cases ei : i = j
      · simp only [if_pos ei] at e
        rcases hn with e2 | ⟨b2, e2, hb2⟩
        · rw [e2] at e; exact .inl (.inr ⟨j, hj, e⟩)
        · rw [e2] at e; injection e with e; subst e; exact .inr hb2
      · simp only [if_neg ei] at e; exact .inl (.inr ⟨i, hi, e⟩)
theorem My.start {B : Nat} {w : World} {ty : TypeId} {cs : Array Value} (hcs : cs = Array.replicate 64 (.slice none 0 0)) (hB : B ≤ w.heap.size) : My B w.heap.size (List.replicate 64 []) (fun _ => .slice none 0 0) (w.alloc (.cells cs ty)) := by
  subst hcs
  refine ⟨List.length_replicate, fun k hk => ?_, fun k hk => ?_, fun k _ e => ?_, fun k j _ _ _ b e => ?_, fun o => Lib.frozen_of_heap (heap_alloc_new w _) o, by simp, hB⟩
  · rw [Lib.cell_of_heap (heap_alloc_new w _)]; rw [Array.getElem?_replicate, if_pos hk]
  · rw [show (List.replicate 64 ([] : List UInt8)).getD k [] = [] by rw [List.getD, List.getElem?_replicate, if_pos hk]; rfl]; exact World.ownsRow_nil _ _ _ _
  · cases e
  · cases e
theorem mf_start {gm : Nat} : ∀ k, Mf gm (fun _ => Value.slice none 0 0) k → k = gm := by
  intro k hk
  rcases hk with h | ⟨_, _, e⟩
  · exact h
  · cases e
/-- a device and the array, apart from each other -/
structure Dm (Dev : Nat → Sm.Dv → (Nat → Prop) → World → Prop) (B g gm : Nat) (d : Sm.Dv) (F : Nat → Prop) (ms : List (List UInt8)) (v : Nat → Value) (W : World) : Prop where
  d : Dev g d F W
  m : My B gm ms v W
  o : ∀ k, F k → B ≤ k
  dis : ∀ k, F k → ¬ Mf gm v k
theorem Dm.did {Dev : Nat → Sm.Dv → (Nat → Prop) → World → Prop} {B g gm : Nat} {d d' : Sm.Dv} {F : Nat → Prop} {ms : List (List UInt8)} {v : Nat → Value} {w W W' : World} (h : Dm Dev B g gm d F ms v W) (hd : Did Dev g F d' W W') (hw : Below B w W) (hB : B ≤ W.heap.size) : ∃ F', Hid (Dm Dev B g gm d' F' ms v W') ∧ Hid (Below B w W') := by
  obtain ⟨F', h1, h2, h3⟩ := hd
  refine ⟨F', ⟨h1, h.m.keep h2 (fun k hk hp => h.dis k hp hk), fun k hk => ?_, fun k hk hp => ?_⟩, hw.trans (only_bel h2 hB (fun k hk hp => by have := h.o k hp; omega))⟩
  · rcases h3 k hk with h4 | h4
    · exact h.o k h4
    · omega
  · rcases h3 k hk with h4 | h4
    · exact h.dis k h4 hp
    · have := h.m.mf_lt k hp; omega
section
variable {Dev : Nat → Sm.Dv → (Nat → Prop) → World → Prop} (V : SecCon Dev)
include V
theorem Dm.below {B g gm : Nat} {d : Sm.Dv} {F : Nat → Prop} {ms : List (List UInt8)} {v : Nat → Value} {W W' : World} (h : Dm Dev B g gm d F ms v W) (hb : Below W.heap.size W W') : Dm Dev B g gm d F ms v W' := ⟨V.below h.d hb, h.m.below hb, h.o, h.dis⟩
/-- behind a new slice -/
theorem Dm.upd {B g gm : Nat} {d : Sm.Dv} {F : Nat → Prop} {ms : List (List UInt8)} {v : Nat → Value} {W W2 : World} (h : Dm Dev B g gm d F ms v W) {j : Nat} (hj : j < 64) (ho : Only (fun k => (v j).ownBlock = some k) W W2) {v' : Value} {l : List UInt8} (hv : W2.ownsRow B 5 1 v' l.length (yc l)) (hn : v'.ownBlock = (v j).ownBlock ∨ ∃ b, v'.ownBlock = some b ∧ W.heap.size ≤ b) :
    ∃ v2, Dm Dev B g gm d F (ms.set j l) v2 (W2.setCell ⟨gm, j, none⟩ v') ∧ (∀ k, Mf gm v2 k → Mf gm v k ∨ W.heap.size ≤ k) ∧ Only (Mf gm v) W (W2.setCell ⟨gm, j, none⟩ v') := by
  obtain ⟨h1, h2⟩ := h.m.upd hj ho hv hn
  have o2 : Only (Mf gm v) W (W2.setCell ⟨gm, j, none⟩ v') := (ho.mono (fun k _ e => .inr ⟨j, hj, e⟩)).setCell (q := ⟨gm, j, none⟩) (.inl (.inl rfl)) _
  refine ⟨_, ⟨V.keep h.d o2 h.dis, h1, h.o, fun k hk hp => ?_⟩, h2, o2⟩
  rcases h2 k hp with h4 | h4
  · exact h.dis k hk h4
  · have := V.lt h.d k hk; omega
end
theorem yt_only {v : Value} {l : List UInt8} {w w' : World} {p : Nat → Prop} (h : Yt v l w) (ho : Only p w w') (hne : ∀ b, v.ownBlock = some b → ¬ p b) : Yt v l w' := by
  rcases h with h | ⟨g, off, cap, hv, hc, hg, hcell⟩
  · exact .inl h
  · have hb := ho.block g hg (hne g (by rw [hv]; rfl))
    exact .inr ⟨g, off, cap, hv, hc, by have := ho.size; omega, fun j hj => by rw [← hcell j hj]; simp [World.cell?, hb]⟩
theorem yt_blk {v : Value} {l : List UInt8} {w : World} (h : Yt v l w) (h0 : 0 < l.length) : ∀ b, v.ownBlock = some b → b < w.heap.size := by
  intro b e
  rcases h with ⟨_, _, _, h⟩ | ⟨g, off, cap, hv, hc, hg, hcell⟩
  · rw [h] at h0; simp at h0
  · rw [hv] at e; injection e with e; subst e; exact hg
/-- the bytes that are read lie apart from the array -/
structure Xs (gm : Nat) (v : Nat → Value) (x : Value) (X : List UInt8) (W : World) : Prop where
  y : Yt x X W
  ap : ∀ b, x.ownBlock = some b → ¬ Mf gm v b
theorem Xs.at {gm : Nat} {v : Nat → Value} {a : Option Addr} {n c : Nat} {X : List UInt8} {W : World} (h : Xs gm v (.slice a n c) X W) {k : Nat} (hk : k < X.length) : ∃ g off, a = some ⟨g, off, none⟩ ∧ n ≤ c ∧ n = X.length ∧ W.cell? ⟨g, off + k, none⟩ = some (.int .u8 ((X.getD k 0).toNat : Int)) := by
  rcases h.y with ⟨_, _, _, e⟩ | ⟨g, off, cap, e, hc, hg, hcell⟩
  · rw [e] at hk; simp at hk
  · injection e with e1 e2 e3
    exact ⟨g, off, e1, by omega, e2, hcell k hk⟩
theorem Xs.step {gm : Nat} {v v2 : Nat → Value} {x : Value} {X : List UInt8} {W W2 : World} (h : Xs gm v x X W) (h0 : 0 < X.length) (h2 : ∀ k, Mf gm v2 k → Mf gm v k ∨ W.heap.size ≤ k) (ho : Only (Mf gm v) W W2) : Xs gm v2 x X W2 :=
  ⟨yt_only h.y ho h.ap, fun b e hm => by
    rcases h2 b hm with h3 | h3
    · exact h.ap b e h3
    · have := yt_blk h.y h0 b e; omega⟩
theorem own_litw (w : World) (x : UInt8) (B : Nat) (hB : B ≤ w.heap.size) : (w.alloc (.cells #[.int .u8 (x.toNat : Int)] 5)).ownsRow B 5 1 (.slice (some ⟨w.heap.size, 0, none⟩) 1 1) [x].length (yc [x]) :=
  ⟨rfl, .inr ⟨w.heap.size, 1, #[.int .u8 (x.toNat : Int)], rfl, hB, heap_alloc_new w _, Nat.le_refl _, by unfold maxLen; decide, rfl, rfl⟩⟩
end Go.Proofs.Ytllbemelljaklaa
