/- Package sector: New. -/
import Derived.Test.YtllbemelljaklaaSecC2
import Derived.OwnWalk
import Derived.BigRegion
import Derived.Laws.OwnMore
namespace Go.Proofs.Ytllbemelljaklaa
open Go.RowKit

theorem infoB : (Try.prog.info? 62).map (fun i => (i.zero, i.size, i.bytes)) = some (some (.agg (Array.replicate 64 (.int .u8 0))), 64, 64) := by kernel_rfl
theorem made_get (C : Array Value) (n j : Nat) (hC : C = madeCells (Array.replicate 64 (Value.int .u8 0)) n) (hj : j < n) : C[j]? = some (.int .u8 0) := by
  subst hC
  unfold madeCells
  rw [Array.getElem?_map, Array.getElem?_range]
  simp [hj]
  have : j % 64 < 64 := Nat.mod_lt _ (by decide)
  simp [this]
theorem below_drew0 (w : World) : Below w.heap.size w w.drew := ⟨rfl, rfl, rfl, Nat.le_refl _, fun _ _ => rfl⟩
/-- a new row of sectors -/
theorem rk_new {w : World} {g n : Nat} {C : Array Value} {t : TypeId} (hC : C = madeCells (Array.replicate 64 (Value.int .u8 0)) (n * 64)) (hg : w.heap[g]? = some (.cells C t (0, 0))) : Rk g (List.replicate n (Sm.full [])) w := by
  have h0 : yc (Sm.full []) = List.replicate 64 (Value.int .u8 0) := rfl
  refine ⟨fun i hi j v hv => ?_, fun i hi j hj => ?_, heap_lt hg⟩
  · rw [List.length_replicate] at hi
    rw [List.getD, List.getElem?_replicate, if_pos hi] at hv
    simp only [Option.getD_some] at hv
    rw [h0, List.getElem?_replicate] at hv
    split at hv
    · rename_i hj
      rw [Lib.cell_of_heap hg, made_get C (n * 64) _ hC (by omega)]
      exact hv
    · cases hv
  · rw [List.length_replicate] at hi
    exact ⟨by rw [Lib.cell_of_heap hg, made_get C (n * 64) _ hC (by omega)]; rfl, Lib.frozen_of_heap hg _⟩
theorem dk_new {w : World} {g kb nb n : Nat} {C : Array Value} {t t2 : TypeId} (h0 : 0 < n) (hC : C = madeCells (Array.replicate 64 (Value.int .u8 0)) (n * 64)) (hk : w.heap[kb]? = some (.cells C t (0, 0))) (hn : w.heap[nb]? = some (.cells C t (0, 0)))
    (hg : w.heap[g]? = some (.cells #[.slice (some ⟨kb, 0, none⟩) n n, .slice (some ⟨nb, 0, none⟩) n n, .slice none 0 0, .int .i64 0, .bool false, .int .i64 0] t2 (0, 0))) (e1 : g ≠ kb) (e2 : g ≠ nb) (e3 : kb ≠ nb) :
    Dk g kb nb none 0 false 0 (List.replicate n (Sm.full [])) (Sm.new n) w := by
  have hl : (Sm.new n).kept.length = n := List.length_replicate
  refine ⟨by rw [Lib.cell_of_heap hg, hl]; rfl, by rw [Lib.cell_of_heap hg, hl]; rfl, by rw [Lib.cell_of_heap hg]; rfl, by rw [Lib.cell_of_heap hg]; rfl, by rw [Lib.cell_of_heap hg]; rfl, by rw [Lib.cell_of_heap hg]; rfl,
    fun o => Lib.frozen_of_heap hg o, heap_lt hg, rk_new hC hk, rk_new hC hn, rfl, (fun s hs => by rw [(List.mem_replicate.1 hs).2]; exact Sm.full_len (by simp)), World.ownsRow_nil _ _ _ _, Sm.ok_new n, fun _ => rfl, (fun e => by cases e), e1, e2, e3, (fun a e => by cases e), by rw [hl]; exact h0⟩
set_option maxHeartbeats 2000000 in
theorem sec_new (n : Nat) (W : World) (h1 : 1 ≤ n) (h2 : n ≤ 65536) : Calls Try.prog 8 #[.int .i64 (n : Int)] W fun e w' => ∃ g kb nb, e = .returned (.tuple #[.pointer (some ⟨g, 0, none⟩), .int .i64 0]) ∧ Dk g kb nb none 0 false 0 (List.replicate n (Sm.full [])) (Sm.new n) w' ∧ (∀ k, Kf g kb nb none k → W.heap.size ≤ k) ∧ Below W.heap.size W w' := by
  obtain ⟨i0, hi0, hz0, hz1, hz2⟩ := info_of infoB
  obtain ⟨C, hC⟩ : ∃ C, C = madeCells (Array.replicate 64 (Value.int .u8 0)) (n * 64) := ⟨_, rfl⟩
  have HMK : ∀ w, (Instr.makeSlice 56 (.int .i64 (n : Int)) (.int .i64 (n : Int))).run Try.prog w = .ok (.slice (some ⟨w.heap.size, 0, none⟩) n n) (w.alloc (.cells C 62)) := fun w => by
    have h := run_make (P := Try.prog) w 56 62 i0 _ Try.underlying56 hi0 hz0 .i64 .i64 (n : Int) (n : Int) (by omega) (Int.le_refl _) (by rw [hz2]; omega) (by omega)
    rw [hz1] at h
    rw [h, hC]
    rfl
  have HC := Lib.hid hC
  have q1 : decide ((n : Int) < 1) = false := by simp; omega
  have q2 : decide ((65536 : Int) < (n : Int)) = false := by simp; omega
  clear hi0 hz0 hz1 hz2 hC
  go_enter Try.func8, Try.ntmps8
  go_upto_region 3 with (fail)
  go_region
  all_goals go_wp2
  all_goals go_ret2
  · have hb : Below W.heap.size W _ := ((((Below.refl _ W).alloc (Nat.le_refl _) (.cells C 62)).alloc (by simp) (.cells C 62)).alloc (by simp; omega) (.cells #[.slice (some ⟨W.heap.size, 0, none⟩) n n, .slice (some ⟨W.heap.size + 1, 0, none⟩) n n, .slice none 0 0, .int .i64 0, .bool false, .int .i64 0] 59)).trans ((below_drew0 _).mono (by simp; omega))
    refine ⟨_, W.heap.size, W.heap.size + 1, rfl, dk_new (by omega) HC.out (t := 62) (t2 := 59) ?_ ?_ ?_ (by omega) (by omega) (by omega), ?_, hb⟩
    · rw [heap_drew, Below.heap_alloc _ _ _ (by simp; omega), Below.heap_alloc _ _ _ (by simp), heap_alloc_new]
    · rw [heap_drew, Below.heap_alloc _ _ _ (by simp), show W.heap.size + 1 = (W.alloc (.cells C 62)).heap.size by simp, heap_alloc_new]
    · rw [heap_drew, show W.heap.size + 1 + 1 = ((W.alloc (.cells C 62)).alloc (.cells C 62)).heap.size by simp, heap_alloc_new]
    · intro k hk
      rcases hk with rfl | rfl | rfl | ⟨_, e, _⟩
      · omega
      · omega
      · omega
      · cases e
  · have hb : Below W.heap.size W _ := ((((Below.refl _ W).alloc (Nat.le_refl _) (.cells C 62)).alloc (by simp) (.cells C 62)).alloc (by simp; omega) (.cells #[.slice (some ⟨W.heap.size + 1, 0, none⟩) n n, .slice (some ⟨W.heap.size, 0, none⟩) n n, .slice none 0 0, .int .i64 0, .bool false, .int .i64 0] 59)).trans ((below_drew0 _).mono (by simp; omega))
    refine ⟨_, W.heap.size + 1, W.heap.size, rfl, dk_new (by omega) HC.out (t := 62) (t2 := 59) ?_ ?_ ?_ (by omega) (by omega) (by omega), ?_, hb⟩
    · rw [heap_drew, Below.heap_alloc _ _ _ (by simp), show W.heap.size + 1 = (W.alloc (.cells C 62)).heap.size by simp, heap_alloc_new]
    · rw [heap_drew, Below.heap_alloc _ _ _ (by simp; omega), Below.heap_alloc _ _ _ (by simp), heap_alloc_new]
    · rw [heap_drew, show W.heap.size + 1 + 1 = ((W.alloc (.cells C 62)).alloc (.cells C 62)).heap.size by simp, heap_alloc_new]
    · intro k hk
      rcases hk with rfl | rfl | rfl | ⟨_, e, _⟩
      · omega
      · omega
      · omega
      · cases e
set_option maxHeartbeats 1000000 in
theorem sec_bad (n : Int) (W : World) (h : n < 1 ∨ 65536 < n) : Calls Try.prog 8 #[.int .i64 n] W fun e w' => e = .returned (.tuple #[.pointer none, .int .i64 2]) ∧ Below W.heap.size W w' := by
  by_cases h1 : n < 1
  · have q1 : decide (n < 1) = true := by simpa using h1
    clear h
    go_enter Try.func8, Try.ntmps8
    go_wp2
    go_ret2
    exact ⟨rfl, Below.refl _ _⟩
  · have q1 : decide (n < 1) = false := by simpa using h1
    have q2 : decide (65536 < n) = true := by simp; omega
    clear h
    go_enter Try.func8, Try.ntmps8
    go_wp2
    go_ret2
    exact ⟨rfl, Below.refl _ _⟩
end Go.Proofs.Ytllbemelljaklaa
