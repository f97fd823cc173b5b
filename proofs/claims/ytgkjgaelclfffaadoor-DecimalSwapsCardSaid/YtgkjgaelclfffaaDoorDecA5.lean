/- Package decimal: compare of two numbers of 128 bits. -/
import Derived.Test.YtgkjgaelclfffaaDoorDecA4
import Derived.Deep.RegionHeld3
namespace Go.Proofs.YtgkjgaelclfffaaDoor
open Go.RowKit

theorem cells2 (W : World) (g : Nat) (hg : g = W.heap.size) (a b : Value) (t : TypeId) : (W.alloc (.cells #[a, b] t)).cell? ⟨g, 0, none⟩ = some a ∧ (W.alloc (.cells #[a, b] t)).cell? ⟨g, 1, none⟩ = some b := by
  subst hg; exact ⟨by simp [World.cell?_alloc_new], by simp [World.cell?_alloc_new]⟩

theorem cells2d (W : World) (g : Nat) (hg : g = W.heap.size) (a b : Value) (t : TypeId) : (W.alloc (.cells #[a, b] t)).drew.cell? ⟨g, 0, none⟩ = some a ∧ (W.alloc (.cells #[a, b] t)).drew.cell? ⟨g, 1, none⟩ = some b := cells2 W g hg a b t

set_option maxHeartbeats 4000000 in
theorem dec_wcompare (h l n h' l' n' : Nat) (w : World) (H : Wd h l n) (H' : Wd h' l' n') :
    Calls Tryd.prog 51 #[.agg #[.int .u64 (h : Int), .int .u64 (l : Int)], .agg #[.int .u64 (h' : Int), .int .u64 (l' : Int)]] w (Num (Dm.cmp n n') w) := by
  have HE := Lib.hid (or_cmp h l n h' l' n' H H')
  clear H H'
  go_enter Tryd.func51, Tryd.ntmps51
  go_upto_region 1 with (fail)
  go_region_held3 (fun w' => w'.cell? ⟨w.heap.size, 0, none⟩ = some (.int .u64 (h : Int)) ∧ w'.cell? ⟨w.heap.size, 1, none⟩ = some (.int .u64 (l : Int)) ∧ w'.cell? ⟨w.heap.size + 1, 0, none⟩ = some (.int .u64 (h' : Int)) ∧ w'.cell? ⟨w.heap.size + 1, 1, none⟩ = some (.int .u64 (l' : Int))) (go_keep) (first
    | (go_at_call 77; refine (cmp_u64 _ _ _).mono ?_; rintro e w1 ⟨rfl, rfl⟩)
    | (go_at_call 76; refine (cmp_or2 _ (Dm.cmp h h') (Dm.cmp l l') _ (by exact (cells2d _ _ (by simp) _ _ _).1) (by exact (cells2d _ _ (by simp) _ _ _).2)).mono ?_; rintro e w1 ⟨rfl, rfl⟩))
  all_goals
    go_wp2
    go_ret
    exact ⟨by rw [← HE.out]; rfl, below_drew ((((Below.refl _ _).alloc (Nat.le_refl _) _).alloc (by simp) _).alloc (by simp; omega) _)⟩
end Go.Proofs.YtgkjgaelclfffaaDoor
