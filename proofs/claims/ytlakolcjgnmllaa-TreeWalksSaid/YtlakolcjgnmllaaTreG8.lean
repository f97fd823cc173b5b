/- Layer 8: what a nil tree answers. -/
import Derived.Test.YtlakolcjgnmllaaTreG4
namespace Go.Proofs.Ytlakolcjgnmllaa
open Go.RowKit

section
variable {w0 : World}
theorem tq_nil (w : World) : Tq e0 (.pointer none) [] w := .inl ⟨rfl, rfl⟩
theorem hex0 {w : World} : ∀ k, w.heap.size ≤ k → ¬ e0 k := fun _ _ h => h
theorem nl_get (w : World) (hb : Below w0.heap.size w0 w) : Calls Try.prog 14 #[.pointer none, .string ⟨#[97]⟩] w fun e w' => e = .returned (.tuple #[.int .i64 0, .bool false]) ∧ Below w0.heap.size w0 w' := by
  refine (tq_get (k := [97]) (tq_nil w) hex0).mono ?_
  rintro e w' ⟨rfl, h⟩
  exact ⟨rfl, hb.trans (h.mono hb.size)⟩
theorem nl_at (w : World) (hb : Below w0.heap.size w0 w) : Calls Try.prog 26 #[.pointer none, .int .i64 0] w fun e w' => e = .returned (.tuple #[.string ⟨#[]⟩, .int .i64 0, .bool false]) ∧ Below w0.heap.size w0 w' := by
  refine (tq_at_no (i := 0) (tq_nil w) hex0 (.inr (by decide))).mono ?_
  rintro e w' ⟨rfl, h⟩
  exact ⟨rfl, hb.trans (h.mono hb.size)⟩
theorem nl_put (w : World) (hb : Below w0.heap.size w0 w) : Calls Try.prog 10 #[.pointer none, .string ⟨#[97]⟩, .int .i64 1] w fun e w' => e = .returned (.bool false) ∧ Below w0.heap.size w0 w' := by
  refine (tre_put_nil ⟨#[97]⟩ 1).mono ?_
  rintro e w' ⟨rfl, rfl⟩
  exact ⟨rfl, hb⟩
theorem nl_delete (w : World) (hb : Below w0.heap.size w0 w) : Calls Try.prog 12 #[.pointer none, .string ⟨#[97]⟩] w fun e w' => e = .returned (.bool false) ∧ Below w0.heap.size w0 w' := by
  refine (tq_delete_nil (ex := e0) (k := [97]) hex0).mono ?_
  rintro e w' ⟨rfl, h⟩
  exact ⟨rfl, hb.trans (h.mono hb.size)⟩
theorem nl_len (w : World) (hb : Below w0.heap.size w0 w) : Calls Try.prog 16 #[.pointer none] w fun e w' => e = .returned (.int .i64 0) ∧ Below w0.heap.size w0 w' := by
  refine (tq_len (tq_nil w) hex0).mono ?_
  rintro e w' ⟨rfl, h⟩
  exact ⟨rfl, hb.trans (h.mono hb.size)⟩
theorem nl_levels (w : World) (hb : Below w0.heap.size w0 w) : Calls Try.prog 24 #[.pointer none] w fun e w' => e = .returned (.int .i64 0) ∧ Below w0.heap.size w0 w' := by
  refine (tq_levels (tq_nil w) (by decide) hex0).mono ?_
  rintro e w' ⟨n, rfl, hl, h⟩
  obtain rfl := hl.out.1.2 rfl
  exact ⟨rfl, hb.trans (h.mono hb.size)⟩
theorem nl_copy (w : World) (hb : Below w0.heap.size w0 w) : Calls Try.prog 13 #[.pointer none] w fun e w' => e = .returned (.pointer none) ∧ Below w0.heap.size w0 w' := by
  refine tre_copy_nil.mono ?_
  rintro e w' ⟨rfl, rfl⟩
  exact ⟨rfl, hb⟩
theorem nl_rank (w : World) (hb : Below w0.heap.size w0 w) : Calls Try.prog 17 #[.pointer none, .string ⟨#[97]⟩] w fun e w' => e = .returned (.int .i64 0) ∧ Below w0.heap.size w0 w' := by
  refine (tq_rank (k := [97]) (tq_nil w) (by decide) hex0).mono ?_
  rintro e w' ⟨rfl, h⟩
  exact ⟨rfl, hb.trans (h.mono hb.size)⟩
theorem nl_from (w : World) (hb : Below w0.heap.size w0 w) : Calls Try.prog 21 #[.pointer none, .string ⟨#[]⟩] w fun e w' => ∃ u, e = .returned u ∧ Hid (∃ B, B ≤ w'.heap.size ∧ Sq e0 B u [] w') ∧ Below w0.heap.size w0 w' := by
  refine (tre_seqFrom (k := []) none rfl (tq_nil w) hex0).mono ?_
  rintro e w' ⟨u, rfl, h1, h⟩
  exact ⟨u, rfl, ⟨_, h.size, h1⟩, hb.trans (h.mono hb.size)⟩
theorem nl_back (w : World) (hb : Below w0.heap.size w0 w) : Calls Try.prog 22 #[.pointer none, .string ⟨#[]⟩] w fun e w' => ∃ u, e = .returned u ∧ Hid (∃ B, B ≤ w'.heap.size ∧ Sq e0 B u [] w') ∧ Below w0.heap.size w0 w' := by
  refine (tre_seqBack (k := []) none rfl (tq_nil w) hex0).mono ?_
  rintro e w' ⟨u, rfl, h1, h⟩
  exact ⟨u, rfl, ⟨_, h.size, h1⟩, hb.trans (h.mono hb.size)⟩
theorem nl_taken {u : Value} (w : World) (hb : Below w0.heap.size w0 w) (hs : ∃ B, B ≤ w.heap.size ∧ Sq e0 B u [] w) : Calls Try.prog 20 #[u, .int .i64 9] w fun e w' => ∃ x c, e = .returned (.slice x 0 c) ∧ Below w0.heap.size w0 w' := by
  obtain ⟨B, hB, hs⟩ := hs
  refine (tre_taken (most := 9) hs hB (by decide) (by decide) hex0).mono ?_
  rintro e w' ⟨v, rfl, h2, h3⟩
  obtain ⟨x, c, rfl⟩ := h2.form
  exact ⟨x, c, rfl, hb.trans (h3.mono hb.size)⟩
end
end Go.Proofs.Ytlakolcjgnmllaa
