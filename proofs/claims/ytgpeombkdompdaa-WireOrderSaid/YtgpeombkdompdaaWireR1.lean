/- The calls of a Reader that only look: OK, Left, End; fail; decode. -/
import Derived.Test.YtgpeombkdompdaaWireW3
import Derived.Outline
namespace Go.Proofs.Ytgpeombkdompdaa
open Go.RowKit

theorem Rd.cell0 {b : Nat} {sv : Value} {st : Option (List UInt8)} {w : World} (h : Rd b sv st w) : w.cell? ⟨b, 0, none⟩ = some sv := by rw [Lib.cell_of_heap h.blk]; rfl
theorem Rd.cell1 {b : Nat} {sv : Value} {st : Option (List UInt8)} {w : World} (h : Rd b sv st w) : w.cell? ⟨b, 1, none⟩ = some (.bool st.isNone) := by rw [Lib.cell_of_heap h.blk]; rfl
theorem Rd.frozen {b : Nat} {sv : Value} {st : Option (List UInt8)} {w : World} (h : Rd b sv st w) (j : Nat) : w.frozen? ⟨b, j, none⟩ = false := Lib.frozen_of_heap h.blk j
theorem Rd.lt {b : Nat} {sv : Value} {st : Option (List UInt8)} {w : World} (h : Rd b sv st w) : b < w.heap.size := heap_lt h.blk
theorem Rd.ne {b : Nat} {sv : Value} {st : Option (List UInt8)} {w : World} (h : Rd b sv st w) : sv.ownBlock ≠ some b := by
  rcases h.byt with ⟨e, _⟩ | ⟨g, off, cap, cs, t, fr, e, _, hg, ht, _⟩
  · rw [e]; simp [Value.ownBlock]
  · rw [e]
    intro hb
    simp only [Value.ownBlock, Option.some.injEq] at hb
    subst hb
    have := hg.symm.trans h.blk
    simp only [Option.some.injEq, Obj.cells.injEq] at this
    rw [ht] at this
    exact absurd this.2.1 (by decide)
theorem Rd.keep {b : Nat} {sv : Value} {st : Option (List UInt8)} {w w' : World} {p : Nat → Prop} (h : Rd b sv st w) (ho : Only p w w') (hb : ¬ p b) (hv : ∀ g, sv.ownBlock = some g → ¬ p g) : Rd b sv st w' :=
  ⟨(ho.block b h.lt hb).trans h.blk, h.byt.keep ho hv⟩

theorem ok_r (b : Nat) (sv : Value) (st : Option (List UInt8)) (w : World) (h : Rd b sv st w) :
    Calls Try.prog 23 #[.pointer (some ⟨b, 0, none⟩)] w fun e w' => e = .returned (.bool st.isSome) ∧ w = w' := by
  have hc1 := h.cell1
  clear h
  cases st
  all_goals
    simp only [Option.isNone_none, Option.isNone_some] at hc1
    go_enter Try.func23, Try.ntmps23
    go_wp2
    go_ret
    exact ⟨rfl, rfl⟩

theorem ok_nil (w : World) : Calls Try.prog 23 #[.pointer none] w fun e w' => e = .returned (.bool false) ∧ w = w' := by
  go_enter Try.func23, Try.ntmps23
  go_wp2
  go_ret
  exact ⟨rfl, rfl⟩

theorem left_r (b : Nat) (sv : Value) (st : Option (List UInt8)) (w : World) (h : Rd b sv st w) :
    Calls Try.prog 24 #[.pointer (some ⟨b, 0, none⟩)] w fun e w' => e = .returned (.int .i64 ((st.getD []).length : Nat)) ∧ w = w' := by
  have hc0 := h.cell0
  obtain ⟨a, c, rfl⟩ := h.byt.form
  have HR := Lib.hid h
  clear h
  go_enter Try.func24, Try.ntmps24
  go_wp2_with fail
  refine (ok_r b _ st _ HR.out).mono ?_
  rintro e w1 ⟨rfl, rfl⟩
  cases st
  all_goals
    simp only [Option.isSome_none, Option.isSome_some, Option.getD_none, Option.getD_some] at hc0 ⊢
    go_wp2
    go_ret
    exact ⟨rfl, rfl⟩

theorem left_nil (w : World) : Calls Try.prog 24 #[.pointer none] w fun e w' => e = .returned (.int .i64 0) ∧ w = w' := by
  go_enter Try.func24, Try.ntmps24
  go_wp2_with fail
  refine (ok_nil _).mono ?_
  rintro e w1 ⟨rfl, rfl⟩
  go_wp2
  go_ret
  exact ⟨rfl, rfl⟩

theorem end_r (b : Nat) (sv : Value) (st : Option (List UInt8)) (w : World) (h : Rd b sv st w) :
    Calls Try.prog 25 #[.pointer (some ⟨b, 0, none⟩)] w fun e w' => e = .returned (.bool (st.isSome && (st.getD []).isEmpty)) ∧ w = w' := by
  have HR := Lib.hid h
  clear h
  go_enter Try.func25, Try.ntmps25
  go_wp2_with fail
  refine (ok_r b _ st _ HR.out).mono ?_
  rintro e w1 ⟨rfl, rfl⟩
  cases st with
  | none =>
    simp only [Option.isSome_none]
    go_wp2
    go_ret
    exact ⟨rfl, rfl⟩
  | some l =>
    simp only [Option.isSome_some]
    go_wp2_with fail
    refine (left_r b _ _ _ HR.out).mono ?_
    rintro e w1 ⟨rfl, rfl⟩
    simp only [Option.getD_some]
    have hl : (((l.length : Nat) : Int) == 0) = l.isEmpty := by cases l <;> simp <;> omega
    go_wp2
    go_ret
    exact ⟨by simp, rfl⟩

theorem end_nil (w : World) : Calls Try.prog 25 #[.pointer none] w fun e w' => e = .returned (.bool false) ∧ w = w' := by
  go_enter Try.func25, Try.ntmps25
  go_wp2_with fail
  refine (ok_nil _).mono ?_
  rintro e w1 ⟨rfl, rfl⟩
  go_wp2
  go_ret
  exact ⟨rfl, rfl⟩

/-- WHAT A READING CALL LEAVES. -/
def Red (b : Nat) (sv : Value) (st : Option (List UInt8)) (w w' : World) : Prop :=
  ∃ sv', Rd b sv' st w' ∧ (sv'.ownBlock = none ∨ sv'.ownBlock = sv.ownBlock) ∧ Only (fun k => k = b) w w'

theorem Red.refl {b : Nat} {sv : Value} {st : Option (List UInt8)} {w : World} (h : Rd b sv st w) : Red b sv st w w := ⟨sv, h, .inr rfl, Only.refl _ _⟩

theorem setCell_blk {w : World} {b j : Nat} {cs : Array Value} {t : TypeId} {fr : Nat × Nat} (h : w.heap[b]? = some (.cells cs t fr)) (u : Value) : (w.setCell ⟨b, j, none⟩ u).heap[b]? = some (.cells (cs.setIfInBounds j u) t fr) := by
  simp [World.setCell, Array.getElem?_modify, h]

theorem fail_r (b : Nat) (sv : Value) (st : Option (List UInt8)) (w : World) (h : Rd b sv st w) :
    Calls Try.prog 29 #[.pointer (some ⟨b, 0, none⟩)] w fun e w' => e = .returned (.tuple #[]) ∧ Red b sv none w w' := by
  have hc0 := h.cell0
  have hc1 := h.cell1
  have hf0 := h.frozen 0
  have hf1 := h.frozen 1
  have HR := Lib.hid h
  clear h
  go_enter Try.func29, Try.ntmps29
  go_wp2
  go_end0
  refine ⟨rfl, .slice none 0 0, ⟨?_, .inl ⟨rfl, rfl⟩⟩, .inl rfl, ?_⟩
  · exact setCell_blk (setCell_blk HR.out.blk _) _
  · exact ((Only.refl (fun k => k = b) w).setCell (q := ⟨b, 0, none⟩) (.inl rfl) _).setCell (q := ⟨b, 1, none⟩) (.inl rfl) _

end Go.Proofs.Ytgpeombkdompdaa
