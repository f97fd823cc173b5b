/- From the rows' conditions to what the walks read; the frame of a law whose row lists variables. -/
import Derived.Test.YtgkjgaelclfffaaDoorDecFirst
import Derived.Test.YtgkjgaelclfffaaDoorTie
import Derived.ProofKit
import Derived.OpenShut
import Derived.LaidMore
import Derived.Lay
import Derived.Stop.Joined
import Derived.Stop.LaidErr
import Derived.Shelf.Vars
import Derived.Lib.LaidTab
import Derived.SevenTiedAt
import Derived.WideKeyPair
namespace Go.Proofs.YtgkjgaelclfffaaDoor
open Go.ChangeShapes Go.WideShapes Go.ChangeAt Go.RowKit Go.WideMaps

/-- what the rows list -/
def laidL : List (String × DataW Unit) := Rows.decimalSumsRow.laid
theorem own : ownKnob Tryd.prog.godebug = none := by kernel_rfl

theorem e_star : "*" ++ "errors.errorString" = "*errors.errorString" := by decide
theorem e_row (u : TypeId) (h : Tryd.prog.typeName? 3 u = some "*errors.errorString") : u = 136 :=
  typeName_ptr_named (nm := "errors.errorString") (by rw [e_star]; kernel_rfl) (by kernel_rfl) (by decide) u (by rw [e_star]; exact h)

theorem env_of {W : World} (h : laidMetH Tryd.prog laidL W) (hsh : W.ShapedOpen Tryd.prog) : Env W := by
  rw [MakeChecks.laidMetH_plain _ _ _ (by kernel_rfl)] at h
  have h3 := h.tail.tail
  refine ⟨?_, ?_, ?_, ?_⟩
  · exact Lib.tabIs_of_head (zs := Lib.pow10Tab) (n := 20) g_tab (show (Tryd.prog.globals[7]?).map (·.type) = some 131 by kernel_rfl) Tryd.underlying131 Tryd.underlying58 (by kernel_rfl) (by kernel_rfl) h3
  · exact cell_of_shapedOpen_int (g := 2) (t := 3) (zero := #[.int .i64 0]) hsh (of_decide_eq_true (by kernel_rfl)) (by kernel_rfl) rfl (by kernel_rfl) (by kernel_rfl) Tryd.underlying3
  · obtain ⟨a, s, hv, _⟩ := laid_sentinel h3.tail.tail.tail g_syn (show (Tryd.prog.globals[3]?).map (·.type) = some 48 by kernel_rfl) Tryd.underlying48 e_row Tryd.underlying136 Tryd.underlying138 rfl rfl Tryd.underlying9 (by kernel_rfl) (by kernel_rfl)
    exact ⟨_, _, hv⟩
  · obtain ⟨a, s, hv, _⟩ := laid_sentinel h3.tail.tail g_rng (show (Tryd.prog.globals[4]?).map (·.type) = some 48 by kernel_rfl) Tryd.underlying48 e_row Tryd.underlying136 Tryd.underlying138 rfl rfl Tryd.underlying9 (by kernel_rfl) (by kernel_rfl)
    exact ⟨_, _, hv⟩

/-- the wrap, with the listed variables and the world's shape -/
theorem wrap {H : Type} {enc : TypeId × Value → H} {C : Checked} {os : Os} {f : FuncId} {fn : Func} {s : ChangeSpec} {X : World → Array Value → Prop}
    (hX : ∀ (w w' : World) (args : Array Value), w.heap = w'.heap → X w args → X w' args)
    (own : ownKnob C.prog.godebug = none) (started : os.Started) (noInit : C.prog.inits.idxOf? f = none) (hfn : C.prog.funcs[f]? = some fn)
    (witness : ∃ (w : World) (tape : Tape) (i : Input), w.os = os ∧ (w.forCall tape i).Shaped C.prog ∧ i.vars = [] ∧ Input.okWide C.prog (w.forCall tape i) .any w.heap.size f i ∧
      ((s.pre enc C.prog fn [] false (w.forCall tape i).memory i.args ∧ X (w.forCall tape i).memory i.args) ∧ sizedMet enc C.prog fn (OpenSpec.ofChange s) false (w.forCall tape i).memory i.args) ∧ ({} : Assume).holds C.prog (lone (Frame.enter C.prog f i.args .normal) [] (w.forCall tape i)))
    (contract : ∀ (W : World) (base : Nat) (args : Array Value) (ds gs : List (DataW H)) (before : List MemPlace),
      (∀ (j : Nat) t v, fn.params[j]? = some t → args[j]? = some v → Value.okWide C.prog W .any base t v) →
      DataW.Whole enc C.prog fn.params.toList s.vars false W args.toList ds gs before →
      X W args → W.ShapedOpen C.prog →
      Calls C.prog f args W fun e W' => ∃ v, e = .returned v ∧ s.post enc C.prog fn false true false false W args v W') :
    ReturnsInHanded {} C os f .any (fun w args => (s.pre enc C.prog fn [] false w args ∧ X w args) ∧ sizedMet enc C.prog fn (OpenSpec.ofChange s) false w args) (s.post enc C.prog fn false true false false) := by
  refine returnsInHanded_of_calls own started noInit witness ?_
  intro w tape i _ hsh _ hok hpre _
  obtain ⟨_, _, _, fn', hfn', _, _, _, _, hval⟩ := hok
  have e : fn' = fn := Option.some.inj (hfn'.symm.trans hfn)
  subst e
  obtain ⟨⟨⟨ds, gs, before, hw, _⟩, hx⟩, _⟩ := hpre
  have hw' := DataW.Whole.of_heap (w' := w.forCall tape i) (by rfl) hw
  refine (contract (w.forCall tape i) w.heap.size i.args ds gs before hval hw' (hX _ _ _ (by rfl) hx) hsh).mono fun e W' ⟨v, he, hp⟩ => ?_
  subst he
  exact ChangeSpec.post_blind hp

/-- two pairs that came in, boxed -/
structure Args2 (w : World) (x0 y0 x1 y1 : Int) (w' : World) : Prop where
  c00 : w'.cell? ⟨w.heap.size, 0, none⟩ = some (.int .i64 x0)
  c01 : w'.cell? ⟨w.heap.size, 1, none⟩ = some (.int .i64 y0)
  c10 : w'.cell? ⟨w.heap.size + 1, 0, none⟩ = some (.int .i64 x1)
  c11 : w'.cell? ⟨w.heap.size + 1, 1, none⟩ = some (.int .i64 y1)
  bel : Below w.heap.size w w'
  lt : w.heap.size + 1 < w'.heap.size
theorem Args2.start (w : World) (x0 y0 x1 y1 : Int) (t t' : TypeId) : Args2 w x0 y0 x1 y1 ((w.alloc (.cells #[.int .i64 x0, .int .i64 y0] t)).alloc (.cells #[.int .i64 x1, .int .i64 y1] t')) :=
  ⟨by simp, by simp, (cells2 _ _ (by simp) _ _ _).1, (cells2 _ _ (by simp) _ _ _).2, ((Below.refl _ _).alloc (Nat.le_refl _) _).alloc (by simp) _, by simp⟩
theorem Args2.keep {w w1 w2 : World} {x0 y0 x1 y1 : Int} (h : Args2 w x0 y0 x1 y1 w1) (hb : Below w1.heap.size w1 w2) : Args2 w x0 y0 x1 y1 w2 :=
  ⟨(hb.cell (p := ⟨w.heap.size, 0, none⟩) (Nat.lt_of_succ_lt h.lt)).trans h.c00, (hb.cell (p := ⟨w.heap.size, 1, none⟩) (Nat.lt_of_succ_lt h.lt)).trans h.c01,
    (hb.cell (p := ⟨w.heap.size + 1, 0, none⟩) h.lt).trans h.c10, (hb.cell (p := ⟨w.heap.size + 1, 1, none⟩) h.lt).trans h.c11, h.bel.trans (hb.mono h.bel.size), by have := h.lt; have := hb.size; omega⟩
theorem pairKey : ArrKey Tryd.prog 35 3 2 := ⟨Tryd.underlying35, by kernel_rfl, by kernel_rfl, by kernel_rfl⟩
theorem wf_i64 (a : Int) (h : (Lit.int .i64 a).wf = true) : i64 a := by
  simp [Lit.wf, IntKind.min, IntKind.max, IntKind.signed, IntKind.bits] at h
  exact ⟨by omega, by omega⟩
end Go.Proofs.YtgkjgaelclfffaaDoor
