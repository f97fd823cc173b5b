/- From the rows' conditions to what the walks of layers 3 and 5 read; values and types as arguments; the frame of a law whose row lists variables. -/
import Derived.Test.YtmipomglbccjbaaDoorValB
import Derived.Test.YtmipomglbccjbaaDoorValRc
import Derived.Test.YtmipomglbccjbaaDoorTie
import Derived.Test.YtmipomglbccjbaaDoorShelf
import Derived.ProofKit
import Derived.OpenShut
import Derived.LaidMore
import Derived.Lay
import Derived.Stop.Joined
import Derived.Stop.LaidErr
import Derived.Shelf.Vars
import Derived.Lib.LaidTab
import Derived.Lib.SmallJoins
import Derived.SevenTiedAt
namespace Go.Proofs.YtmipomglbccjbaaDoor
open Go.ChangeShapes Go.WideShapes Go.ChangeAt Go.RowKit Go.WideMaps Go.Joins

/-- what the rows list -/
def laidL : List (String × DataW Unit) := Rows.rowPutsRow.laid
theorem own : ownKnob Tryd.prog.godebug = none := by kernel_rfl
theorem laidOut : laidOutB Tryd.prog = true := by kernel_rfl

/-- what layers 3 and 5 read: the tables of UTF-8 -/
structure EnvV (w : World) : Prop where
  tabs : Lib.Utf8Tabs (Tryd.lays196_ren.g 3) (Tryd.lays196_ren.g 4) w
theorem EnvV.keep {w w' : World} (h : EnvV w) (hb : Below w.heap.size w w') : EnvV w' := ⟨Utf8Tabs_below h.tabs hb⟩

theorem laid_at {n : String} {d d' : DataW Unit} {W : World} (h : laidMet Tryd.prog laidL W) (hm : (n, d) ∈ laidL) (e : d = d') : Lib.VarReads Tryd.prog W n d' := by
  subst e; exact Lib.laidMet.reads h hm

theorem env_of {W : World} (h : laidMetH Tryd.prog laidL W) : EnvV W := by
  rw [MakeChecks.laidMetH_plain _ _ _ (by kernel_rfl)] at h
  exact ⟨Tryd.utf8_tabs (laid_at h (.tail _ (.head _)) (by kernel_rfl)) (laid_at h (.head _) (by kernel_rfl))⟩

/-- the wrap, with the listed variables and the world's shape -/
theorem wrap {H : Type} {enc : TypeId × Value → H} {C : Checked} {os : Os} {f : FuncId} {fn : Func} {s : ChangeSpec} {X : World → Array Value → Prop}
    (hX : ∀ (w w' : World) (args : Array Value), w.heap = w'.heap → X w args → X w' args)
    (own : ownKnob C.prog.godebug = none) (started : os.Started) (noInit : C.prog.inits.idxOf? f = none) (hfn : C.prog.funcs[f]? = some fn)
    (witness : ∃ (w : World) (tape : Tape) (i : Input), w.os = os ∧ (w.forCall tape i).Shaped C.prog ∧ i.vars = [] ∧ Input.okWide C.prog (w.forCall tape i) .any w.heap.size f i ∧
      ((s.pre enc C.prog fn [] false (w.forCall tape i).memory i.args ∧ X (w.forCall tape i).memory i.args) ∧ sizedMet enc C.prog fn (OpenSpec.ofChange s) false (w.forCall tape i).memory i.args) ∧ ({} : Assume).holds C.prog (lone (Frame.enter C.prog f i.args .normal) [] (w.forCall tape i)))
    (contract : ∀ (W : World) (base : Nat) (args : Array Value) (ds gs : List (DataW H)) (before : List MemPlace),
      (∀ (j : Nat) t v, fn.params[j]? = some t → args[j]? = some v → Value.okWide C.prog W .any base t v) →
      DataW.Whole enc C.prog fn.params.toList s.vars false W args.toList ds gs before →
      X W args → W.ShapedOpen C.prog →
      Calls C.prog f args W fun e W' => ∃ v, e = .returned v ∧ s.post enc C.prog fn false true false false W args v W') :
    ReturnsInHanded {} C os f .any (fun w args => (s.pre enc C.prog fn [] false w args ∧ X w args) ∧ sizedMet enc C.prog fn (OpenSpec.ofChange s) false w args) (s.post enc C.prog fn false true false false) := by
  refine returnsInHanded_of_calls own started noInit witness ?_
  intro w tape i _ hsh _ hok hpre _
  obtain ⟨_, _, _, fn', hfn', _, _, _, _, hval⟩ := hok
  have e : fn' = fn := Option.some.inj (hfn'.symm.trans hfn)
  subst e
  obtain ⟨⟨⟨ds, gs, before, hw, _⟩, hx⟩, _⟩ := hpre
  have hw' := DataW.Whole.of_heap (w' := w.forCall tape i) (by rfl) hw
  refine (contract (w.forCall tape i) w.heap.size i.args ds gs before hval hw' (hX _ _ _ (by rfl) hx) hsh).mono fun e W' ⟨v, he, hp⟩ => ?_
  subst he
  exact ChangeSpec.post_blind hp

theorem wf_i64 (a : Int) (h : (Lit.int .i64 a).wf = true) : i64 a := by
  simp [Lit.wf, IntKind.min, IntKind.max, IntKind.signed, IntKind.bits] at h
  exact ⟨by omega, by omega⟩

/-- a value that came in -/
structure ValOk (c : Vm.Cl) : Prop where
  k : (Lit.int .i64 c.k).wf = true
  n : (Lit.int .i64 c.n).wf = true
  sc : (Lit.int .i64 c.sc).wf = true
  s : c.s.size ≤ maxLen
theorem ValOk.i {c : Vm.Cl} (h : ValOk c) : i64 c.n := wf_i64 _ h.n
def valData {H : Type} (c : Vm.Cl) : DataW H := .agg [.lit (.int .i64 c.k), .lit (.int .i64 c.n), .lit (.int .i64 c.sc), .lit (.string c.s.data.toList)]
theorem cells_val : Tryd.prog.cellsOf 36 = 4 := by kernel_rfl
section
variable {H : Type} {enc : TypeId × Value → H} {w : World} {base : Nat} {sp : Nat → Bool} {held : Bool}
set_option maxRecDepth 100000 in
theorem open_val {r : Reach} {b0 : Nat} {v : Value} {d : DataW H} {p : List MemPlace} (hv : Value.okWide Tryd.prog w r b0 36 v) (h : DataW.Trod enc Tryd.prog w base sp held 36 v d p) :
    ∃ c : Vm.Cl, v = .agg #[.int .i64 c.k, .int .i64 c.n, .int .i64 c.sc, .string c.s] ∧ d = valData c ∧ p = [] ∧ ValOk c := by
  obtain ⟨v0, v1, v2, v3, y0, y1, y2, y3, m, rfl, rfl, rfl, h0, h1, h2, h3⟩ := open_agg4 Tryd.underlying36 (by kernel_rfl) cells_val hv h
  obtain ⟨a0, e0, rfl, w0⟩ := DataW.trod_int Tryd.underlying34 h0
  obtain ⟨a1, e1, rfl, w1⟩ := DataW.trod_int Tryd.underlying3 h1
  obtain ⟨a2, e2, rfl, w2⟩ := DataW.trod_int Tryd.underlying3 h2
  obtain ⟨a3, e3, rfl, w3⟩ := DataW.trod_string Tryd.underlying9 h3
  simp at e0 e1 e2 e3
  subst e0 e1 e2 e3
  exact ⟨⟨a0, a1, a2, a3⟩, rfl, rfl, rfl, w0, w1, w2, w3⟩
set_option maxRecDepth 100000 in
theorem shut_val {c : Vm.Cl} (h : ValOk c) : DataW.Trod enc Tryd.prog w base sp held 36 (.agg #[.int .i64 c.k, .int .i64 c.n, .int .i64 c.sc, .string c.s]) (valData c) [] :=
  shut_agg4 (y0 := (.lit (.int .i64 c.k), [])) (y1 := (.lit (.int .i64 c.n), [])) (y2 := (.lit (.int .i64 c.sc), [])) (y3 := (.lit (.string c.s.data.toList), [])) Tryd.underlying36 (by kernel_rfl) cells_val
    ⟨1, by simp [DataW.trod, Tryd.underlying34, h.k]⟩ ⟨1, by simp [DataW.trod, Tryd.underlying3, h.n]⟩ ⟨1, by simp [DataW.trod, Tryd.underlying3, h.sc]⟩ ⟨1, by simp [DataW.trod, Tryd.underlying9, h.s]⟩
end
section
variable {H : Type} {enc : TypeId × Value → H} {w : World} {base : Nat} {sp : Nat → Bool} {held : Bool}
/-- four cells that read as a value -/
theorem open_cells {n : Nat} {x0 x1 x2 x3 : Value} {y : DataW H × List MemPlace} (h : DataW.trod enc Tryd.prog w base sp held n 36 [x0, x1, x2, x3] = some y) :
    ∃ c : Vm.Cl, x0 = .int .i64 c.k ∧ x1 = .int .i64 c.n ∧ x2 = .int .i64 c.sc ∧ x3 = .string c.s ∧ ValOk c := by
  obtain ⟨y0, y1, y2, y3, m, _, _, h0, h1, h2, h3⟩ := trod_struct4 Tryd.underlying36 h
  have k0 : Tryd.prog.cellsOf 34 = 1 := by kernel_rfl
  have k1 : Tryd.prog.cellsOf 3 = 1 := by kernel_rfl
  have k3 : Tryd.prog.cellsOf 9 = 1 := by kernel_rfl
  obtain ⟨a0, e0, _, w0⟩ := DataW.trod_int Tryd.underlying34 h0
  obtain ⟨a1, e1, _, w1⟩ := DataW.trod_int Tryd.underlying3 h1
  obtain ⟨a2, e2, _, w2⟩ := DataW.trod_int Tryd.underlying3 h2
  obtain ⟨a3, e3, _, w3⟩ := DataW.trod_string Tryd.underlying9 h3
  simp [k0] at e0
  simp [k1] at e1
  simp [k1] at e2
  simp [k3] at e3
  exact ⟨⟨a0, a1, a2, a3⟩, e0, e1, e2, e3, w0, w1, w2, w3⟩
end
end Go.Proofs.YtmipomglbccjbaaDoor
