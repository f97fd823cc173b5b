/- From the rows' conditions to what the walks of layers 3 and 4 read; values and types as arguments; the frame of a law whose row lists variables. -/
import Derived.Test.YtfnnhhhkdfgefaaGreatDoorValR13
import Derived.Test.YtfnnhhhkdfgefaaGreatDoorTie
import Derived.Test.YtfnnhhhkdfgefaaGreatDoorDecSm
import Derived.ProofKit
import Derived.OpenShut
import Derived.LaidMore
import Derived.Lay
import Derived.Stop.Joined
import Derived.Stop.LaidErr
import Derived.Shelf.Vars
import Derived.Lib.LaidTab
import Derived.Lib.SmallJoins
import Derived.SevenTiedAt
namespace Go.Proofs.YtfnnhhhkdfgefaaGreatDoor
open Go.ChangeShapes Go.WideShapes Go.ChangeAt Go.RowKit Go.WideMaps Go.Joins

/-- what the rows list -/
def laidL : List (String × DataW Unit) := Rows.castValuesRow.laid
theorem own : ownKnob Tryz.prog.godebug = none := by kernel_rfl
theorem laidOut : laidOutB Tryz.prog = true := by kernel_rfl

theorem e_star : "*" ++ "errors.errorString" = "*errors.errorString" := by decide
theorem e_row (u : TypeId) (h : Tryz.prog.typeName? 3 u = some "*errors.errorString") : u = 158 :=
  typeName_ptr_named (nm := "errors.errorString") (by rw [e_star]; kernel_rfl) (by kernel_rfl) (by decide) u (by rw [e_star]; exact h)

/-- what layers 3 and 4 read: what layer 2 reads, and the tables of UTF-8 -/
structure EnvV (w : World) : Prop where
  env : Env w
  tabs : Lib.Utf8Tabs (Tryz.lays196_ren.g 3) (Tryz.lays196_ren.g 4) w
theorem EnvV.keep {w w' : World} (h : EnvV w) (hb : Below w.heap.size w w') : EnvV w' := ⟨h.env.keep hb, Utf8Tabs_below h.tabs hb⟩

theorem laid_at {n : String} {d d' : DataW Unit} {W : World} (h : laidMet Tryz.prog laidL W) (hm : (n, d) ∈ laidL) (e : d = d') : Lib.VarReads Tryz.prog W n d' := by
  subst e; exact Lib.laidMet.reads h hm

theorem env_of {W : World} (h : laidMetH Tryz.prog laidL W) (hsh : W.ShapedOpen Tryz.prog) : EnvV W := by
  rw [MakeChecks.laidMetH_plain _ _ _ (by kernel_rfl)] at h
  have h3 := h.tail.tail
  refine ⟨⟨?_, ?_, ?_, ?_⟩, ?_⟩
  · exact Lib.tabIs_of_head (zs := Lib.pow10Tab) (n := 20) g_tab (show (Tryz.prog.globals[3]?).map (·.type) = some 143 by kernel_rfl) Tryz.underlying143 Tryz.underlying84 (by kernel_rfl) (by kernel_rfl) h3
  · exact cell_of_shapedOpen_int (g := 2) (t := 3) (zero := #[.int .i64 0]) hsh (of_decide_eq_true (by kernel_rfl)) (by kernel_rfl) rfl (by kernel_rfl) (by kernel_rfl) Tryz.underlying3
  · obtain ⟨a, s, hv, _⟩ := laid_sentinel h3.tail.tail.tail g_syn (show (Tryz.prog.globals[4]?).map (·.type) = some 97 by kernel_rfl) Tryz.underlying97 e_row Tryz.underlying158 Tryz.underlying160 rfl rfl Tryz.underlying9 (by kernel_rfl) (by kernel_rfl)
    exact ⟨_, _, hv⟩
  · obtain ⟨a, s, hv, _⟩ := laid_sentinel h3.tail.tail g_rng (show (Tryz.prog.globals[5]?).map (·.type) = some 97 by kernel_rfl) Tryz.underlying97 e_row Tryz.underlying158 Tryz.underlying160 rfl rfl Tryz.underlying9 (by kernel_rfl) (by kernel_rfl)
    exact ⟨_, _, hv⟩
  · exact Tryz.utf8_tabs (laid_at h (.tail _ (.tail _ (.tail _ (.tail _ (.tail _ (.tail _ (.head _))))))) (by kernel_rfl)) (laid_at h (.tail _ (.tail _ (.tail _ (.head _)))) (by kernel_rfl))

/-- the wrap, with the listed variables and the world's shape -/
theorem wrap {H : Type} {enc : TypeId × Value → H} {C : Checked} {os : Os} {f : FuncId} {fn : Func} {s : ChangeSpec} {X : World → Array Value → Prop}
    (hX : ∀ (w w' : World) (args : Array Value), w.heap = w'.heap → X w args → X w' args)
    (own : ownKnob C.prog.godebug = none) (started : os.Started) (noInit : C.prog.inits.idxOf? f = none) (hfn : C.prog.funcs[f]? = some fn)
    (witness : ∃ (w : World) (tape : Tape) (i : Input), w.os = os ∧ (w.forCall tape i).Shaped C.prog ∧ i.vars = [] ∧ Input.okWide C.prog (w.forCall tape i) .any w.heap.size f i ∧
      ((s.pre enc C.prog fn [] false (w.forCall tape i).memory i.args ∧ X (w.forCall tape i).memory i.args) ∧ sizedMet enc C.prog fn (OpenSpec.ofChange s) false (w.forCall tape i).memory i.args) ∧ ({} : Assume).holds C.prog (lone (Frame.enter C.prog f i.args .normal) [] (w.forCall tape i)))
    (contract : ∀ (W : World) (base : Nat) (args : Array Value) (ds gs : List (DataW H)) (before : List MemPlace),
      (∀ (j : Nat) t v, fn.params[j]? = some t → args[j]? = some v → Value.okWide C.prog W .any base t v) →
      DataW.Whole enc C.prog fn.params.toList s.vars false W args.toList ds gs before →
      X W args → W.ShapedOpen C.prog →
      Calls C.prog f args W fun e W' => ∃ v, e = .returned v ∧ s.post enc C.prog fn false true false false W args v W') :
    ReturnsInHanded {} C os f .any (fun w args => (s.pre enc C.prog fn [] false w args ∧ X w args) ∧ sizedMet enc C.prog fn (OpenSpec.ofChange s) false w args) (s.post enc C.prog fn false true false false) := by
  refine returnsInHanded_of_calls own started noInit witness ?_
  intro w tape i _ hsh _ hok hpre _
  obtain ⟨_, _, _, fn', hfn', _, _, _, _, hval⟩ := hok
  have e : fn' = fn := Option.some.inj (hfn'.symm.trans hfn)
  subst e
  obtain ⟨⟨⟨ds, gs, before, hw, _⟩, hx⟩, _⟩ := hpre
  have hw' := DataW.Whole.of_heap (w' := w.forCall tape i) (by rfl) hw
  refine (contract (w.forCall tape i) w.heap.size i.args ds gs before hval hw' (hX _ _ _ (by rfl) hx) hsh).mono fun e W' ⟨v, he, hp⟩ => ?_
  subst he
  exact ChangeSpec.post_blind hp

theorem wf_i64 (a : Int) (h : (Lit.int .i64 a).wf = true) : i64 a := by
  simp [Lit.wf, IntKind.min, IntKind.max, IntKind.signed, IntKind.bits] at h
  exact ⟨by omega, by omega⟩

/-- a value that came in -/
structure ValOk (c : Vm.Cl) : Prop where
  k : (Lit.int .i64 c.k).wf = true
  n : (Lit.int .i64 c.n).wf = true
  sc : (Lit.int .i64 c.sc).wf = true
  s : c.s.size ≤ maxLen
theorem ValOk.i {c : Vm.Cl} (h : ValOk c) : i64 c.n := wf_i64 _ h.n
def valData {H : Type} (c : Vm.Cl) : DataW H := .agg [.lit (.int .i64 c.k), .lit (.int .i64 c.n), .lit (.int .i64 c.sc), .lit (.string c.s.data.toList)]
theorem cells_val : Tryz.prog.cellsOf 24 = 4 := by kernel_rfl
theorem cells_typ : Tryz.prog.cellsOf 26 = 2 := by kernel_rfl
section
variable {H : Type} {enc : TypeId × Value → H} {w : World} {base : Nat} {sp : Nat → Bool} {held : Bool}
set_option maxRecDepth 100000 in
theorem open_val {r : Reach} {b0 : Nat} {v : Value} {d : DataW H} {p : List MemPlace} (hv : Value.okWide Tryz.prog w r b0 24 v) (h : DataW.Trod enc Tryz.prog w base sp held 24 v d p) :
    ∃ c : Vm.Cl, v = .agg #[.int .i64 c.k, .int .i64 c.n, .int .i64 c.sc, .string c.s] ∧ d = valData c ∧ p = [] ∧ ValOk c := by
  obtain ⟨v0, v1, v2, v3, y0, y1, y2, y3, m, rfl, rfl, rfl, h0, h1, h2, h3⟩ := open_agg4 Tryz.underlying24 (by kernel_rfl) cells_val hv h
  obtain ⟨a0, e0, rfl, w0⟩ := DataW.trod_int Tryz.underlying22 h0
  obtain ⟨a1, e1, rfl, w1⟩ := DataW.trod_int Tryz.underlying3 h1
  obtain ⟨a2, e2, rfl, w2⟩ := DataW.trod_int Tryz.underlying3 h2
  obtain ⟨a3, e3, rfl, w3⟩ := DataW.trod_string Tryz.underlying9 h3
  simp at e0 e1 e2 e3
  subst e0 e1 e2 e3
  exact ⟨⟨a0, a1, a2, a3⟩, rfl, rfl, rfl, w0, w1, w2, w3⟩
set_option maxRecDepth 100000 in
theorem shut_val {c : Vm.Cl} (h : ValOk c) : DataW.Trod enc Tryz.prog w base sp held 24 (.agg #[.int .i64 c.k, .int .i64 c.n, .int .i64 c.sc, .string c.s]) (valData c) [] :=
  shut_agg4 (y0 := (.lit (.int .i64 c.k), [])) (y1 := (.lit (.int .i64 c.n), [])) (y2 := (.lit (.int .i64 c.sc), [])) (y3 := (.lit (.string c.s.data.toList), [])) Tryz.underlying24 (by kernel_rfl) cells_val
    ⟨1, by simp [DataW.trod, Tryz.underlying22, h.k]⟩ ⟨1, by simp [DataW.trod, Tryz.underlying3, h.n]⟩ ⟨1, by simp [DataW.trod, Tryz.underlying3, h.sc]⟩ ⟨1, by simp [DataW.trod, Tryz.underlying9, h.s]⟩
set_option maxRecDepth 100000 in
theorem open_typ {r : Reach} {b0 : Nat} {v : Value} {d : DataW H} {p : List MemPlace} (hv : Value.okWide Tryz.prog w r b0 26 v) (h : DataW.Trod enc Tryz.prog w base sp held 26 v d p) :
    ∃ k sc : Int, v = .agg #[.int .i64 k, .int .i64 sc] ∧ d = .agg [.lit (.int .i64 k), .lit (.int .i64 sc)] ∧ p = [] ∧ (Lit.int .i64 k).wf = true ∧ (Lit.int .i64 sc).wf = true := by
  obtain ⟨v0, v1, y0, y1, m, rfl, rfl, rfl, h0, h1⟩ := open_agg2 Tryz.underlying26 (by kernel_rfl) cells_typ hv h
  obtain ⟨a0, e0, rfl, w0⟩ := DataW.trod_int Tryz.underlying22 h0
  obtain ⟨a1, e1, rfl, w1⟩ := DataW.trod_int Tryz.underlying3 h1
  simp at e0 e1
  subst e0 e1
  exact ⟨a0, a1, rfl, rfl, rfl, w0, w1⟩
set_option maxRecDepth 100000 in
theorem shut_typ {k sc : Int} (h0 : (Lit.int .i64 k).wf = true) (h1 : (Lit.int .i64 sc).wf = true) : DataW.Trod enc Tryz.prog w base sp held 26 (.agg #[.int .i64 k, .int .i64 sc]) (.agg [.lit (.int .i64 k), .lit (.int .i64 sc)]) [] :=
  shut_agg2 (y0 := (.lit (.int .i64 k), [])) (y1 := (.lit (.int .i64 sc), [])) Tryz.underlying26 (by kernel_rfl) cells_typ
    ⟨1, by simp [DataW.trod, Tryz.underlying22, h0]⟩ ⟨1, by simp [DataW.trod, Tryz.underlying3, h1]⟩
end
section
variable {H : Type} {enc : TypeId × Value → H} {w : World} {base : Nat} {sp : Nat → Bool} {held : Bool}
/-- four cells that read as a value -/
theorem open_cells {n : Nat} {x0 x1 x2 x3 : Value} {y : DataW H × List MemPlace} (h : DataW.trod enc Tryz.prog w base sp held n 24 [x0, x1, x2, x3] = some y) :
    ∃ c : Vm.Cl, x0 = .int .i64 c.k ∧ x1 = .int .i64 c.n ∧ x2 = .int .i64 c.sc ∧ x3 = .string c.s ∧ ValOk c := by
  obtain ⟨y0, y1, y2, y3, m, _, _, h0, h1, h2, h3⟩ := trod_struct4 Tryz.underlying24 h
  have k0 : Tryz.prog.cellsOf 22 = 1 := by kernel_rfl
  have k1 : Tryz.prog.cellsOf 3 = 1 := by kernel_rfl
  have k3 : Tryz.prog.cellsOf 9 = 1 := by kernel_rfl
  obtain ⟨a0, e0, _, w0⟩ := DataW.trod_int Tryz.underlying22 h0
  obtain ⟨a1, e1, _, w1⟩ := DataW.trod_int Tryz.underlying3 h1
  obtain ⟨a2, e2, _, w2⟩ := DataW.trod_int Tryz.underlying3 h2
  obtain ⟨a3, e3, _, w3⟩ := DataW.trod_string Tryz.underlying9 h3
  simp [k0] at e0
  simp [k1] at e1
  simp [k1] at e2
  simp [k3] at e3
  exact ⟨⟨a0, a1, a2, a3⟩, e0, e1, e2, e3, w0, w1, w2, w3⟩
theorem cells_pair : Tryz.prog.cellsOf 36 = 8 := by kernel_rfl
set_option maxRecDepth 100000 in
/-- two values as an argument -/
theorem open_vals2 {r : Reach} {b0 : Nat} {v : Value} {d : DataW H} {p : List MemPlace} (hv : Value.okWide Tryz.prog w r b0 36 v) (h : DataW.Trod enc Tryz.prog w base sp held 36 v d p) :
    ∃ a b : Vm.Cl, v = .agg #[.int .i64 a.k, .int .i64 a.n, .int .i64 a.sc, .string a.s, .int .i64 b.k, .int .i64 b.n, .int .i64 b.sc, .string b.s] ∧ ValOk a ∧ ValOk b := by
  have hu : Tryz.prog.underlying 36 = some (.array 2 24) := Tryz.underlying36
  simp only [Value.okWide, hu] at hv
  obtain ⟨cs, rfl, h2, _⟩ := hv
  rw [cells_pair] at h2
  obtain ⟨l⟩ := cs
  match l, h2 with
  | [x0, x1, x2, x3, x4, x5, x6, x7], _ =>
    obtain ⟨fuel, hf⟩ := h
    cases fuel with
    | zero => simp [DataW.trod] at hf
    | succ n =>
      rw [DataW.trod_step] at hf
      unfold DataW.trodStep at hf
      simp only [hu, Value.cells] at hf
      rw [if_pos (by rw [cells_pair]; rfl)] at hf
      simp only [Option.map_eq_some_iff] at hf
      obtain ⟨xs, hx, _⟩ := hf
      rw [show List.range 2 = [0, 1] from rfl, List.mapM_cons, List.mapM_cons, List.mapM_nil] at hx
      simp only [bind, Option.bind_eq_some_iff, pure, Option.some.injEq, cells_val] at hx
      obtain ⟨y0, h0, _, ⟨y1, h1, _, rfl, rfl⟩, rfl⟩ := hx
      obtain ⟨a, rfl, rfl, rfl, rfl, ka⟩ := open_cells h0
      obtain ⟨b, rfl, rfl, rfl, rfl, kb⟩ := open_cells h1
      exact ⟨a, b, rfl, ka, kb⟩
end
end Go.Proofs.YtfnnhhhkdfgefaaGreatDoor
