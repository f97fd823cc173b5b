/- From the rows' conditions to what the walks of layer 3 read; values and types as arguments; the frame of a law whose row lists variables. -/
import Derived.Test.YtpbmjknhfgdnnaaGreatDoorValRf
import Derived.Test.YtpbmjknhfgdnnaaGreatDoorTie
import Derived.Test.YtpbmjknhfgdnnaaGreatDoorDecSm
import Derived.ProofKit
import Derived.OpenShut
import Derived.LaidMore
import Derived.Lay
import Derived.Stop.Joined
import Derived.Stop.LaidErr
import Derived.Shelf.Vars
import Derived.Lib.LaidTab
import Derived.Lib.SmallJoins
import Derived.SevenTiedAt
import Derived.Test.YtpbmjknhfgdnnaaGreatDoorValRc
import Derived.Test.YtpbmjknhfgdnnaaGreatDoorValRd
namespace Go.Proofs.YtpbmjknhfgdnnaaGreatDoor
open Go.ChangeShapes Go.WideShapes Go.ChangeAt Go.RowKit Go.WideMaps Go.Joins

/-- what the rows list -/
def laidL : List (String × DataW Unit) := Rows.valueTypesRow.laid
theorem own : ownKnob Tryz.prog.godebug = none := by kernel_rfl

theorem e_star : "*" ++ "errors.errorString" = "*errors.errorString" := by decide
theorem e_row (u : TypeId) (h : Tryz.prog.typeName? 3 u = some "*errors.errorString") : u = 152 :=
  typeName_ptr_named (nm := "errors.errorString") (by rw [e_star]; kernel_rfl) (by kernel_rfl) (by decide) u (by rw [e_star]; exact h)

theorem g_nam : Tryz.prog.globalNamed "refit/value.names" = some 0 := by kernel_rfl
/-- an array of strings that reads as these texts holds them, cell for cell -/
theorem strs_of {H : Type} {enc : TypeId × Value → H} {w : World} {base : Nat} {sp : Nat → Bool} {held : Bool} {fuel : Nat} {n : Nat} {t : TypeId} {cs : List Value} {zs : List (List UInt8)} {p : List MemPlace}
    (ht : Tryz.prog.underlying t = some (.array n 9)) (hce : Tryz.prog.cellsOf 9 = 1) (hct : Tryz.prog.cellsOf t = n)
    (h : DataW.trod enc Tryz.prog w base sp held fuel t cs = some (.agg (zs.map fun z => .lit (.string z)), p)) : cs = zs.map fun z => Value.string ⟨z.toArray⟩ := by
  cases fuel with
  | zero => simp [DataW.trod] at h
  | succ fuel =>
    simp only [DataW.trod, ht, hce, hct, Nat.mul_one] at h
    split at h
    · rename_i hl
      obtain ⟨xs, hm, hx⟩ := Option.map_eq_some_iff.1 h
      have hxs : xs.map (·.1) = zs.map fun z => (DataW.lit (.string z) : DataW H) := by
        have := congrArg Prod.fst hx
        simpa using this
      have hxl : xs.length = n := by simpa using Lib.mapM_length hm
      have hzl : zs.length = n := by
        have := congrArg List.length hxs
        simp at this
        omega
      apply List.ext_getElem?
      intro i
      by_cases hi : i < n
      · obtain ⟨b, hb, hf⟩ := Lib.mapM_at hm i i (by simp [hi])
        obtain ⟨z, hc, rfl, _⟩ := DataW.trod_string Tryz.underlying9 hf
        have h1 : cs[i]? = some (.string z) := by
          have := congrArg (·[0]?) hc
          simpa [List.getElem?_take, List.getElem?_drop] using this
        have h2 : (xs.map (·.1))[i]? = some (DataW.lit (.string z.data.toList) : DataW H) := by simp [hb]
        rw [hxs] at h2
        simp only [List.getElem?_map, Option.map_eq_some_iff, DataW.lit.injEq, Lit.string.injEq] at h2
        obtain ⟨z', hz', e⟩ := h2
        simp only [h1, List.getElem?_map, hz', Option.map_some, Option.some.injEq, Value.string.injEq]
        subst e
        apply ByteArray.ext; simp
      · rw [List.getElem?_eq_none (by omega), List.getElem?_eq_none (by simp; omega)]
    · cases h
/-- what layer 3 reads: what layer 2 reads, the tables of UTF-8, and the names of the types -/
structure EnvV (w : World) : Prop where
  env : Env w
  tabs : Lib.Utf8Tabs (Tryz.lays196_ren.g 3) (Tryz.lays196_ren.g 4) w
  names : w.var? Tryz.prog "refit/value.names" = some #[.string ⟨#[]⟩, .string ⟨#[66, 79, 79, 76]⟩, .string ⟨#[73, 78, 84]⟩, .string ⟨#[68, 69, 67, 73, 77, 65, 76]⟩, .string ⟨#[84, 69, 88, 84]⟩, .string ⟨#[66, 89, 84, 69, 83]⟩]
theorem EnvV.keep {w w' : World} (h : EnvV w) (hb : Below w.heap.size w w') : EnvV w' := ⟨h.env.keep hb, Utf8Tabs_below h.tabs hb, Joins.var_stays g_nam h.names hb (Nat.le_refl _)⟩
theorem EnvV.nm {w : World} (h : EnvV w) (i : Nat) (v : Value) (hv : (#[.string ⟨#[]⟩, .string ⟨#[66, 79, 79, 76]⟩, .string ⟨#[73, 78, 84]⟩, .string ⟨#[68, 69, 67, 73, 77, 65, 76]⟩, .string ⟨#[84, 69, 88, 84]⟩, .string ⟨#[66, 89, 84, 69, 83]⟩] : Array Value)[i]? = some v) : w.cell? ⟨0, i, none⟩ = some v := by
  have := World.var?_cell g_nam h.names i
  rw [hv] at this
  exact this

theorem laid_at {n : String} {d d' : DataW Unit} {W : World} (h : laidMet Tryz.prog laidL W) (hm : (n, d) ∈ laidL) (e : d = d') : Lib.VarReads Tryz.prog W n d' := by
  subst e; exact Lib.laidMet.reads h hm

theorem env_of {W : World} (h : laidMetH Tryz.prog laidL W) (hsh : W.ShapedOpen Tryz.prog) : EnvV W := by
  rw [MakeChecks.laidMetH_plain _ _ _ (by kernel_rfl)] at h
  have h3 := h.tail.tail
  refine ⟨⟨?_, ?_, ?_, ?_⟩, ?_, ?_⟩
  · exact Lib.tabIs_of_head (zs := Lib.pow10Tab) (n := 20) g_tab (show (Tryz.prog.globals[4]?).map (·.type) = some 130 by kernel_rfl) Tryz.underlying130 Tryz.underlying80 (by kernel_rfl) (by kernel_rfl) h3
  · exact cell_of_shapedOpen_int (g := 3) (t := 3) (zero := #[.int .i64 0]) hsh (of_decide_eq_true (by kernel_rfl)) (by kernel_rfl) rfl (by kernel_rfl) (by kernel_rfl) Tryz.underlying3
  · obtain ⟨a, s, hv, _⟩ := laid_sentinel h3.tail.tail.tail g_syn (show (Tryz.prog.globals[7]?).map (·.type) = some 88 by kernel_rfl) Tryz.underlying88 e_row Tryz.underlying152 Tryz.underlying154 rfl rfl Tryz.underlying9 (by kernel_rfl) (by kernel_rfl)
    exact ⟨_, _, hv⟩
  · obtain ⟨a, s, hv, _⟩ := laid_sentinel h3.tail.tail g_rng (show (Tryz.prog.globals[8]?).map (·.type) = some 88 by kernel_rfl) Tryz.underlying88 e_row Tryz.underlying152 Tryz.underlying154 rfl rfl Tryz.underlying9 (by kernel_rfl) (by kernel_rfl)
    exact ⟨_, _, hv⟩
  · exact Tryz.utf8_tabs (laid_at h (.tail _ (.tail _ (.tail _ (.tail _ (.tail _ (.tail _ (.tail _ (.head _)))))))) (by kernel_rfl)) (laid_at h (.tail _ (.tail _ (.tail _ (.head _)))) (by kernel_rfl))
  · have hr : Lib.VarReads Tryz.prog W "refit/value.names" (.agg ([[], [66, 79, 79, 76], [73, 78, 84], [68, 69, 67, 73, 77, 65, 76], [84, 69, 88, 84], [66, 89, 84, 69, 83]].map fun z => .lit (.string z))) := laid_at h (.tail _ (.tail _ (.tail _ (.tail _ (.tail _ (.tail _ (.head _))))))) (by kernel_rfl)
    obtain ⟨g', t', cs, fuel, p, hg', ht', hvar, hd⟩ := hr
    obtain rfl := Option.some.inj (g_nam.symm.trans hg')
    obtain rfl := Option.some.inj ((show (Tryz.prog.globals[0]?).map (·.type) = some 51 by kernel_rfl).symm.trans ht')
    have := strs_of Tryz.underlying51 (by kernel_rfl) (by kernel_rfl) hd
    rw [hvar]
    congr 1
    apply Array.ext'
    rw [this]; rfl

/-- the wrap, with the listed variables and the world's shape -/
theorem wrap {H : Type} {enc : TypeId × Value → H} {C : Checked} {os : Os} {f : FuncId} {fn : Func} {s : ChangeSpec} {X : World → Array Value → Prop}
    (hX : ∀ (w w' : World) (args : Array Value), w.heap = w'.heap → X w args → X w' args)
    (own : ownKnob C.prog.godebug = none) (started : os.Started) (noInit : C.prog.inits.idxOf? f = none) (hfn : C.prog.funcs[f]? = some fn)
    (witness : ∃ (w : World) (tape : Tape) (i : Input), w.os = os ∧ (w.forCall tape i).Shaped C.prog ∧ i.vars = [] ∧ Input.okWide C.prog (w.forCall tape i) .any w.heap.size f i ∧
      ((s.pre enc C.prog fn [] false (w.forCall tape i).memory i.args ∧ X (w.forCall tape i).memory i.args) ∧ sizedMet enc C.prog fn (OpenSpec.ofChange s) false (w.forCall tape i).memory i.args) ∧ ({} : Assume).holds C.prog (lone (Frame.enter C.prog f i.args .normal) [] (w.forCall tape i)))
    (contract : ∀ (W : World) (base : Nat) (args : Array Value) (ds gs : List (DataW H)) (before : List MemPlace),
      (∀ (j : Nat) t v, fn.params[j]? = some t → args[j]? = some v → Value.okWide C.prog W .any base t v) →
      DataW.Whole enc C.prog fn.params.toList s.vars false W args.toList ds gs before →
      X W args → W.ShapedOpen C.prog →
      Calls C.prog f args W fun e W' => ∃ v, e = .returned v ∧ s.post enc C.prog fn false true false false W args v W') :
    ReturnsInHanded {} C os f .any (fun w args => (s.pre enc C.prog fn [] false w args ∧ X w args) ∧ sizedMet enc C.prog fn (OpenSpec.ofChange s) false w args) (s.post enc C.prog fn false true false false) := by
  refine returnsInHanded_of_calls own started noInit witness ?_
  intro w tape i _ hsh _ hok hpre _
  obtain ⟨_, _, _, fn', hfn', _, _, _, _, hval⟩ := hok
  have e : fn' = fn := Option.some.inj (hfn'.symm.trans hfn)
  subst e
  obtain ⟨⟨⟨ds, gs, before, hw, _⟩, hx⟩, _⟩ := hpre
  have hw' := DataW.Whole.of_heap (w' := w.forCall tape i) (by rfl) hw
  refine (contract (w.forCall tape i) w.heap.size i.args ds gs before hval hw' (hX _ _ _ (by rfl) hx) hsh).mono fun e W' ⟨v, he, hp⟩ => ?_
  subst he
  exact ChangeSpec.post_blind hp

theorem wf_i64 (a : Int) (h : (Lit.int .i64 a).wf = true) : i64 a := by
  simp [Lit.wf, IntKind.min, IntKind.max, IntKind.signed, IntKind.bits] at h
  exact ⟨by omega, by omega⟩

/-- a value that came in -/
structure ValOk (c : Vm.Cl) : Prop where
  k : (Lit.int .i64 c.k).wf = true
  n : (Lit.int .i64 c.n).wf = true
  sc : (Lit.int .i64 c.sc).wf = true
  s : c.s.size ≤ maxLen
theorem ValOk.i {c : Vm.Cl} (h : ValOk c) : i64 c.n := wf_i64 _ h.n
def valData {H : Type} (c : Vm.Cl) : DataW H := .agg [.lit (.int .i64 c.k), .lit (.int .i64 c.n), .lit (.int .i64 c.sc), .lit (.string c.s.data.toList)]
theorem cells_val : Tryz.prog.cellsOf 24 = 4 := by kernel_rfl
theorem cells_typ : Tryz.prog.cellsOf 26 = 2 := by kernel_rfl
section
variable {H : Type} {enc : TypeId × Value → H} {w : World} {base : Nat} {sp : Nat → Bool} {held : Bool}
set_option maxRecDepth 100000 in
theorem open_val {r : Reach} {b0 : Nat} {v : Value} {d : DataW H} {p : List MemPlace} (hv : Value.okWide Tryz.prog w r b0 24 v) (h : DataW.Trod enc Tryz.prog w base sp held 24 v d p) :
    ∃ c : Vm.Cl, v = .agg #[.int .i64 c.k, .int .i64 c.n, .int .i64 c.sc, .string c.s] ∧ d = valData c ∧ p = [] ∧ ValOk c := by
  obtain ⟨v0, v1, v2, v3, y0, y1, y2, y3, m, rfl, rfl, rfl, h0, h1, h2, h3⟩ := open_agg4 Tryz.underlying24 (by kernel_rfl) cells_val hv h
  obtain ⟨a0, e0, rfl, w0⟩ := DataW.trod_int Tryz.underlying22 h0
  obtain ⟨a1, e1, rfl, w1⟩ := DataW.trod_int Tryz.underlying3 h1
  obtain ⟨a2, e2, rfl, w2⟩ := DataW.trod_int Tryz.underlying3 h2
  obtain ⟨a3, e3, rfl, w3⟩ := DataW.trod_string Tryz.underlying9 h3
  simp at e0 e1 e2 e3
  subst e0 e1 e2 e3
  exact ⟨⟨a0, a1, a2, a3⟩, rfl, rfl, rfl, w0, w1, w2, w3⟩
set_option maxRecDepth 100000 in
theorem shut_val {c : Vm.Cl} (h : ValOk c) : DataW.Trod enc Tryz.prog w base sp held 24 (.agg #[.int .i64 c.k, .int .i64 c.n, .int .i64 c.sc, .string c.s]) (valData c) [] :=
  shut_agg4 (y0 := (.lit (.int .i64 c.k), [])) (y1 := (.lit (.int .i64 c.n), [])) (y2 := (.lit (.int .i64 c.sc), [])) (y3 := (.lit (.string c.s.data.toList), [])) Tryz.underlying24 (by kernel_rfl) cells_val
    ⟨1, by simp [DataW.trod, Tryz.underlying22, h.k]⟩ ⟨1, by simp [DataW.trod, Tryz.underlying3, h.n]⟩ ⟨1, by simp [DataW.trod, Tryz.underlying3, h.sc]⟩ ⟨1, by simp [DataW.trod, Tryz.underlying9, h.s]⟩
set_option maxRecDepth 100000 in
theorem open_typ {r : Reach} {b0 : Nat} {v : Value} {d : DataW H} {p : List MemPlace} (hv : Value.okWide Tryz.prog w r b0 26 v) (h : DataW.Trod enc Tryz.prog w base sp held 26 v d p) :
    ∃ k sc : Int, v = .agg #[.int .i64 k, .int .i64 sc] ∧ d = .agg [.lit (.int .i64 k), .lit (.int .i64 sc)] ∧ p = [] ∧ (Lit.int .i64 k).wf = true ∧ (Lit.int .i64 sc).wf = true := by
  obtain ⟨v0, v1, y0, y1, m, rfl, rfl, rfl, h0, h1⟩ := open_agg2 Tryz.underlying26 (by kernel_rfl) cells_typ hv h
  obtain ⟨a0, e0, rfl, w0⟩ := DataW.trod_int Tryz.underlying22 h0
  obtain ⟨a1, e1, rfl, w1⟩ := DataW.trod_int Tryz.underlying3 h1
  simp at e0 e1
  subst e0 e1
  exact ⟨a0, a1, rfl, rfl, rfl, w0, w1⟩
set_option maxRecDepth 100000 in
theorem shut_typ {k sc : Int} (h0 : (Lit.int .i64 k).wf = true) (h1 : (Lit.int .i64 sc).wf = true) : DataW.Trod enc Tryz.prog w base sp held 26 (.agg #[.int .i64 k, .int .i64 sc]) (.agg [.lit (.int .i64 k), .lit (.int .i64 sc)]) [] :=
  shut_agg2 (y0 := (.lit (.int .i64 k), [])) (y1 := (.lit (.int .i64 sc), [])) Tryz.underlying26 (by kernel_rfl) cells_typ
    ⟨1, by simp [DataW.trod, Tryz.underlying22, h0]⟩ ⟨1, by simp [DataW.trod, Tryz.underlying3, h1]⟩
end
end Go.Proofs.YtpbmjknhfgdnnaaGreatDoor
/- What the laws of layer 3 take of package value: its contracts, as one bundle (proved for a landed program in ValC). -/
namespace Go.Proofs.YtpbmjknhfgdnnaaGreatDoor
open Go.RowKit

structure ValCon : Prop where
  right : ∀ (c : Vm.Cl) (w : World) (_he : EnvV w) (_hz : c.s.size ≤ maxLen), Calls Tryz.prog 12 #[.agg #[.int .i64 c.k, .int .i64 c.n, .int .i64 c.sc, .string c.s]] w (Says (Vm.rightB c) w)
  rtype : ∀ (k sc : Int) (w : World) (_he : EnvV w), Calls Tryz.prog 14 #[.agg #[.int .i64 k, .int .i64 sc]] w (Says (Vm.typeB k sc) w)
  of : ∀ (c : Vm.Cl) (k sc : Int) (w : World) (_he : EnvV w) (_hz : c.s.size ≤ maxLen), Calls Tryz.prog 15 #[.agg #[.int .i64 c.k, .int .i64 c.n, .int .i64 c.sc, .string c.s], .agg #[.int .i64 k, .int .i64 sc]] w (Says (Vm.ofB c k sc) w)
  name : ∀ (k sc : Int) (w : World) (_he : EnvV w), Calls Tryz.prog 17 #[.agg #[.int .i64 k, .int .i64 sc]] w (Str (Vm.name k sc) w)
  compare : ∀ (a b : Vm.Cl) (w : World) (_he : EnvV w) (_ha : i64 a.n) (_hb : i64 b.n) (_hza : a.s.size ≤ maxLen) (_hzb : b.s.size ≤ maxLen), Calls Tryz.prog 18 #[.agg #[.int .i64 a.k, .int .i64 a.n, .int .i64 a.sc, .string a.s], .agg #[.int .i64 b.k, .int .i64 b.n, .int .i64 b.sc, .string b.s]] w (NumB (Vm.comp (Vm.plain a) (Vm.plain b)) w)
  order : ∀ (a b : Vm.Cl) (w : World) (_he : EnvV w) (_ha : i64 a.n) (_hb : i64 b.n) (_hza : a.s.size ≤ maxLen) (_hzb : b.s.size ≤ maxLen), Calls Tryz.prog 20 #[.agg #[.int .i64 a.k, .int .i64 a.n, .int .i64 a.sc, .string a.s], .agg #[.int .i64 b.k, .int .i64 b.n, .int .i64 b.sc, .string b.s]] w (Num (Vm.order (Vm.plain a) (Vm.plain b)) w)
  print : ∀ (c : Vm.Cl) (w : World) (_he : EnvV w) (_hi : i64 c.n) (_hz : c.s.size ≤ maxLen), Calls Tryz.prog 22 #[.agg #[.int .i64 c.k, .int .i64 c.n, .int .i64 c.sc, .string c.s]] w (Str (Vm.print (Vm.plain c)) w)
  parse : ∀ (s : ByteArray) (w : World) (_he : EnvV w) (_hz : s.size ≤ 1000), Calls Tryz.prog 23 #[.string s] w (ValB (Vm.parse s.data.toList) w)
  not : ∀ (a : Int) (w : World), Calls Tryz.prog 27 #[.int .i64 a] w (Num (Vm.notT a) w)
  and : ∀ (a b : Int) (w : World), Calls Tryz.prog 29 #[.int .i64 a, .int .i64 b] w (Num (Vm.andT a b) w)
  or : ∀ (a b : Int) (w : World), Calls Tryz.prog 31 #[.int .i64 a, .int .i64 b] w (Num (Vm.notT (Vm.andT (Vm.notT a) (Vm.notT b))) w)
  bool : ∀ (b : Bool) (w : World), Calls Tryz.prog 33 #[.bool b] w (Val ⟨1, if b then 1 else 0, 0, ⟨#[]⟩⟩ w)
  truth : ∀ (c : Vm.Cl) (w : World) (_he : EnvV w) (_hz : c.s.size ≤ maxLen), Calls Tryz.prog 32 #[.agg #[.int .i64 c.k, .int .i64 c.n, .int .i64 c.sc, .string c.s]] w (Num (Vm.truth c) w)
end Go.Proofs.YtpbmjknhfgdnnaaGreatDoor
/- first: what must be answered ahead of everything else.  -/
namespace Go.Proofs.YtpbmjknhfgdnnaaGreatDoor
open Go.RowKit

theorem v_comp : Vm.comp (Vm.plain ⟨2, 1, 0, ⟨#[]⟩⟩) (Vm.plain ⟨3, 10, 1, ⟨#[]⟩⟩) = (0, true) := by decide +kernel
theorem v_order : Vm.order (Vm.plain ⟨2, 1, 0, ⟨#[]⟩⟩) (Vm.plain ⟨3, 10, 1, ⟨#[]⟩⟩) = -1 := by decide +kernel
theorem v_right : Vm.rightB ⟨4, 0, 0, ⟨#[105, 116, 39, 115]⟩⟩ = true := by
  have h : Lib.validD [105, 116, 39, 115] = true := by
    rw [Lib.validD_cons _ _ (by decide), Lib.validD_cons _ _ (by decide), Lib.validD_cons _ _ (by decide), Lib.validD_cons _ _ (by decide)]; rfl
  unfold Vm.rightB
  simp only [Int.reduceEq, if_false, if_true, decide_true, Bool.true_and]
  rw [h]
  rfl
theorem v_parse : Vm.parse (⟨#[39, 105, 116, 39, 39, 115, 39]⟩ : ByteArray).data.toList = (⟨4, 0, 0, ⟨#[105, 116, 39, 115]⟩⟩, true) := by
  show (Vm.ok ⟨4, 0, 0, ⟨#[105, 116, 39, 115]⟩⟩) = _
  exact Vm.ok_right v_right
theorem v_parse2 : Vm.parse (⟨#[88, 39, 48, 71, 39]⟩ : ByteArray).data.toList = (Vm.nil, false) := by decide +kernel
theorem v_print : Vm.print (Vm.plain ⟨3, 10, 1, ⟨#[]⟩⟩) = [49, 46, 48] := by
  have h : Lib.decDigits 10 = [49, 48] := by
    rw [Lib.decDigits, dif_neg (by omega), Lib.decDigits, dif_pos (by omega)]; rfl
  have hp : padD 10 1 = [49, 48] := by unfold padD; rw [h]; rfl
  have hr : Vm.plain ⟨3, 10, 1, ⟨#[]⟩⟩ = ⟨3, 10, 1, ⟨#[]⟩⟩ := by decide +kernel
  rw [hr]
  show printM 10 1 = _
  unfold printM
  rw [if_pos (by decide), if_neg (by decide)]
  show dotD 10 1 = _
  unfold dotD
  rw [if_neg (by decide), hp]; rfl
theorem v_name : Vm.name 3 2 = [68, 69, 67, 73, 77, 65, 76, 40, 50, 41] := by decide +kernel
theorem v_or : Vm.notT (Vm.andT (Vm.notT 2) (Vm.notT 1)) = 1 := by decide
theorem v_truth : Vm.truth ⟨1, 1, 0, ⟨#[]⟩⟩ = 1 := by decide +kernel

set_option maxRecDepth 100000 in
set_option maxHeartbeats 4000000 in
theorem first3_true (V : ValCon) (w : World) (he : EnvV w) : Calls Tryz.prog 10 #[] w (Says true w) := by
  have HE := Lib.hid he
  clear he
  have A0 : Hid (Fx w.heap.size 2 1 0 ⟨#[]⟩ ((w.alloc (.cells #[.int .i64 2, .int .i64 1, .int .i64 0, .string ⟨#[]⟩] 24)).alloc (.cells #[.int .i64 3, .int .i64 10, .int .i64 1, .string ⟨#[]⟩] 24))) :=
    (Fx.new w 2 1 0 ⟨#[]⟩ _).keep ((Below.refl _ _).alloc (Nat.le_refl _) _)
  have B0 : Hid (Fx (w.heap.size + 1) 3 10 1 ⟨#[]⟩ ((w.alloc (.cells #[.int .i64 2, .int .i64 1, .int .i64 0, .string ⟨#[]⟩] 24)).alloc (.cells #[.int .i64 3, .int .i64 10, .int .i64 1, .string ⟨#[]⟩] 24))) := by
    have h := Fx.new (w.alloc (.cells #[.int .i64 2, .int .i64 1, .int .i64 0, .string ⟨#[]⟩] 24)) 3 10 1 ⟨#[]⟩ 24
    rw [show (w.alloc (.cells #[.int .i64 2, .int .i64 1, .int .i64 0, .string ⟨#[]⟩] 24)).heap.size = w.heap.size + 1 by simp] at h
    exact h
  have z0 : (⟨#[]⟩ : ByteArray).size ≤ maxLen := Nat.zero_le _
  go_enter Tryz.func10, Tryz.ntmps10
  go_wp2_with fail
  refine (V.compare ⟨2, 1, 0, ⟨#[]⟩⟩ ⟨3, 10, 1, ⟨#[]⟩⟩ _ (HE.out.keep (two w _ _)) (by unfold i64; decide) (by unfold i64; decide) z0 z0).mono ?_
  rintro e w1 ⟨rfl, hb⟩
  rw [v_comp]
  have HB1 := Lib.hid ((two w _ _).trans (hb.mono (by simp; omega)))
  have HE1 := Lib.hid (HE.out.keep HB1.out)
  have A1 := Lib.hid (A0.out.keep hb); have B1 := Lib.hid (B0.out.keep hb)
  clear hb A0 B0 HE
  dsimp only
  go_wp2_with fail
  refine (V.parse _ _ HE1.out (by decide)).mono ?_
  rintro e w2 ⟨rfl, hb⟩
  rw [v_parse]
  have hx := Fx.new w2 4 0 0 ⟨#[105, 116, 39, 115]⟩ 24
  have hb2 := hb.alloc hb.size (.cells #[.int .i64 4, .int .i64 0, .int .i64 0, .string ⟨#[105, 116, 39, 115]⟩] 24)
  have HB2 := Lib.hid (HB1.out.trans (hb2.mono HB1.out.size))
  have HE2 := Lib.hid (HE1.out.keep hb2)
  have A2 := Lib.hid (A1.out.keep hb2); have B2 := Lib.hid (B1.out.keep hb2); have C2 := Lib.hid hx
  clear hb hb2 hx A1 B1 HE1 HB1
  dsimp only
  go_wp2_with fail
  refine (V.parse _ _ HE2.out (by decide)).mono ?_
  rintro e w3 ⟨rfl, hb⟩
  rw [v_parse2]
  have hb3 := hb.alloc hb.size (.cells #[.int .i64 0, .int .i64 0, .int .i64 0, .string ⟨#[]⟩] 24)
  have HB3 := Lib.hid (HB2.out.trans (hb3.mono HB2.out.size))
  have HE3 := Lib.hid (HE2.out.keep hb3)
  have A3 := Lib.hid (A2.out.keep hb3); have B3 := Lib.hid (B2.out.keep hb3); have C3 := Lib.hid (C2.out.keep hb3)
  clear hb hb3 A2 B2 C2 HE2 HB2
  dsimp only [Vm.nil]
  have a0 := A3.out.bx.c0; have a1 := A3.out.bx.c1; have a2 := A3.out.bx.c2; have a3 := A3.out.bx.c3
  have b0 := B3.out.bx.c0; have b1 := B3.out.bx.c1; have b2 := B3.out.bx.c2; have b3 := B3.out.bx.c3
  have c3 := C3.out.bx.c3
  go_wp2_with fail
  refine (V.order ⟨2, 1, 0, ⟨#[]⟩⟩ ⟨3, 10, 1, ⟨#[]⟩⟩ _ HE3.out (by unfold i64; decide) (by unfold i64; decide) z0 z0).mono ?_
  rintro e w4 ⟨rfl, hb⟩
  rw [v_order]
  have HB4 := Lib.hid (HB3.out.trans (hb.mono HB3.out.size))
  have HE4 := Lib.hid (HE3.out.keep hb)
  have B4 := Lib.hid (B3.out.keep hb); have C4 := Lib.hid (C3.out.keep hb)
  clear hb a0 a1 a2 a3 b0 b1 b2 b3 c3 A3 B3 C3 HE3 HB3
  have b0 := B4.out.bx.c0; have b1 := B4.out.bx.c1; have b2 := B4.out.bx.c2; have b3 := B4.out.bx.c3
  have c3 := C4.out.bx.c3
  go_wp2_with fail
  refine (V.print ⟨3, 10, 1, ⟨#[]⟩⟩ _ HE4.out (by unfold i64; decide) z0).mono ?_
  rintro e w5 ⟨rfl, hb⟩
  rw [v_print]
  have HB5 := Lib.hid (HB4.out.trans (hb.mono HB4.out.size))
  have HE5 := Lib.hid (HE4.out.keep hb)
  clear hb b0 b1 b2 b3 c3 B4 C4 HE4 HB4
  go_wp2_with fail
  refine (V.name 3 2 _ HE5.out).mono ?_
  rintro e w6 ⟨rfl, hb⟩
  rw [v_name]
  have HB6 := Lib.hid (HB5.out.trans (hb.mono HB5.out.size))
  have HE6 := Lib.hid (HE5.out.keep hb)
  clear hb HE5 HB5
  go_wp2_with fail
  refine (V.or 2 1 _).mono ?_
  rintro e w7 ⟨rfl, hb⟩
  rw [v_or]
  have HB7 := Lib.hid (HB6.out.trans (hb.mono HB6.out.size))
  have HE7 := Lib.hid (HE6.out.keep hb)
  clear hb HE6 HB6
  go_wp2_with fail
  refine (V.bool true _).mono ?_
  rintro e w8 ⟨rfl, hb⟩
  have HB8 := Lib.hid (HB7.out.trans (hb.mono HB7.out.size))
  have HE8 := Lib.hid (HE7.out.keep hb)
  clear hb HE7 HB7
  dsimp only
  go_wp2_with fail
  refine (V.truth ⟨1, 1, 0, ⟨#[]⟩⟩ _ HE8.out z0).mono ?_
  rintro e w9 ⟨rfl, hb⟩
  rw [v_truth]
  have HB9 := Lib.hid (HB8.out.trans (hb.mono HB8.out.size))
  clear hb HE8 HB8
  go_wp2
  go_ret
  exact Says.mk (by first | rfl | decide) HB9.out
end Go.Proofs.YtpbmjknhfgdnnaaGreatDoor
