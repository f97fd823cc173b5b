/- Layer 8: trees while a loop over a function lasts; keys that come in order. -/
import Derived.Test.YtlakolcjgnmllaaTreG4
import Derived.Test.YtlakolcjgnmllaaTreOm
namespace Go.Proofs.Ytlakolcjgnmllaa
open Go.RowKit

/-- cells that are not of ex lie as they lay -/
structure Okc (ex : Nat → Prop) (w w' : World) : Prop where
  size : w.heap.size ≤ w'.heap.size
  same : ∀ (k : Nat) (o : Obj), w.heap[k]? = some o → o.isCells = true → ¬ ex k → w'.heap[k]? = some o
theorem okc_grown {ex : Nat → Prop} {w w' : World} {row : Option Nat} (hg : w.grownBy w' row) (hr : ∀ r, row = some r → ∃ o : Obj, w.heap[r]? = some o ∧ o.isCells = false) : Okc ex w w' :=
  ⟨hg.size, fun _ _ h ho _ => grown_block8 hg hr h ho⟩
theorem cells_of8 {w : World} {q : Addr} {v : Value} (h : w.cell? q = some v) : ∃ o, w.heap[q.block]? = some o ∧ o.isCells = true := by
  unfold World.cell? at h
  cases hb : w.heap[q.block]? with
  | none => rw [hb] at h; cases h
  | some o =>
    cases o with
    | cells c t f => exact ⟨_, rfl, rfl⟩
    | _ => rw [hb] at h; cases h
theorem Okc.cell {ex : Nat → Prop} {w w' : World} (ho : Okc ex w w') {q : Addr} {v : Value} (h : w.cell? q = some v) (hx : ¬ ex q.block) : w'.cell? q = some v := by
  obtain ⟨o, h1, h2⟩ := cells_of8 h
  have h3 := ho.same _ _ h1 h2 hx
  rw [← h]
  obtain ⟨b, f, s⟩ := q
  simp only at h1 h3
  simp [World.cell?, h1, h3]
theorem Rv.keepC {ex : Nat → Prop} {a : Option Addr} {n c : Nat} {vs : List Value} {W W' : World} (h : Rv ex a n c vs W) (ho : Okc ex W W') : Rv ex a n c vs W' :=
  ⟨h.ln, fun h0 => by
    obtain ⟨g, off, e, hc, hg, hx, hcell⟩ := h.row h0
    exact ⟨g, off, e, hc, by have := ho.size; omega, hx, fun j hj => ho.cell (hcell j hj) hx⟩⟩
theorem Nb.keepC {ex : Nat → Prop} {p : Nat} {ka va ba : Option Addr} {kn kc vn vc bn bc sz : Nat} {W W' : World} (h : Nb p ka kn kc va vn vc ba bn bc sz W) (ho : Okc ex W W') (hx : ¬ ex p) : Nb p ka kn kc va vn vc ba bn bc sz W' := ho.same _ _ h rfl hx
theorem Tn.keepC {ex : Nat → Prop} : ∀ {h p : Nat} {t : Tm.T} {W W' : World}, Tn ex h p t W → Okc ex W W' → Tn ex h p t W'
  | 0, _, _, _, _, ht, ho => by
    obtain ⟨l, e, hx, ka, kc, va, vc, ba, bc, hn, hk, hv, hcp⟩ := ht
    exact ⟨l, e, hx, ka, kc, va, vc, ba, bc, hn.keepC ho hx, hk.keepC ho, hv.keepC ho, hcp⟩
  | h + 1, _, _, _, _, ht, ho => by
    obtain ⟨ks, ps, e, hx, hl, ⟨ka, kc, va, vc, ba, bc, hn, hk, hv, hcp⟩, hj⟩ := ht
    exact ⟨ks, ps, e, hx, hl, ⟨ka, kc, va, vc, ba, bc, hn.keepC ho hx, hk.keepC ho, hv.keepC ho, hcp⟩, fun j hj2 => (hj j hj2).keepC ho⟩
theorem Te.grown {ex : Nat → Prop} {t : Nat} {l : List Tm.E} {w w' : World} {row : Option Nat} (h : Te ex t l w) (hg : w.grownBy w' row) (hr : ∀ r, row = some r → ∃ o : Obj, w.heap[r]? = some o ∧ o.isCells = false) : Te ex t l w' := by
  obtain ⟨r, h, e⟩ := h
  refine ⟨r, ⟨h.ok, h.mu, fun e => grown_block8 hg hr (h.no e) rfl, fun x e => ?_⟩, e⟩
  obtain ⟨p, hp, hT⟩ := h.yes x e
  exact ⟨p, grown_block8 hg hr hp rfl, hT.keepC (okc_grown hg hr)⟩
theorem P2.grown {W w w' : World} {ex : Nat → Prop} {a b : Nat} {la lb : List Tm.E} {row : Option Nat} (h : P2 W ex a b la lb w) (hg : w.grownBy w' row) (hr : ∀ r, row = some r → W.heap.size ≤ r ∧ ∃ o : Obj, w.heap[r]? = some o ∧ o.isCells = false) : P2 W ex a b la lb w' :=
  ⟨h.A.grown hg (fun r e => (hr r e).2), h.B.grown hg (fun r e => (hr r e).2), h.ne, h.bel.grown hg h.bel.size (fun k e => (hr k e).1), fun k hk => ⟨(h.lo k hk).1, by have := (h.lo k hk).2; have := hg.size; omega⟩⟩
/-- a variable that will be written -/
theorem P2.more {W w : World} {ex : Nat → Prop} {a b : Nat} {la lb : List Tm.E} (h : P2 W ex a b la lb w) (x : Obj) : P2 W (exs ex w.heap.size) a b la lb (w.alloc x) :=
  ⟨(h.A.more (Nat.le_refl _)).below (one_b8 w x), (h.B.more (Nat.le_refl _)).below (one_b8 w x), h.ne, h.bel.trans ((one_b8 w x).mono h.bel.size), fun k hk => by
    have hs := h.bel.size
    rw [World.size_alloc]
    rcases hk with hk | rfl
    · have := h.lo k hk; omega
    · omega⟩
/-- a variable of ex that is no tree is written -/
theorem P2.var {W w w' : World} {ex : Nat → Prop} {a b g : Nat} {la lb : List Tm.E} (h : P2 W ex a b la lb w) (ho : Only (fun k => k = g) w w') (hg : ex g) (ha : a ≠ g) (hb : b ≠ g) : P2 W ex a b la lb w' :=
  ⟨h.A.other ho hg ha, h.B.other ho hg hb, h.ne, below_only8 h.bel ho (h.lo g hg).1 h.bel.size, fun k hk => ⟨(h.lo k hk).1, by have := (h.lo k hk).2; have := ho.size; omega⟩⟩
theorem p2_copy {W w : World} {ex : Nat → Prop} {a : Nat} {la : List Tm.E} (h : Te ex a la w) (hb : Below W.heap.size W w) (hlo : ∀ k, ex k → W.heap.size ≤ k ∧ k < w.heap.size) :
    Calls Try.prog 13 #[.pointer (some ⟨a, 0, none⟩)] w fun e w' => ∃ t2, e = .returned (.pointer (some ⟨t2, 0, none⟩)) ∧ w.heap.size ≤ t2 ∧ P2 W (exs ex t2) a t2 la la w' ∧ Below w.heap.size w w' := by
  refine (te_copy h).mono ?_
  rintro e w' ⟨t2, rfl, h1, h2, h3, h4⟩
  refine ⟨t2, rfl, h1, ⟨(h.more h1).below h4, h3, fun e => by have := h.lt; omega, hb.trans (h4.mono hb.size), fun k hk => ?_⟩, h4⟩
  rcases hk with hk | rfl
  · have := hlo k hk; have := h4.size; omega
  · have := hb.size; omega
namespace Tm
theorem get_mem : ∀ {l : List E} {k : K} {v : Int}, get l k = (v, true) → (k, v) ∈ l
  | [], _, _, h => by cases h
  | p :: r, k, v, h => by
    unfold get at h
    split at h
    · rename_i e
      have : p.2 = v := by injection h
      subst e this
      exact List.mem_cons_self
    · exact List.mem_cons_of_mem _ (get_mem h)
theorem mem_get : ∀ {l : List E} {p : E}, Asc l → p ∈ l → get l p.1 = (p.2, true)
  | q :: r, p, ha, h => by
    obtain ⟨h1, h2⟩ := asc_cons ha
    unfold get
    rcases List.mem_cons.1 h with rfl | h
    · rw [if_pos rfl]
    · rw [if_neg (lt_ne (h1 p h)), mem_get h2 h]
/-- the last key of what has come -/
def lastk (pre : List E) : K := (pre.getLast?.map (·.1)).getD []
theorem lastk_snoc (pre : List E) (x : E) : lastk (pre ++ [x]) = x.1 := by simp [lastk]
/-- what comes next goes on -/
def Nx (la pre : List E) (x : E) : Prop := get la x.1 = (x.2, true) ∧ (0 < pre.length → lt (lastk pre) x.1 = true)
theorem nx_prefix {la pre : List E} {x : E} (ha : Asc la) (h : pre ++ [x] <+: la) : Nx la pre x := by
  have hs : (pre ++ [x]).Sublist la := h.sublist
  refine ⟨mem_get ha (hs.subset (by simp)), fun h0 => ?_⟩
  have hp : Asc (pre ++ [x]) := ha.sublist hs
  have hne : pre ≠ [] := fun e => by rw [e] at h0; cases h0
  unfold Asc at hp
  have := (List.pairwise_append.1 hp).2.2 (pre.getLast hne) (List.getLast_mem hne) x (by simp)
  rw [lastk, List.getLast?_eq_some_getLast hne]
  exact this
end Tm
/-! ### a range over a function, where the activation is long -/
section
variable {F : Fence} {n : Nat} {P : Program}
theorem rangeFunc_ownT {α : Type} {g : Operand} {ps : Array Tmp} {assign body : Code} {Q : Exit → Act → World → Prop} {tm : Array Value} {df : List Deferred} {w : World} (f : Array Value → α → Array Value)
    (hro : F.round = none) (h1 : 1 ≤ n) {gf : Nat} {lb : Array Value} (hg : (Act.mk tm df).eval g = .func (.func gf) #[] lb) (hFg : F.fn gf) (eg : ∀ args w, (callFunc gf args).run P w = .ok (.enter gf args) w)
    {encs : α → Array Value} {Kp : World → World → Prop} {S Sp : List α → Prop} {N : Nat} {w0 : World} (hseq : SeqStopsK F (n - 1) P gf lb encs Kp S Sp N w0)
    (hKt : ∀ {A B C : World}, Kp A B → Kp B C → Kp A C) (hKb : ∀ (W : World) (l : Nat) (o o' : Obj), w.heap.size ≤ l → W.heap[l]? = some o → o.isCells = false → o.isWalk = false → Kp W (W.putObj l o')) (hb0 : Below w0.heap.size w0 w) (hps : ∀ x, (encs x).size = ps.size)
    (I : List α → World → Prop) (Ix : Code → List α → World → Prop) (hI : OwnFrom w.heap.size I) (hIx : ∀ c, OwnFrom w.heap.size (Ix c)) (h0 : I [] w)
    (hassign : ∀ (l : Nat) (x : α) (W : World) (K : Act → World → Prop), K { tmps := f tm x, defers := [] } W →
      assign.wpIn (F.inRound l) (n - 1 - 1) P (Exit.then K (fun _ _ _ => False)) { tmps := (ps.zip (encs x)).foldl (fun t (p, v) => t.setIfInBounds p v) tm, defers := [] } W)
    (hbody : ∀ (l : Nat) (pre : List α) (x : α) (W : World), I pre W → pre.length < N → body.wpIn (F.inRound l) (n - 1 - 1) P (ownPostG w.heap.size Kp I Ix (pre ++ [x]) W) { tmps := f tm x, defers := [] } W)
    (hdone : ∀ (D : Nat) (xs : List α) (W : World), w.heap.size ≤ D → S xs → I xs W → W.heap[D]? = some (.deferred (some [])) → Q .normal { tmps := tm, defers := { target := .collected D, args := #[] } :: df } W)
    (hstop : ∀ (D : Nat) (c : Code) (pre : List α) (W : World), w.heap.size ≤ D → Sp pre → Ix c pre W → W.heap[D]? = some (.deferred (some [])) → c.wpIn F n P Q { tmps := tm, defers := { target := .collected D, args := #[] } :: df } W) :
    (Code.rangeFunc g ps assign body).wpIn F n P Q { tmps := tm, defers := df } w :=
  wpIn_rangeFunc_ownG hro h1 hg hFg eg hseq (fun h k => hKt h k) hKb hb0 hps I Ix hI hIx h0 (fun x => { tmps := f tm x, defers := [] }) hassign hbody hdone hstop
end
theorem keepsE {ex : Nat → Prop} {B : Nat} {w w' : World} (h : Only ex w w') (hx : ∀ k, ex k → k < B) : KeepsFrom B w w' :=
  ⟨h.size, fun k o hB hk _ => by rw [h.block k (heap_lt hk) (fun e => by have := hx k e; omega)]; exact hk⟩
theorem boxed_ne {w : World} {b c : Nat} {t t' : TypeId} {v v' : Value} (h : Boxed w b t v) (h' : Boxed w c t' v') (hne : t ≠ t') : b ≠ c := fun e => by
  subst e
  have h2 := (show w.heap[b]? = _ from h).symm.trans h'
  simp only [Option.some.injEq, Obj.cells.injEq] at h2
  exact hne h2.2.1
/-- the Boolean that lies there -/
def boolAt (q : Addr) (w : World) : Bool := match w.cell? q with | some (.bool b) => b | _ => false
theorem boolAt_eq {q : Addr} {w : World} {b : Bool} (h : w.cell? q = some (.bool b)) : w.cell? q = some (.bool (boolAt q w)) := by
  unfold boolAt; rw [h]
theorem results_cellb {fn : Func} {q : Tmp} (h : fn.results = #[.cell q 4]) (tmps : Array Value) (w : World) (g : Nat) (x : Bool) (ht : tmps.getD q undef = .pointer (some ⟨g, 0, none⟩)) (hc : w.cell? ⟨g, 0, none⟩ = some (.bool x)) : (results fn tmps).run Try.prog w = .ok (.bool x) w := by
  simp only [Array.getD_eq_getD_getElem?] at ht
  simp [results, h, go_sem, ht, hc]
/-- what stands while TreeWalks goes over its tree -/
structure Wk (W : World) (ex : Nat → Prop) (a t2 p b5 b8 b9 b10 sp : Nat) (la l' : List Tm.E) (n : Nat) (K : Tm.K) (w : World) : Prop where
  p2 : P2 W ex a t2 l' la w
  x3 : Boxed w p 5 (.int .u8 (sp : Int))
  x4 : Boxed w (p + 1) 4 (.bool false)
  x5 : Boxed w b5 24 (.pointer (some ⟨a, 0, none⟩))
  x8 : Boxed w b8 24 (.pointer (some ⟨t2, 0, none⟩))
  x9 : Boxed w b9 3 (.int .i64 (n : Int))
  x10 : Boxed w b10 9 (.string (bstr K))
structure Ws (W : World) (ex : Nat → Prop) (a t2 p b5 b8 b9 b10 : Nat) : Prop where
  e9 : ex b9
  e10 : ex b10
  a9 : a ≠ b9
  a10 : a ≠ b10
  t9 : t2 ≠ b9
  t10 : t2 ≠ b10
  d : b9 ≠ b10
  o : a ≠ p ∧ a ≠ p + 1 ∧ a ≠ b5 ∧ a ≠ b8
  o9 : b9 ≠ p ∧ b9 ≠ p + 1 ∧ b9 ≠ b5 ∧ b9 ≠ b8
  o10 : b10 ≠ p ∧ b10 ≠ p + 1 ∧ b10 ≠ b5 ∧ b10 ≠ b8
  lo : W.heap.size ≤ p
section
variable {W : World} {ex : Nat → Prop} {a t2 p b5 b8 b9 b10 sp n : Nat} {la l' : List Tm.E} {K : Tm.K} {w w' : World}
theorem Wk.below (h : Wk W ex a t2 p b5 b8 b9 b10 sp la l' n K w) (hb : Below w.heap.size w w') : Wk W ex a t2 p b5 b8 b9 b10 sp la l' n K w' :=
  ⟨h.p2.below hb, (hb.block _ h.x3.lt).trans h.x3, (hb.block _ h.x4.lt).trans h.x4, (hb.block _ h.x5.lt).trans h.x5, (hb.block _ h.x8.lt).trans h.x8, (hb.block _ h.x9.lt).trans h.x9, (hb.block _ h.x10.lt).trans h.x10⟩
theorem Wk.grown {row : Option Nat} (h : Wk W ex a t2 p b5 b8 b9 b10 sp la l' n K w) (hg : w.grownBy w' row) (hr : ∀ r, row = some r → W.heap.size ≤ r ∧ ∃ o : Obj, w.heap[r]? = some o ∧ o.isCells = false) : Wk W ex a t2 p b5 b8 b9 b10 sp la l' n K w' :=
  have hr' := fun r e => (hr r e).2
  ⟨h.p2.grown hg hr, grown_block8 hg hr' h.x3 rfl, grown_block8 hg hr' h.x4 rfl, grown_block8 hg hr' h.x5 rfl, grown_block8 hg hr' h.x8 rfl, grown_block8 hg hr' h.x9 rfl, grown_block8 hg hr' h.x10 rfl⟩
theorem Wk.tree (h : Wk W ex a t2 p b5 b8 b9 b10 sp la l' n K w) (hs : Ws W ex a t2 p b5 b8 b9 b10) {l2 : List Tm.E} (ht : Te ex a l2 w') (ho : Only (fun k => k = a) w w') : Wk W ex a t2 p b5 b8 b9 b10 sp la l2 n K w' ∧ Only ex w w' :=
  ⟨⟨(h.p2.only ht ho).1, (ho.block _ h.x3.lt (fun e => hs.o.1 e.symm)).trans h.x3, (ho.block _ h.x4.lt (fun e => hs.o.2.1 e.symm)).trans h.x4, (ho.block _ h.x5.lt (fun e => hs.o.2.2.1 e.symm)).trans h.x5, (ho.block _ h.x8.lt (fun e => hs.o.2.2.2 e.symm)).trans h.x8, (ho.block _ h.x9.lt (fun e => hs.a9 e.symm)).trans h.x9, (ho.block _ h.x10.lt (fun e => hs.a10 e.symm)).trans h.x10⟩, (h.p2.only ht ho).2⟩
theorem only_set8 (w : World) (g : Nat) (v : Value) : Only (fun k => k = g) w (w.setCell ⟨g, 0, none⟩ v) := (Only.refl (fun k => k = g) w).setCell (p := fun k => k = g) (q := ⟨g, 0, none⟩) (.inl rfl) v
theorem Wk.setN (h : Wk W ex a t2 p b5 b8 b9 b10 sp la l' n K w) (hs : Ws W ex a t2 p b5 b8 b9 b10) (m : Nat) : Wk W ex a t2 p b5 b8 b9 b10 sp la l' m K (w.setCell ⟨b9, 0, none⟩ (.int .i64 (m : Int))) ∧ Only ex w (w.setCell ⟨b9, 0, none⟩ (.int .i64 (m : Int))) :=
  have ho := only_set8 w b9 (.int .i64 (m : Int))
  ⟨⟨h.p2.var ho hs.e9 hs.a9 hs.t9, (ho.block _ h.x3.lt (fun e => hs.o9.1 e.symm)).trans h.x3, (ho.block _ h.x4.lt (fun e => hs.o9.2.1 e.symm)).trans h.x4, (ho.block _ h.x5.lt (fun e => hs.o9.2.2.1 e.symm)).trans h.x5, (ho.block _ h.x8.lt (fun e => hs.o9.2.2.2 e.symm)).trans h.x8, h.x9.set _, (ho.block _ h.x10.lt (fun e => hs.d e.symm)).trans h.x10⟩, only_mono8 ho (fun _k e => e ▸ hs.e9)⟩
theorem Wk.setK (h : Wk W ex a t2 p b5 b8 b9 b10 sp la l' n K w) (hs : Ws W ex a t2 p b5 b8 b9 b10) (K2 : Tm.K) : Wk W ex a t2 p b5 b8 b9 b10 sp la l' n K2 (w.setCell ⟨b10, 0, none⟩ (.string (bstr K2))) ∧ Only ex w (w.setCell ⟨b10, 0, none⟩ (.string (bstr K2))) :=
  have ho := only_set8 w b10 (.string (bstr K2))
  ⟨⟨h.p2.var ho hs.e10 hs.a10 hs.t10, (ho.block _ h.x3.lt (fun e => hs.o10.1 e.symm)).trans h.x3, (ho.block _ h.x4.lt (fun e => hs.o10.2.1 e.symm)).trans h.x4, (ho.block _ h.x5.lt (fun e => hs.o10.2.2.1 e.symm)).trans h.x5, (ho.block _ h.x8.lt (fun e => hs.o10.2.2.2 e.symm)).trans h.x8, (ho.block _ h.x9.lt hs.d).trans h.x9, h.x10.set _⟩, only_mono8 ho (fun _k e => e ▸ hs.e10)⟩
theorem wk_get {k : Tm.K} (h : Wk W ex a t2 p b5 b8 b9 b10 sp la l' n K w) : Calls Try.prog 14 #[.pointer (some ⟨t2, 0, none⟩), .string (bstr k)] w fun e w' => e = .returned (.tuple #[.int .i64 (Tm.get la k).1, .bool (Tm.get la k).2]) ∧ Wk W ex a t2 p b5 b8 b9 b10 sp la l' n K w' ∧ Only ex w w' := by
  refine (p2_get h.p2.swap).mono ?_
  rintro e w' ⟨rfl, _, h2⟩
  exact ⟨rfl, h.below h2, only_of8 h2⟩
theorem wk_delete {k : Tm.K} (h : Wk W ex a t2 p b5 b8 b9 b10 sp la l' n K w) (hs : Ws W ex a t2 p b5 b8 b9 b10) (hl : l'.length ≤ 300000) : Calls Try.prog 12 #[.pointer (some ⟨a, 0, none⟩), .string (bstr k)] w fun e w' => e = .returned (.bool (Tm.has l' k)) ∧ Wk W ex a t2 p b5 b8 b9 b10 sp la (Tm.del l' k) n K w' ∧ Only ex w w' := by
  refine (te_delete h.p2.A hl h.p2.hex).mono ?_
  rintro e w' ⟨rfl, h1, h2⟩
  exact ⟨rfl, h.tree hs h1 h2⟩
theorem wk_put {k : Tm.K} {v : Int} (h : Wk W ex a t2 p b5 b8 b9 b10 sp la l' n K w) (hs : Ws W ex a t2 p b5 b8 b9 b10) (hl : l'.length ≤ 300000) : Calls Try.prog 10 #[.pointer (some ⟨a, 0, none⟩), .string (bstr k), .int .i64 v] w fun e w' => e = .returned (.bool (!Tm.has l' k)) ∧ Wk W ex a t2 p b5 b8 b9 b10 sp la (Tm.ins l' k v) n K w' ∧ Only ex w w' := by
  refine (te_put h.p2.A hl h.p2.hex).mono ?_
  rintro e w' ⟨rfl, h1, h2⟩
  exact ⟨rfl, h.tree hs h1 h2⟩
theorem wk_start {exc : Nat → Prop} (h : P2 W exc a t2 la la w) (x3 : Boxed w p 5 (.int .u8 (sp : Int))) (x4 : Boxed w (p + 1) 4 (.bool false)) (x5 : Boxed w b5 24 (.pointer (some ⟨a, 0, none⟩))) (ho : a ≠ p ∧ a ≠ p + 1 ∧ a ≠ b5) (hp : W.heap.size ≤ p) :
    ∃ ex3, Ws W ex3 a t2 p b5 w.heap.size (w.heap.size + 1) (w.heap.size + 1 + 1) ∧ Wk W ex3 a t2 p b5 w.heap.size (w.heap.size + 1) (w.heap.size + 1 + 1) sp la la 0 [] (((w.alloc (.cells #[.pointer (some ⟨t2, 0, none⟩)] 24)).alloc (.cells #[.int .i64 0] 3)).alloc (.cells #[.string ⟨#[]⟩] 9)) := by
  have hA := h.A.lt
  have hB := h.B.lt
  have l3 := x3.lt
  have l4 := x4.lt
  have l5 := x5.lt
  have h1 := (h.below (one_b8 w (.cells #[.pointer (some ⟨t2, 0, none⟩)] 24))).more (.cells #[.int .i64 0] 3)
  have h2 := h1.more (.cells #[.string ⟨#[]⟩] 9)
  rw [World.size_alloc, World.size_alloc] at h2
  have n9 := Boxed.new (w.alloc (.cells #[.pointer (some ⟨t2, 0, none⟩)] 24)) 3 (.int .i64 0)
  rw [World.size_alloc] at n9
  have n10 := Boxed.new ((w.alloc (.cells #[.pointer (some ⟨t2, 0, none⟩)] 24)).alloc (.cells #[.int .i64 0] 3)) 9 (.string ⟨#[]⟩)
  rw [World.size_alloc, World.size_alloc] at n10
  refine ⟨_, ⟨.inl (.inr (by simp)), .inr (by simp), by omega, by omega, by omega, by omega, by omega, ⟨ho.1, ho.2.1, ho.2.2, by omega⟩, ⟨by omega, by omega, by omega, by omega⟩, ⟨by omega, by omega, by omega, by omega⟩, hp⟩, h2, ((x3.alloc _).alloc _).alloc _, ((x4.alloc _).alloc _).alloc _, ((x5.alloc _).alloc _).alloc _, ((Boxed.new w _ _).alloc _).alloc _, n9.alloc _, n10⟩
end
end Go.Proofs.Ytlakolcjgnmllaa
