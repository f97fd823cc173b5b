/- Layer 9: walks that are made of walks: who owns what while a loop over a function lasts; what such a function promises; the loop. -/
import Derived.RangeFuncNested
import Derived.RangeFuncWrites
import Derived.RangeFuncBound
import Derived.RangeFuncCalls
import Derived.RangeFuncLeaves
import Derived.RangeFuncBox
import Derived.Test.YtdchapcpimhjaaaSecBase
import Derived.Test.YtdchapcpimhjaaaTreM
namespace Go.Proofs.Ytdchapcpimhjaaa
open Go.RowKit

/-- WHAT THE ONE WHO LOOPS MAY WRITE IN A ROUND: blocks that his own cells name -/
structure Co where
  V : World → Prop
  O : World → Nat → Prop
  lt : ∀ X k, V X → O X k → k < X.heap.size
  det : ∀ X Y, V X → X.heap.size ≤ Y.heap.size → (∀ k, O X k → Y.heap[k]? = X.heap[k]?) → V Y ∧ ∀ k, O Y k ↔ O X k
/-- what the function that is looped over may do between two rounds -/
def Co.mv (c : Co) (l B : Nat) (X Y : World) : Prop := Only (fun k => B ≤ k ∧ ¬ c.O X k ∧ k ≠ l) X Y
/-- what a round that goes on keeps -/
def Co.kq (c : Co) (l : Nat) (X Y : World) : Prop := Only (fun k => c.O X k ∨ k = l) X Y ∧ ∀ k, c.O Y k → c.O X k ∨ X.heap.size ≤ k
/-- what a loop's body may do -/
def Co.kb (c : Co) (X Y : World) : Prop := Only (c.O X) X Y ∧ ∀ k, c.O Y k → c.O X k ∨ X.heap.size ≤ k
theorem only_w {p q : Nat → Prop} {w w' : World} (h : Only p w w') (hq : ∀ k, p k → q k) : Only q w w' := ⟨h.os, h.tape, h.output, h.size, fun k hk hx => h.block k hk (fun e => hx (hq k e))⟩
theorem only_put (W : World) (l : Nat) (o : Obj) : Only (fun k => k = l) W (W.putObj l o) := ⟨rfl, rfl, rfl, by simp, fun _ _ hk => World.putObj_heap_other hk⟩
theorem only_new (p : Nat → Prop) (W : World) (o : Obj) : Only p W (W.alloc o) := (Only.refl p W).alloc o
theorem Co.same (c : Co) {X Y : World} {p : Nat → Prop} (hv : c.V X) (h : Only p X Y) (hp : ∀ k, p k → ¬ c.O X k) : c.V Y ∧ ∀ k, c.O Y k ↔ c.O X k :=
  c.det X Y hv h.size (fun k hk => h.block k (c.lt X k hv hk) (fun e => hp k e hk))
/-- WHAT IS LOOPED OVER: it hands out L, whatever the one who loops writes of his own (all of it in D), and stops when he says so -/
def SeqX {α : Type} (g : FuncId) (lb : Array Value) (enc : α → Array Value) (L : List α) (D : Nat → Prop) (w : World) : Prop :=
  ∀ (m : Nat) (c : Co) (l : Nat) (J Jx : List α → World → Prop) (W : World), Below w.heap.size w W → (∀ X k, c.V X → c.O X k → D k) → w.heap.size ≤ l → l < W.heap.size → (∀ s X, J s X → c.V X ∧ ¬ c.O X l) →
    (∀ s X Y, J s X → c.mv l W.heap.size X Y → J s Y) → (∀ s X Y, Jx s X → c.V X → c.mv l W.heap.size X Y → Jx s Y) → (∀ s X, Jx s X → c.V X ∧ ¬ c.O X l) →
    (∀ m pre x W1, J pre W1 → pre ++ [x] <+: L → YieldAt Fence.wide m Try.prog l (enc x) W1 fun e W' =>
      (e = .returned (.bool true) ∧ J (pre ++ [x]) W' ∧ c.kq l W1 W') ∨ (e = .returned (.bool false) ∧ Jx (pre ++ [x]) W' ∧ c.kq l W1 W')) →
    J [] W → CallsIn Fence.wide (m + 1) Try.prog g (#[.func (.yield l) #[] #[]] ++ lb) W fun e W' => (∃ v, e = .returned v) ∧ (J L W' ∨ ∃ pre, pre <+: L ∧ Jx pre W')
theorem round_any {m : Nat} (m' : Nat) {P : Program} {l : Nat} {f : FuncId} {tmps : Array Value} {assign body : Code} {w : World} {R : Ending → World → Prop} (h : RoundIn Fence.wide m P l f tmps assign body w R) : RoundIn Fence.wide m' P l f tmps assign body w R :=
  ⟨h.1, fun c cs _ => h.2 c cs (room_wide _)⟩
/-- how the body of a round may be left -/
def ownX {α : Type} (c : Co) (I : List α → World → Prop) (Ix : Code → List α → World → Prop) (xs : List α) (W : World) : Exit → Act → World → Prop
  | .normal, _, W' => c.kb W W' ∧ I xs W'
  | .ret, _, W' => c.kb W W' ∧ Ix .ret xs W'
  | .exit id, _, W' => c.kb W W' ∧ Ix (.exit id) xs W'
  | .goto t, _, W' => c.kb W W' ∧ Ix (.goto t) xs W'
  | .panic _, _, _ => False
  | .outgrown, _, _ => False
section
variable {α : Type} {gop : Operand} {ps : Array Tmp} {assign body : Code} {Q : Exit → Act → World → Prop} {tm : Array Value} {df : List Deferred} {w : World} {n : Nat}
/-- THE LOOP -/
theorem rangeX (f : Array Value → α → Array Value) (c : Co) {gf : Nat} {lb : Array Value} {enc : α → Array Value} {L : List α} {D : Nat → Prop} {w0 : World} (h1 : 2 ≤ n)
    (hg : (Act.mk tm df).eval gop = .func (.func gf) #[] lb) (eg : ∀ args w, (callFunc gf args).run Try.prog w = .ok (.enter gf args) w) (hseq : SeqX gf lb enc L D w0) (hb0 : Below w0.heap.size w0 w) (hD : ∀ X k, c.V X → c.O X k → D k) (hps : ∀ x, (enc x).size = ps.size)
    (I : List α → World → Prop) (Ix : Code → List α → World → Prop) (hV : ∀ s X, I s X → c.V X) (hVx : ∀ cd s X, Ix cd s X → c.V X)
    (hI : ∀ s X Y, I s X → Only (fun k => w.heap.size ≤ k ∧ ¬ c.O X k) X Y → I s Y) (hIx : ∀ cd s X Y, Ix cd s X → Only (fun k => w.heap.size ≤ k ∧ ¬ c.O X k) X Y → Ix cd s Y) (h0 : I [] w)
    (hassign : ∀ (l : Nat) (x : α) (W : World) (K : Act → World → Prop), K { tmps := f tm x, defers := [] } W →
      assign.wpIn (Fence.wide.inRound l) (n - 1 - 1) Try.prog (Exit.then K (fun _ _ _ => False)) { tmps := (ps.zip (enc x)).foldl (fun t (p, v) => t.setIfInBounds p v) tm, defers := [] } W)
    (hbody : ∀ (l : Nat) (pre : List α) (x : α) (W : World), l = w.heap.size + 1 → l < W.heap.size → ¬ c.O W l → I pre W → pre ++ [x] <+: L → body.wpIn (Fence.wide.inRound l) (n - 1 - 1) Try.prog (ownX c I Ix (pre ++ [x]) W) { tmps := f tm x, defers := [] } W)
    (hdone : ∀ (Dn : Nat) (W : World), w.heap.size ≤ Dn → I L W → W.heap[Dn]? = some (.deferred (some [])) → ¬ c.O W Dn → Q .normal { tmps := tm, defers := { target := .collected Dn, args := #[] } :: df } W)
    (hstop : ∀ (Dn : Nat) (cd : Code) (pre : List α) (W : World), w.heap.size ≤ Dn → pre <+: L → Ix cd pre W → W.heap[Dn]? = some (.deferred (some [])) → ¬ c.O W Dn → cd.wpIn Fence.wide n Try.prog Q { tmps := tm, defers := { target := .collected Dn, args := #[] } :: df } W) :
    (Code.rangeFunc gop ps assign body).wpIn Fence.wide n Try.prog Q { tmps := tm, defers := df } w := by
  refine wpIn_rangeFunc ?_
  intro fn hfn
  rw [show Fence.wide.round = none from rfl]
  obtain ⟨d, hd⟩ : ∃ d, d = w.heap.size := ⟨_, rfl⟩
  obtain ⟨l, hl⟩ : ∃ l, l = d + 1 := ⟨_, rfl⟩
  obtain ⟨rec, hrec⟩ : ∃ rec : LoopState → Option Code → Loop, rec = fun st pe => { state := st, pending := pe, fn, tmps := tm, params := ps, assign, body, defers := d } := ⟨_, rfl⟩
  obtain ⟨W1, hW1⟩ : ∃ W1, W1 = (w.alloc (.deferred (some []))).alloc (.loop (rec .ready none)) := ⟨_, rfl⟩
  have hs1 : W1.heap.size = d + 2 := by rw [hW1, hd]; simp
  have hl1 : W1.heap[l]? = some (.loop (rec .ready none)) := by
    have := World.alloc_heap_new (w.alloc (.deferred (some []))) (.loop (rec .ready none))
    rw [World.size_alloc, ← hW1, ← hd, ← hl] at this
    exact this
  have hd1 : W1.heap[d]? = some (.deferred (some [])) := by
    rw [hW1, hd]
    exact (Below.heap_alloc _ _ _ (by simp)).trans (World.alloc_heap_new w _)
  have hon : ∀ p : Nat → Prop, Only p w W1 := fun p => by rw [hW1]; exact (only_new p w _).alloc _
  have hv0 := hV _ _ h0
  have hsm := c.same hv0 (hon (fun _ => False)) (fun _ h => h.elim)
  have hI1 : I [] W1 := hI _ _ _ h0 (hon _)
  have nol : ¬ c.O W1 l := fun h => by have := c.lt w l hv0 ((hsm.2 l).1 h); omega
  have nod : ¬ c.O W1 d := fun h => by have := c.lt w d hv0 ((hsm.2 d).1 h); omega
  have hB1 : Below w.heap.size w W1 := by rw [hW1]; exact ((Below.refl _ w).alloc (Nat.le_refl _) _).alloc (by simp) _
  refine ⟨l, [{ target := .collected d, args := #[] }], W1, { target := .fn (.func gf) lb, args := #[.func (.yield l) #[] #[]] }, W1, gf, #[.func (.yield l) #[] #[]] ++ lb, W1, ?_, ?_, ?_, ?_, fun _ => by omega, ?_⟩
  · rw [hW1, hl, hd, hrec, hd]; exact run_enterLoop_outer _ _ _ _ _
  · simp only [resolve, hg]
    simp [go_sem]
  · intro f' hf'
    trivial
  · simp [invoke, go_sem, eg]
  · -- what stands between two rounds; behind a jump
    obtain ⟨J, hJ⟩ : ∃ J : List α → World → Prop, J = fun pre W => I pre W ∧ W.heap[l]? = some (.loop (rec .ready none)) ∧ W.heap[d]? = some (.deferred (some [])) ∧ ¬ c.O W l ∧ ¬ c.O W d := ⟨_, rfl⟩
    obtain ⟨Jx, hJx⟩ : ∃ Jx : List α → World → Prop, Jx = fun pre W => ∃ cd, Ix cd pre W ∧ W.heap[l]? = some (.loop (rec .done (some cd))) ∧ W.heap[d]? = some (.deferred (some [])) ∧ ¬ c.O W l ∧ ¬ c.O W d := ⟨_, rfl⟩
    obtain ⟨n', hn'⟩ : ∃ n', n - 1 = n' + 1 := ⟨n - 2, by omega⟩
    rw [hn']
    refine (hseq n' c l J Jx W1 (hb0.trans (hB1.mono hb0.size)) hD (by have := hb0.size; omega) (by omega) ?_ ?_ ?_ ?_ ?_ ?_).mono ?_
    · intro s X h
      rw [hJ] at h
      exact ⟨hV _ _ h.1, h.2.2.2.1⟩
    · intro s X Y h hm
      rw [hJ] at h ⊢
      obtain ⟨a1, a2, a3, a4, a5⟩ := h
      have hsz := heap_lt a2
      have hsz2 := heap_lt a3
      have hs2 := c.same (hV _ _ a1) hm (fun k h => h.2.1)
      refine ⟨hI _ _ _ a1 (only_w hm (fun k h => ⟨by omega, h.2.1⟩)), ?_, ?_, fun h => a4 ((hs2.2 l).1 h), fun h => a5 ((hs2.2 d).1 h)⟩
      · rw [hm.block l hsz (fun h => h.2.2 rfl)]; exact a2
      · rw [hm.block d hsz2 (fun h => by omega)]; exact a3
    · intro s X Y h hv hm
      rw [hJx] at h ⊢
      obtain ⟨cd, a1, a2, a3, a4, a5⟩ := h
      have hsz := heap_lt a2
      have hsz2 := heap_lt a3
      have hs2 := c.same hv hm (fun k h => h.2.1)
      refine ⟨cd, hIx _ _ _ _ a1 (only_w hm (fun k h => ⟨by omega, h.2.1⟩)), ?_, ?_, fun h => a4 ((hs2.2 l).1 h), fun h => a5 ((hs2.2 d).1 h)⟩
      · rw [hm.block l hsz (fun h => h.2.2 rfl)]; exact a2
      · rw [hm.block d hsz2 (fun h => by omega)]; exact a3
    · intro s X h
      rw [hJx] at h
      obtain ⟨cd, a1, a2, a3, a4, a5⟩ := h
      exact ⟨hVx _ _ _ a1, a4⟩
    · -- one round
      intro m pre x W h hp
      rw [hJ] at h
      obtain ⟨a1, a2, a3, a4, a5⟩ := h
      have hlt := heap_lt a2
      have hltd := heap_lt a3
      have hv := hV _ _ a1
      have hy := run_yield (P := Try.prog) (args := enc x) a2 (by rw [hrec]; exact hps x)
      rw [hrec] at hy
      obtain ⟨bz, hbz⟩ : ∃ bz : Obj, bz = .loop { rec .ready none with state := .busy } := ⟨_, rfl⟩
      obtain ⟨X, hX⟩ : ∃ X, X = W.putObj l bz := ⟨_, rfl⟩
      have o1 : Only (fun k => k = l) W X := by rw [hX]; exact only_put _ _ _
      have e1 := c.same hv o1 (fun k h => h ▸ a4)
      have i1 : I pre X := hI _ _ _ a1 (only_w o1 (fun k h => ⟨by omega, h ▸ a4⟩))
      have l1 : X.heap[l]? = some (.loop { rec .ready none with state := .busy }) := by rw [hX, hbz]; exact World.putObj_heap_same hlt
      have d1 : X.heap[d]? = some (.deferred (some [])) := by rw [hX]; exact (World.putObj_heap_other (by omega)).trans a3
      have n1 : ¬ c.O X l := fun h => a4 ((e1.2 l).1 h)
      have n2 : ¬ c.O X d := fun h => a5 ((e1.2 d).1 h)
      refine ⟨fn, _, assign, body, hy, round_any (m := n - 1 - 1) m (roundIn_of_wpIn hfn (hassign l x W _ ⟨_, run_beginRound a2 (by rw [hrec]), ?_⟩))⟩
      have hX2 : X = W.putObj l (.loop { rec .ready none with state := .busy }) := by rw [hX, hbz]
      rw [← hX2]
      refine wpIn_mono (hbody l pre x X (by omega) (heap_lt l1) n1 i1 hp) ?_
      -- behind the body
      have fin : ∀ (jump : Option Code) (Y : World), c.kb X Y → c.V Y → ∃ Z, Z = Y.putObj l (.loop (rec (if jump.isNone then .ready else .done) jump)) ∧
          (Instr.endRound l jump).run Try.prog Y = .ok (.bool jump.isNone) Z ∧ Z.heap[l]? = some (.loop (rec (if jump.isNone then .ready else .done) jump)) ∧ Z.heap[d]? = some (.deferred (some [])) ∧ ¬ c.O Z l ∧ ¬ c.O Z d ∧ Only (fun k => w.heap.size ≤ k ∧ ¬ c.O Y k) Y Z ∧ c.kq l W Z := fun jump Y hk hvY => by
        have l2 : Y.heap[l]? = some (.loop { rec .ready none with state := .busy }) := (hk.1.block l (heap_lt l1) n1).trans l1
        have d2 : Y.heap[d]? = some (.deferred (some [])) := (hk.1.block d (heap_lt d1) n2).trans d1
        have m1 : ¬ c.O Y l := fun h => by rcases hk.2 l h with h | h; exact n1 h; have := heap_lt l1; omega
        have m2 : ¬ c.O Y d := fun h => by rcases hk.2 d h with h | h; exact n2 h; have := heap_lt d1; omega
        have o3 : Only (fun k => k = l) Y (Y.putObj l (.loop (rec (if jump.isNone then .ready else .done) jump))) := only_put _ _ _
        have e3 := c.same hvY o3 (fun k h => h ▸ m1)
        refine ⟨_, rfl, ?_, World.putObj_heap_same (heap_lt l2), (World.putObj_heap_other (by omega)).trans d2, fun h => m1 ((e3.2 l).1 h), fun h => m2 ((e3.2 d).1 h), only_w o3 (fun k h => ⟨by omega, h ▸ m1⟩), ?_, fun k h => ?_⟩
        · have := run_endRound (P := Try.prog) jump l2
          rw [hrec] at this ⊢
          exact this
        · have q1 : Only (fun k => c.O W k ∨ k = l) W X := only_w o1 (fun k h => .inr h)
          have q2 : Only (fun k => c.O W k ∨ k = l) X Y := only_w hk.1 (fun k h => .inl ((e1.2 k).1 h))
          exact (q1.trans q2).trans (only_w o3 (fun k h => .inr h))
        · rcases hk.2 k ((e3.2 k).1 h) with h | h
          · exact .inl ((e1.2 k).1 h)
          · have := o1.size; exact .inr (by omega)
      rintro e a3' Y hp
      cases e with
      | normal =>
        obtain ⟨hk, hi⟩ := hp
        obtain ⟨Z, -, hr, z1, z2, z3, z4, z5, z6⟩ := fin none Y hk (hV _ _ hi)
        exact ⟨_, _, hr, .inl ⟨rfl, by rw [hJ]; exact ⟨hI _ _ _ hi z5, z1, z2, z3, z4⟩, z6⟩⟩
      | ret =>
        obtain ⟨hk, hi⟩ := hp
        obtain ⟨Z, -, hr, z1, z2, z3, z4, z5, z6⟩ := fin (some .ret) Y hk (hVx _ _ _ hi)
        exact ⟨_, _, hr, .inr ⟨rfl, by rw [hJx]; exact ⟨_, hIx _ _ _ _ hi z5, z1, z2, z3, z4⟩, z6⟩⟩
      | exit id =>
        obtain ⟨hk, hi⟩ := hp
        obtain ⟨Z, -, hr, z1, z2, z3, z4, z5, z6⟩ := fin (some (.exit id)) Y hk (hVx _ _ _ hi)
        exact ⟨_, _, hr, .inr ⟨rfl, by rw [hJx]; exact ⟨_, hIx _ _ _ _ hi z5, z1, z2, z3, z4⟩, z6⟩⟩
      | goto t =>
        obtain ⟨hk, hi⟩ := hp
        obtain ⟨Z, -, hr, z1, z2, z3, z4, z5, z6⟩ := fin (some (.goto t)) Y hk (hVx _ _ _ hi)
        exact ⟨_, _, hr, .inr ⟨rfl, by rw [hJx]; exact ⟨_, hIx _ _ _ _ hi z5, z1, z2, z3, z4⟩, z6⟩⟩
      | panic ch => exact hp.elim
      | outgrown => exact hp.elim
    · rw [hJ]; exact ⟨hI1, hl1, hd1, nol, nod⟩
    · -- behind the function
      rintro e W2 ⟨⟨v, rfl⟩, h | ⟨pre, hpr, h⟩⟩
      · rw [hJ] at h
        obtain ⟨a1, a2, a3, a4, a5⟩ := h
        have hend := run_endLoop (P := Try.prog) a2 (by rw [hrec]; simp)
        rw [hrec] at hend
        have o2 := only_put W2 l (.loop { rec .ready none with state := .exhausted })
        have e2 := c.same (hV _ _ a1) o2 (fun k h => h ▸ a4)
        refine ⟨none, _, hend, ?_⟩
        have := hdone d (W2.putObj l (.loop { rec .ready none with state := .exhausted })) (by omega) (hI _ _ _ a1 (only_w o2 (fun k h => ⟨by omega, h ▸ a4⟩))) ((World.putObj_heap_other (by omega)).trans a3) (fun h => a5 ((e2.2 d).1 h))
        rw [hrec] at this
        exact this
      · rw [hJx] at h
        obtain ⟨cd, a1, a2, a3, a4, a5⟩ := h
        have hend := run_endLoop (P := Try.prog) a2 (by rw [hrec]; simp)
        rw [hrec] at hend
        have o2 := only_put W2 l (.loop { rec .done (some cd) with state := .exhausted })
        have e2 := c.same (hVx _ _ _ a1) o2 (fun k h => h ▸ a4)
        refine ⟨some cd, _, hend, ?_⟩
        have := hstop d cd pre (W2.putObj l (.loop { rec .done (some cd) with state := .exhausted })) (by omega) hpr (hIx _ _ _ _ a1 (only_w o2 (fun k h => ⟨by omega, h ▸ a4⟩))) ((World.putObj_heap_other (by omega)).trans a3) (fun h => a5 ((e2.2 d).1 h))
        rw [hrec] at this
        exact this
end
end Go.Proofs.Ytdchapcpimhjaaa
