/- Layer 9: what is looped over may write some blocks besides, of what stands in them one may ask behind the loop. -/
import Derived.Test.YtdchapcpimhjaaaWlkSa
namespace Go.Proofs.Ytdchapcpimhjaaa
open Go.RowKit

/-- what the function that is looped over may do between two rounds -/
def Co.mvE (E : Nat → Prop) (c : Co) (l B : Nat) (X Y : World) : Prop := Only (fun k => (B ≤ k ∨ E k) ∧ ¬ c.O X k ∧ k ≠ l) X Y
/-- what is known of the blocks E alone: St n behind a loop that was left in its round n, Se behind one that went to its end -/
structure Stat (E : Nat → Prop) (B : Nat) (St : Nat → World → Prop) (Se : World → Prop) : Prop where
  lt : ∀ k, E k → k < B
  st : ∀ n X Y, St n X → (∀ k, E k → Y.heap[k]? = X.heap[k]?) → St n Y
  se : ∀ X Y, Se X → (∀ k, E k → Y.heap[k]? = X.heap[k]?) → Se Y
/-- WHAT IS LOOPED OVER, which writes the blocks E besides -/
def SeqE {α : Type} (E : Nat → Prop) (St : Nat → World → Prop) (Se : World → Prop) (g : FuncId) (lb : Array Value) (enc : α → Array Value) (L : List α) (D : Nat → Prop) (w : World) : Prop :=
  ∀ (m : Nat) (c : Co) (l : Nat) (J Jx : List α → World → Prop) (W : World), Below w.heap.size w W → (∀ X k, c.V X → c.O X k → D k ∧ ¬ E k) → w.heap.size ≤ l → l < W.heap.size → (∀ s X, J s X → c.V X ∧ ¬ c.O X l) →
    (∀ s X Y, J s X → c.mvE E l W.heap.size X Y → J s Y) → (∀ s X Y, Jx s X → c.V X → c.mvE E l W.heap.size X Y → Jx s Y) → (∀ s X, Jx s X → c.V X ∧ ¬ c.O X l) →
    (∀ m pre x W1, J pre W1 → pre ++ [x] <+: L → YieldAt Fence.wide m Try.prog l (enc x) W1 fun e W' =>
      (e = .returned (.bool true) ∧ J (pre ++ [x]) W' ∧ c.kq l W1 W') ∨ (e = .returned (.bool false) ∧ Jx (pre ++ [x]) W' ∧ c.kq l W1 W')) →
    J [] W → CallsIn Fence.wide (m + 1) Try.prog g (#[.func (.yield l) #[] #[]] ++ lb) W fun e W' => (∃ v, e = .returned v) ∧ ((J L W' ∧ Se W') ∨ ∃ pre, pre <+: L ∧ Jx pre W' ∧ St pre.length W')
theorem SeqE.below {α : Type} {E : Nat → Prop} {St : Nat → World → Prop} {Se : World → Prop} {g : FuncId} {lb : Array Value} {enc : α → Array Value} {L : List α} {D : Nat → Prop} {w w' : World} (h : SeqE E St Se g lb enc L D w) (hb : Below w.heap.size w w') : SeqE E St Se g lb enc L D w' :=
  fun m c l J Jx W h1 h2 h3 h4 => h m c l J Jx W (hb.trans (h1.mono hb.size)) h2 (Nat.le_trans hb.size h3) h4
theorem seqE_of {α : Type} {g : FuncId} {lb : Array Value} {enc : α → Array Value} {L : List α} {D : Nat → Prop} {w : World} (h : SeqX g lb enc L D w) : SeqE (fun _ => False) (fun _ _ => True) (fun _ => True) g lb enc L D w := by
  intro m c l J Jx W h1 h2 h3 h4 h5 h6 h7 h8 h9 h10
  refine (h m c l J Jx W h1 (fun X k a b => (h2 X k a b).1) h3 h4 h5 (fun s X Y a b => h6 s X Y a (only_w b (fun k hk => ⟨.inl hk.1, hk.2⟩))) (fun s X Y a b d => h7 s X Y a b (only_w d (fun k hk => ⟨.inl hk.1, hk.2⟩))) h8 h9 h10).mono ?_
  rintro e W' ⟨a, b | ⟨pre, b1, b2⟩⟩
  · exact ⟨a, .inl ⟨b, trivial⟩⟩
  · exact ⟨a, .inr ⟨pre, b1, b2, trivial⟩⟩
theorem seqX_of {α : Type} {g : FuncId} {lb : Array Value} {enc : α → Array Value} {L : List α} {D : Nat → Prop} {w : World} {St : Nat → World → Prop} {Se : World → Prop} (h : SeqE (fun _ => False) St Se g lb enc L D w) : SeqX g lb enc L D w := by
  intro m c l J Jx W h1 h2 h3 h4 h5 h6 h7 h8 h9 h10
  refine (h m c l J Jx W h1 (fun X k a b => ⟨h2 X k a b, id⟩) h3 h4 h5 (fun s X Y a b => h6 s X Y a (only_w b (fun k hk => ⟨hk.1.elim id False.elim, hk.2⟩))) (fun s X Y a b d => h7 s X Y a b (only_w d (fun k hk => ⟨hk.1.elim id False.elim, hk.2⟩))) h8 h9 h10).mono ?_
  rintro e W' ⟨a, b | ⟨pre, b1, b2⟩⟩
  · exact ⟨a, .inl b.1⟩
  · exact ⟨a, .inr ⟨pre, b1, b2.1⟩⟩
theorem Stat.up {E : Nat → Prop} {B B2 : Nat} {St : Nat → World → Prop} {Se : World → Prop} (h : Stat E B St Se) (hb : B ≤ B2) : Stat E B2 St Se := ⟨fun k hk => Nat.lt_of_lt_of_le (h.lt k hk) hb, h.st, h.se⟩
theorem stat_none (B : Nat) : Stat (fun _ => False) B (fun _ _ => True) (fun _ => True) := ⟨fun _ h => h.elim, fun _ _ _ _ _ => trivial, fun _ _ _ _ => trivial⟩
section
variable {α : Type} {gop : Operand} {ps : Array Tmp} {assign body : Code} {Q : Exit → Act → World → Prop} {tm : Array Value} {df : List Deferred} {w : World} {n : Nat}
/-- THE LOOP -/
theorem rangeE {E : Nat → Prop} {St : Nat → World → Prop} {Se : World → Prop} (f : Array Value → α → Array Value) (c : Co) {gf : Nat} {lb : Array Value} {enc : α → Array Value} {L : List α} {D : Nat → Prop} {w0 : World} (h1 : 2 ≤ n)
    (hg : (Act.mk tm df).eval gop = .func (.func gf) #[] lb) (eg : ∀ args w, (callFunc gf args).run Try.prog w = .ok (.enter gf args) w) (hseq : SeqE E St Se gf lb enc L D w0) (hb0 : Below w0.heap.size w0 w) (hst : Stat E w0.heap.size St Se) (hD : ∀ X k, c.V X → c.O X k → D k ∧ ¬ E k) (hps : ∀ x, (enc x).size = ps.size)
    (I : List α → World → Prop) (Ix : Code → List α → World → Prop) (hV : ∀ s X, I s X → c.V X) (hVx : ∀ cd s X, Ix cd s X → c.V X)
    (hI : ∀ s X Y, I s X → Only (fun k => (w.heap.size ≤ k ∨ E k) ∧ ¬ c.O X k) X Y → I s Y) (hIx : ∀ cd s X Y, Ix cd s X → Only (fun k => (w.heap.size ≤ k ∨ E k) ∧ ¬ c.O X k) X Y → Ix cd s Y) (h0 : I [] w)
    (hassign : ∀ (l : Nat) (x : α) (W : World) (K : Act → World → Prop), K { tmps := f tm x, defers := [] } W →
      assign.wpIn (Fence.wide.inRound l) (n - 1 - 1) Try.prog (Exit.then K (fun _ _ _ => False)) { tmps := (ps.zip (enc x)).foldl (fun t (p, v) => t.setIfInBounds p v) tm, defers := [] } W)
    (hbody : ∀ (l : Nat) (pre : List α) (x : α) (W : World), l = w.heap.size + 1 → l < W.heap.size → ¬ c.O W l → I pre W → pre ++ [x] <+: L → body.wpIn (Fence.wide.inRound l) (n - 1 - 1) Try.prog (ownX c I Ix (pre ++ [x]) W) { tmps := f tm x, defers := [] } W)
    (hdone : ∀ (Dn : Nat) (W : World), w.heap.size ≤ Dn → I L W → Se W → W.heap[Dn]? = some (.deferred (some [])) → ¬ c.O W Dn → Q .normal { tmps := tm, defers := { target := .collected Dn, args := #[] } :: df } W)
    (hstop : ∀ (Dn : Nat) (cd : Code) (pre : List α) (W : World), w.heap.size ≤ Dn → pre <+: L → Ix cd pre W → St pre.length W → W.heap[Dn]? = some (.deferred (some [])) → ¬ c.O W Dn → cd.wpIn Fence.wide n Try.prog Q { tmps := tm, defers := { target := .collected Dn, args := #[] } :: df } W) :
    (Code.rangeFunc gop ps assign body).wpIn Fence.wide n Try.prog Q { tmps := tm, defers := df } w := by
  refine wpIn_rangeFunc ?_
  intro fn hfn
  rw [show Fence.wide.round = none from rfl]
  obtain ⟨d, hd⟩ : ∃ d, d = w.heap.size := ⟨_, rfl⟩
  obtain ⟨l, hl⟩ : ∃ l, l = d + 1 := ⟨_, rfl⟩
  obtain ⟨rec, hrec⟩ : ∃ rec : LoopState → Option Code → Loop, rec = fun st pe => { state := st, pending := pe, fn, tmps := tm, params := ps, assign, body, defers := d } := ⟨_, rfl⟩
  obtain ⟨W1, hW1⟩ : ∃ W1, W1 = (w.alloc (.deferred (some []))).alloc (.loop (rec .ready none)) := ⟨_, rfl⟩
  have hs1 : W1.heap.size = d + 2 := by rw [hW1, hd]; simp
  have hl1 : W1.heap[l]? = some (.loop (rec .ready none)) := by
    have := World.alloc_heap_new (w.alloc (.deferred (some []))) (.loop (rec .ready none))
    rw [World.size_alloc, ← hW1, ← hd, ← hl] at this
    exact this
  have hd1 : W1.heap[d]? = some (.deferred (some [])) := by
    rw [hW1, hd]
    exact (Below.heap_alloc _ _ _ (by simp)).trans (World.alloc_heap_new w _)
  have hon : ∀ p : Nat → Prop, Only p w W1 := fun p => by rw [hW1]; exact (only_new p w _).alloc _
  have hv0 := hV _ _ h0
  have hsm := c.same hv0 (hon (fun _ => False)) (fun _ h => h.elim)
  have hI1 : I [] W1 := hI _ _ _ h0 (hon _)
  have nol : ¬ c.O W1 l := fun h => by have := c.lt w l hv0 ((hsm.2 l).1 h); omega
  have nod : ¬ c.O W1 d := fun h => by have := c.lt w d hv0 ((hsm.2 d).1 h); omega
  have hB1 : Below w.heap.size w W1 := by rw [hW1]; exact ((Below.refl _ w).alloc (Nat.le_refl _) _).alloc (by simp) _
  refine ⟨l, [{ target := .collected d, args := #[] }], W1, { target := .fn (.func gf) lb, args := #[.func (.yield l) #[] #[]] }, W1, gf, #[.func (.yield l) #[] #[]] ++ lb, W1, ?_, ?_, ?_, ?_, fun _ => by omega, ?_⟩
  · rw [hW1, hl, hd, hrec, hd]; exact run_enterLoop_outer _ _ _ _ _
  · simp only [resolve, hg]
    simp [go_sem]
  · intro f' hf'
    trivial
  · simp [invoke, go_sem, eg]
  · -- what stands between two rounds; behind a jump
    obtain ⟨J, hJ⟩ : ∃ J : List α → World → Prop, J = fun pre W => I pre W ∧ W.heap[l]? = some (.loop (rec .ready none)) ∧ W.heap[d]? = some (.deferred (some [])) ∧ ¬ c.O W l ∧ ¬ c.O W d := ⟨_, rfl⟩
    obtain ⟨Jx, hJx⟩ : ∃ Jx : List α → World → Prop, Jx = fun pre W => ∃ cd, Ix cd pre W ∧ W.heap[l]? = some (.loop (rec .done (some cd))) ∧ W.heap[d]? = some (.deferred (some [])) ∧ ¬ c.O W l ∧ ¬ c.O W d := ⟨_, rfl⟩
    obtain ⟨n', hn'⟩ : ∃ n', n - 1 = n' + 1 := ⟨n - 2, by omega⟩
    rw [hn']
    refine (hseq n' c l J Jx W1 (hb0.trans (hB1.mono hb0.size)) hD (by have := hb0.size; omega) (by omega) ?_ ?_ ?_ ?_ ?_ ?_).mono ?_
    · intro s X h
      rw [hJ] at h
      exact ⟨hV _ _ h.1, h.2.2.2.1⟩
    · intro s X Y h hm
      rw [hJ] at h ⊢
      obtain ⟨a1, a2, a3, a4, a5⟩ := h
      have hsz := heap_lt a2
      have hsz2 := heap_lt a3
      have hs2 := c.same (hV _ _ a1) hm (fun k h => h.2.1)
      refine ⟨hI _ _ _ a1 (only_w hm (fun k h => ⟨h.1.imp (fun h => by omega) id, h.2.1⟩)), ?_, ?_, fun h => a4 ((hs2.2 l).1 h), fun h => a5 ((hs2.2 d).1 h)⟩
      · rw [hm.block l hsz (fun h => h.2.2 rfl)]; exact a2
      · rw [hm.block d hsz2 (fun h => h.1.elim (fun h => by omega) (fun h => by have := hst.lt d h; have := hb0.size; omega))]; exact a3
    · intro s X Y h hv hm
      rw [hJx] at h ⊢
      obtain ⟨cd, a1, a2, a3, a4, a5⟩ := h
      have hsz := heap_lt a2
      have hsz2 := heap_lt a3
      have hs2 := c.same hv hm (fun k h => h.2.1)
      refine ⟨cd, hIx _ _ _ _ a1 (only_w hm (fun k h => ⟨h.1.imp (fun h => by omega) id, h.2.1⟩)), ?_, ?_, fun h => a4 ((hs2.2 l).1 h), fun h => a5 ((hs2.2 d).1 h)⟩
      · rw [hm.block l hsz (fun h => h.2.2 rfl)]; exact a2
      · rw [hm.block d hsz2 (fun h => h.1.elim (fun h => by omega) (fun h => by have := hst.lt d h; have := hb0.size; omega))]; exact a3
    · intro s X h
      rw [hJx] at h
      obtain ⟨cd, a1, a2, a3, a4, a5⟩ := h
      exact ⟨hVx _ _ _ a1, a4⟩
    · -- one round
      intro m pre x W h hp
      rw [hJ] at h
      obtain ⟨a1, a2, a3, a4, a5⟩ := h
      have hlt := heap_lt a2
      have hltd := heap_lt a3
      have hv := hV _ _ a1
      have hy := run_yield (P := Try.prog) (args := enc x) a2 (by rw [hrec]; exact hps x)
      rw [hrec] at hy
      obtain ⟨bz, hbz⟩ : ∃ bz : Obj, bz = .loop { rec .ready none with state := .busy } := ⟨_, rfl⟩
      obtain ⟨X, hX⟩ : ∃ X, X = W.putObj l bz := ⟨_, rfl⟩
      have o1 : Only (fun k => k = l) W X := by rw [hX]; exact only_put _ _ _
      have e1 := c.same hv o1 (fun k h => h ▸ a4)
      have i1 : I pre X := hI _ _ _ a1 (only_w o1 (fun k h => ⟨.inl (by omega), h ▸ a4⟩))
      have l1 : X.heap[l]? = some (.loop { rec .ready none with state := .busy }) := by rw [hX, hbz]; exact World.putObj_heap_same hlt
      have d1 : X.heap[d]? = some (.deferred (some [])) := by rw [hX]; exact (World.putObj_heap_other (by omega)).trans a3
      have n1 : ¬ c.O X l := fun h => a4 ((e1.2 l).1 h)
      have n2 : ¬ c.O X d := fun h => a5 ((e1.2 d).1 h)
      refine ⟨fn, _, assign, body, hy, round_any (m := n - 1 - 1) m (roundIn_of_wpIn hfn (hassign l x W _ ⟨_, run_beginRound a2 (by rw [hrec]), ?_⟩))⟩
      have hX2 : X = W.putObj l (.loop { rec .ready none with state := .busy }) := by rw [hX, hbz]
      rw [← hX2]
      refine wpIn_mono (hbody l pre x X (by omega) (heap_lt l1) n1 i1 hp) ?_
      -- behind the body
      have fin : ∀ (jump : Option Code) (Y : World), c.kb X Y → c.V Y → ∃ Z, Z = Y.putObj l (.loop (rec (if jump.isNone then .ready else .done) jump)) ∧
          (Instr.endRound l jump).run Try.prog Y = .ok (.bool jump.isNone) Z ∧ Z.heap[l]? = some (.loop (rec (if jump.isNone then .ready else .done) jump)) ∧ Z.heap[d]? = some (.deferred (some [])) ∧ ¬ c.O Z l ∧ ¬ c.O Z d ∧ Only (fun k => (w.heap.size ≤ k ∨ E k) ∧ ¬ c.O Y k) Y Z ∧ c.kq l W Z := fun jump Y hk hvY => by
        have l2 : Y.heap[l]? = some (.loop { rec .ready none with state := .busy }) := (hk.1.block l (heap_lt l1) n1).trans l1
        have d2 : Y.heap[d]? = some (.deferred (some [])) := (hk.1.block d (heap_lt d1) n2).trans d1
        have m1 : ¬ c.O Y l := fun h => by rcases hk.2 l h with h | h; exact n1 h; have := heap_lt l1; omega
        have m2 : ¬ c.O Y d := fun h => by rcases hk.2 d h with h | h; exact n2 h; have := heap_lt d1; omega
        have o3 : Only (fun k => k = l) Y (Y.putObj l (.loop (rec (if jump.isNone then .ready else .done) jump))) := only_put _ _ _
        have e3 := c.same hvY o3 (fun k h => h ▸ m1)
        refine ⟨_, rfl, ?_, World.putObj_heap_same (heap_lt l2), (World.putObj_heap_other (by omega)).trans d2, fun h => m1 ((e3.2 l).1 h), fun h => m2 ((e3.2 d).1 h), only_w o3 (fun k h => ⟨.inl (by omega), h ▸ m1⟩), ?_, fun k h => ?_⟩
        · have := run_endRound (P := Try.prog) jump l2
          rw [hrec] at this ⊢
          exact this
        · have q1 : Only (fun k => c.O W k ∨ k = l) W X := only_w o1 (fun k h => .inr h)
          have q2 : Only (fun k => c.O W k ∨ k = l) X Y := only_w hk.1 (fun k h => .inl ((e1.2 k).1 h))
          exact (q1.trans q2).trans (only_w o3 (fun k h => .inr h))
        · rcases hk.2 k ((e3.2 k).1 h) with h | h
          · exact .inl ((e1.2 k).1 h)
          · have := o1.size; exact .inr (by omega)
      rintro e a3' Y hp
      cases e with
      | normal =>
        obtain ⟨hk, hi⟩ := hp
        obtain ⟨Z, -, hr, z1, z2, z3, z4, z5, z6⟩ := fin none Y hk (hV _ _ hi)
        exact ⟨_, _, hr, .inl ⟨rfl, by rw [hJ]; exact ⟨hI _ _ _ hi z5, z1, z2, z3, z4⟩, z6⟩⟩
      | ret =>
        obtain ⟨hk, hi⟩ := hp
        obtain ⟨Z, -, hr, z1, z2, z3, z4, z5, z6⟩ := fin (some .ret) Y hk (hVx _ _ _ hi)
        exact ⟨_, _, hr, .inr ⟨rfl, by rw [hJx]; exact ⟨_, hIx _ _ _ _ hi z5, z1, z2, z3, z4⟩, z6⟩⟩
      | exit id =>
        obtain ⟨hk, hi⟩ := hp
        obtain ⟨Z, -, hr, z1, z2, z3, z4, z5, z6⟩ := fin (some (.exit id)) Y hk (hVx _ _ _ hi)
        exact ⟨_, _, hr, .inr ⟨rfl, by rw [hJx]; exact ⟨_, hIx _ _ _ _ hi z5, z1, z2, z3, z4⟩, z6⟩⟩
      | goto t =>
        obtain ⟨hk, hi⟩ := hp
        obtain ⟨Z, -, hr, z1, z2, z3, z4, z5, z6⟩ := fin (some (.goto t)) Y hk (hVx _ _ _ hi)
        exact ⟨_, _, hr, .inr ⟨rfl, by rw [hJx]; exact ⟨_, hIx _ _ _ _ hi z5, z1, z2, z3, z4⟩, z6⟩⟩
      | panic ch => exact hp.elim
      | outgrown => exact hp.elim
    · rw [hJ]; exact ⟨hI1, hl1, hd1, nol, nod⟩
    · -- behind the function
      rintro e W2 ⟨⟨v, rfl⟩, ⟨h, hse⟩ | ⟨pre, hpr, h, hse⟩⟩
      · rw [hJ] at h
        obtain ⟨a1, a2, a3, a4, a5⟩ := h
        have hend := run_endLoop (P := Try.prog) a2 (by rw [hrec]; simp)
        rw [hrec] at hend
        have o2 := only_put W2 l (.loop { rec .ready none with state := .exhausted })
        have e2 := c.same (hV _ _ a1) o2 (fun k h => h ▸ a4)
        refine ⟨none, _, hend, ?_⟩
        have := hdone d (W2.putObj l (.loop { rec .ready none with state := .exhausted })) (by omega) (hI _ _ _ a1 (only_w o2 (fun k h => ⟨.inl (by omega), h ▸ a4⟩))) (hst.se _ _ hse (fun k hk => World.putObj_heap_other (by have := hst.lt k hk; have := hb0.size; omega))) ((World.putObj_heap_other (by omega)).trans a3) (fun h => a5 ((e2.2 d).1 h))
        rw [hrec] at this
        exact this
      · rw [hJx] at h
        obtain ⟨cd, a1, a2, a3, a4, a5⟩ := h
        have hend := run_endLoop (P := Try.prog) a2 (by rw [hrec]; simp)
        rw [hrec] at hend
        have o2 := only_put W2 l (.loop { rec .done (some cd) with state := .exhausted })
        have e2 := c.same (hVx _ _ _ a1) o2 (fun k h => h ▸ a4)
        refine ⟨some cd, _, hend, ?_⟩
        have := hstop d cd pre (W2.putObj l (.loop { rec .done (some cd) with state := .exhausted })) (by omega) hpr (hIx _ _ _ _ a1 (only_w o2 (fun k h => ⟨.inl (by omega), h ▸ a4⟩))) (hst.st _ _ _ hse (fun k hk => World.putObj_heap_other (by have := hst.lt k hk; have := hb0.size; omega))) ((World.putObj_heap_other (by omega)).trans a3) (fun h => a5 ((e2.2 d).1 h))
        rw [hrec] at this
        exact this
end
end Go.Proofs.Ytdchapcpimhjaaa
/- Layer 9: a walk made of a walk, where blocks besides are written: what stands while it loops over the inner one. -/
namespace Go.Proofs.Ytdchapcpimhjaaa
open Go.RowKit Go.Shelf

/-- what is known of the one who loops over the outer walk: ly is his loop, p the first block that is not his; E: what the outer walk writes besides -/
structure LoE {β : Type} (E : Nat → Prop) (cc : Co) (ly p : Nat) (J Jx : List β → World → Prop) : Prop where
  lt : ly < p
  jv : ∀ s X, J s X → cc.V X ∧ ¬ cc.O X ly
  jm : ∀ s X Y, J s X → cc.mvE E ly p X Y → J s Y
  xm : ∀ s X Y, Jx s X → cc.V X → cc.mvE E ly p X Y → Jx s Y
  xv : ∀ s X, Jx s X → cc.V X ∧ ¬ cc.O X ly
  el : ∀ k, E k → k < ly
  oe : ∀ X k, cc.V X → cc.O X k → ¬ E k
/-- what the outer walk writes in a round of its loop over the inner one: blocks of the one who loops, his record, its own blocks behind p, F -/
def c9F (cc : Co) (ly p q : Nat) (F : Nat → Prop) : Co := cc.plus (fun k => k = ly ∨ p < k ∨ F k) q
section
variable {β : Type} {E F Ei : Nat → Prop} {cc : Co} {ly p q : Nat} {J Jx : List β → World → Prop}
theorem LoE.keep (h : LoE E cc ly p J Jx) {X Y : World} (z : Zs cc ly p q X) (ho : Only (fun k => (p < k ∨ E k) ∧ ¬ cc.O X k) X Y) : Zs cc ly p q Y := by
  have hs := cc.same z.v ho (fun k h => h.2)
  refine ⟨Nat.le_trans z.sz ho.size, (cell_only8 ho (q := ⟨p, 0, none⟩) (Nat.lt_of_lt_of_le z.pq z.sz) (fun e => ?_)).trans z.y, hs.1, fun e => z.nl ((hs.2 _).1 e), fun k h1 h2 e => z.no k h1 h2 ((hs.2 _).1 e), z.pq⟩
  rcases e.1 with e | e
  · exact Nat.lt_irrefl _ e
  · have h1 := h.el _ e; have h2 := h.lt; have h3 : p < ly := h1; omega
theorem LoE.co (h : LoE E cc ly p J Jx) (hF : ∀ k, F k → E k) {X : World} (z : Zs cc ly p q X) : (c9F cc ly p q F).V X :=
  ⟨z.v, z.sz, fun k hk hq e => by
    rcases hk with rfl | hk | hk
    · exact z.nl e
    · exact z.no k (Nat.le_of_lt hk) hq e
    · exact h.oe X k z.v e (hF k hk)⟩
theorem LoE.only (_h : LoE E cc ly p J Jx) (hE : ∀ k, Ei k → E k) {X Y : World} (z : Zs cc ly p q X) (ho : Only (fun k => (q ≤ k ∨ Ei k) ∧ ¬ (c9F cc ly p q F).O X k) X Y) : Only (fun k => (p < k ∨ E k) ∧ ¬ cc.O X k) X Y :=
  only_w ho (fun k hk => ⟨hk.1.imp (fun e => Nat.lt_of_lt_of_le z.pq e) (hE k), fun e => hk.2 (.inl e)⟩)
/-- its own blocks stand while the inner walk moves on -/
theorem LoE.own (h : LoE E cc ly p J Jx) (hE : ∀ k, Ei k → E k) {X Y : World} (ho : Only (fun k => (q ≤ k ∨ Ei k) ∧ ¬ (c9F cc ly p q F).O X k) X Y) (z : Zs cc ly p q X) {k : Nat} (hp : p ≤ k) (hk : k < q) : Y.heap[k]? = X.heap[k]? :=
  ho.block k (Nat.lt_of_lt_of_le hk z.sz) (fun e => by
    rcases e.1 with e | e
    · omega
    · have h1 := h.el _ (hE _ e); have h2 := h.lt; omega)
theorem LoE.ownF (h : LoE E cc ly p J Jx) (hF : ∀ k, F k → E k) {X Y : World} (ho : Only (fun k => (q ≤ k ∨ Ei k) ∧ ¬ (c9F cc ly p q F).O X k) X Y) (z : Zs cc ly p q X) {k : Nat} (hk : F k) : Y.heap[k]? = X.heap[k]? := by
  have h1 := h.el _ (hF _ hk)
  have h2 := h.lt
  have h3 := z.sz
  have h4 := z.pq
  exact ho.block k (by omega) (fun e => e.2 (.inr ⟨.inr (.inr hk), by omega⟩))
theorem LoE.mv (h : LoE E cc ly p J Jx) {X Y : World} (ho : Only (fun k => (p < k ∨ E k) ∧ ¬ cc.O X k) X Y) : cc.mvE E ly p X Y :=
  only_w ho (fun k hk => ⟨hk.1.imp Nat.le_of_lt id, hk.2, fun e => by
    have h2 := h.lt
    rcases hk.1 with e2 | e2
    · omega
    · have := h.el _ e2; omega⟩)
/-- its own writes -/
theorem LoE.wr (h : LoE E cc ly p J Jx) (hF : ∀ k, F k → E k) {X Y : World} (z : Zs cc ly p q X) (ho : Only (fun k => (p < k ∧ k < q) ∨ F k) X Y) : Only (fun k => (p < k ∨ E k) ∧ ¬ cc.O X k) X Y ∧ (c9F cc ly p q F).kb X Y := by
  have h1 : Only (fun k => (p < k ∨ E k) ∧ ¬ cc.O X k) X Y := only_w ho (fun k hk => by
    rcases hk with hk | hk
    · exact ⟨.inl hk.1, z.no k (Nat.le_of_lt hk.1) hk.2⟩
    · exact ⟨.inr (hF k hk), fun e => h.oe X k z.v e (hF k hk)⟩)
  have hs := cc.same z.v h1 (fun k h => h.2)
  refine ⟨h1, only_w ho (fun k hk => .inr ?_), fun k hk => .inl ?_⟩
  · rcases hk with hk | hk
    · exact ⟨.inr (.inl hk.1), hk.2⟩
    · exact ⟨.inr (.inr hk), by have h1 := h.el _ (hF _ hk); have h2 := h.lt; have h4 := z.pq; omega⟩
  rcases hk with hk | hk
  · exact .inl ((hs.2 k).1 hk)
  · exact .inr hk
theorem LoE.jk (h : LoE E cc ly p J Jx) {s : List β} {X Y : World} (hj : J s X) (ho : Only (fun k => (p < k ∨ E k) ∧ ¬ cc.O X k) X Y) : J s Y := h.jm s X Y hj (h.mv ho)
theorem LoE.xk (h : LoE E cc ly p J Jx) {s : List β} {X Y : World} (hj : Jx s X) (ho : Only (fun k => (p < k ∨ E k) ∧ ¬ cc.O X k) X Y) : Jx s Y := h.xm s X Y hj (h.xv s X hj).1 (h.mv ho)
/-- behind the new blocks -/
theorem LoE.zs (h : LoE E cc ly p J Jx) {W W1 : World} (hp : p = W.heap.size) (h0 : J [] W) (ho : Only (fun _ => False) W W1) (hq : q = W1.heap.size) (hpq : p < q) (hy : W1.cell? ⟨p, 0, none⟩ = some (.func (.yield ly) #[] #[])) : Zs cc ly p q W1 ∧ J [] W1 := by
  have hv := h.jv _ _ h0
  have hs := cc.same hv.1 ho (fun _ h => h.elim)
  refine ⟨⟨by omega, hy, hs.1, fun e => hv.2 ((hs.2 _).1 e), fun k h1 h2 e => ?_, hpq⟩, h.jm _ _ _ h0 (only_w ho (fun _ h => h.elim))⟩
  have := cc.lt W k hv.1 ((hs.2 k).1 e)
  omega
/-- what is behind a call of the outer loop's body -/
structure RdE (F : Nat → Prop) (cc : Co) (ly p q : Nat) (J Jx : List β → World → Prop) (s : List β) (X : World) (b : Bool) (Y : World) : Prop where
  z : Zs cc ly p q Y
  kb : (c9F cc ly p q F).kb X Y
  own : ∀ k, p ≤ k → k < q → Y.heap[k]? = X.heap[k]?
  ownE : ∀ k, F k → Y.heap[k]? = X.heap[k]?
  go : b = true → J s Y
  stop : b = false → Jx s Y
/-- THE CALL OF THE OUTER LOOP'S BODY, in a round of the inner loop -/
theorem LoE.call (h : LoE E cc ly p J Jx) (hF : ∀ k, F k → E k) {L : List β} {s : List β} {x : β} {enc : β → Array Value} {X : World} {l m' : Nat} (hY : ∀ m pre x W1, J pre W1 → pre ++ [x] <+: L → YieldAt Fence.wide m Try.prog ly (enc x) W1 fun e W' =>
      (e = .returned (.bool true) ∧ J (pre ++ [x]) W' ∧ cc.kq ly W1 W') ∨ (e = .returned (.bool false) ∧ Jx (pre ++ [x]) W' ∧ cc.kq ly W1 W')) (hj : J s X) (hz : Zs cc ly p q X) (hpre : s ++ [x] <+: L) :
    ∃ fn tmps assign body, (Instr.yield ly (enc x)).run Try.prog X = .ok (.round ly fn tmps assign body) X ∧ RoundIn (Fence.wide.inRound l) m' Try.prog ly fn tmps assign body X fun e W' => ∃ b : Bool, e = .returned (.bool b) ∧ Hid (RdE F cc ly p q J Jx (s ++ [x]) X b W') := by
  obtain ⟨fn, tmps, assign, body, hyy, hR⟩ := hY 9 s x X hj hpre
  refine ⟨fn, tmps, assign, body, hyy, round_in (round_any m' (hR.mono ?_))⟩
  have aft : ∀ W', cc.kq ly X W' → cc.V W' ∧ ¬ cc.O W' ly → Zs cc ly p q W' ∧ (c9F cc ly p q F).kb X W' ∧ (∀ k, p ≤ k → k < q → W'.heap[k]? = X.heap[k]?) ∧ (∀ k, F k → W'.heap[k]? = X.heap[k]?) := fun W' hk hv => by
    have hsz := hz.sz
    have hlt := h.lt
    have hown : ∀ k, p ≤ k → k < q → W'.heap[k]? = X.heap[k]? := fun k h1 h2 => hk.1.block k (by omega) (fun e => by
      rcases e with e | e
      · exact hz.no k h1 h2 e
      · omega)
    have hownE : ∀ k, F k → W'.heap[k]? = X.heap[k]? := fun k h1 => by
      have h2 := h.el k (hF k h1)
      have h3 := hz.pq
      refine hk.1.block k (by omega) (fun e => ?_)
      rcases e with e | e
      · exact h.oe X k hz.v e (hF k h1)
      · omega
    have z : Zs cc ly p q W' := by
      refine ⟨by have := hk.1.size; omega, ?_, hv.1, hv.2, fun k h1 h2 e => ?_, hz.pq⟩
      · have := hown p (Nat.le_refl _) hz.pq
        rw [← hz.y]
        simp [World.cell?, this]
      · rcases hk.2 k e with e | e
        · exact hz.no k h1 h2 e
        · omega
    refine ⟨z, ⟨only_w hk.1 (fun k e => ?_), fun k e => ?_⟩, hown, hownE⟩
    · rcases e with e | rfl
      · exact .inl e
      · exact .inr ⟨.inl rfl, by have := hz.pq; omega⟩
    · rcases e with e | e
      · rcases hk.2 k e with e | e
        · exact .inl (.inl e)
        · exact .inr e
      · exact .inl (.inr e)
  rintro e W' (⟨rfl, t1, t2⟩ | ⟨rfl, t1, t2⟩)
  · obtain ⟨u1, u2, u3, u4⟩ := aft W' t2 (h.jv _ _ t1)
    exact ⟨true, rfl, u1, u2, u3, u4, fun _ => t1, fun h => by cases h⟩
  · obtain ⟨u1, u2, u3, u4⟩ := aft W' t2 (h.xv _ _ t1)
    exact ⟨false, rfl, u1, u2, u3, u4, fun h => (by cases h), fun _ => t1⟩
/-- what may be written in a round, apart from what the inner walk writes -/
theorem c9F_D {D : Nat → Prop} {N : Nat} (hcD : ∀ X k, cc.V X → cc.O X k → D k ∧ ¬ E k) (hE : ∀ k, Ei k → E k) (hEl : ∀ k, E k → k < ly) (hlt : ly < p) (hF : ∀ k, F k → D k ∧ ¬ Ei k) (hD : ∀ k, N ≤ k → D k) (hN : N ≤ ly) : ∀ X k, (c9F cc ly p q F).V X → (c9F cc ly p q F).O X k → D k ∧ ¬ Ei k := by
  intro X k hv hk
  rcases hk with hk | ⟨rfl | hk | hk, -⟩
  · exact ⟨(hcD X k hv.1 hk).1, fun e => (hcD X k hv.1 hk).2 (hE k e)⟩
  · exact ⟨hD _ hN, fun e => Nat.lt_irrefl _ (hEl _ (hE _ e))⟩
  · exact ⟨hD _ (by omega), fun e => by have := hEl _ (hE _ e); omega⟩
  · exact hF k hk
end
end Go.Proofs.Ytdchapcpimhjaaa
/- Layer 9: Values. -/
namespace Go.Proofs.Ytdchapcpimhjaaa
open Go.RowKit Go.Shelf

attribute [local go_sem] Oper.semAt_some

theorem prefix_map9 {α β : Type} (f : α → β) {a b : List α} (h : a <+: b) : a.map f <+: b.map f := by
  obtain ⟨t, rfl⟩ := h
  rw [List.map_append]
  exact List.prefix_append _ _
set_option maxHeartbeats 4000000 in
set_option maxRecDepth 100000 in
theorem wlk_values1 {E : Nat → Prop} {St : Nat → World → Prop} {Se : World → Prop} {B0 g : Nat} {lb : Array Value} {L : List Tm.E} {D : Nat → Prop} {w : World} (hs : SeqE E St Se g lb en9 L D w) (hst : Stat E w.heap.size St Se) (hen : ∀ args w, (callFunc g args).run Try.prog w = .ok (.enter g args) w) (hD : ∀ k, w.heap.size ≤ k → D k)
    (hb0 : w.cell? ⟨B0, 0, none⟩ = some (.func (.func g) #[] lb)) (hl0 : B0 < w.heap.size) :
    SeqE E St Se 45 #[.pointer (some ⟨B0, 0, none⟩)] eI (L.map (·.2)) D w := fun m cc ly J Jx W hbw hcD hlw hlW hJV hJ hJx hJxV hY h0 => by
  have c0 : W.cell? ⟨B0, 0, none⟩ = some (.func (.func g) #[] lb) := (hbw.cell (p := ⟨B0, 0, none⟩) hl0).trans hb0
  have hsz := hbw.size
  have hk0 : B0 < W.heap.size := by omega
  have hnf : ∀ w, (binOp .eql 31 (.func (.func g) #[] lb) .nilFunc).run Try.prog w = .ok (.bool false) w := fun w => rfl
  obtain ⟨p, hp⟩ : ∃ p, p = W.heap.size := ⟨_, rfl⟩
  have hlo : LoE E cc ly p J Jx := ⟨by omega, hJV, by rw [hp]; exact hJ, by rw [hp]; exact hJx, hJxV, fun k hk => by have := hst.lt k hk; omega, fun X k a b => (hcD X k a b).2⟩
  clear hJV hJ hJx hJxV
  obtain ⟨W1, hW1⟩ : ∃ W1, W1 = W.alloc (.cells #[.func (.yield ly) #[] #[]] 75) := ⟨_, rfl⟩
  have hs1 : W1.heap.size = p + 1 := by rw [hW1, hp]; simp
  have bY : Boxed W1 p 75 (.func (.yield ly) #[] #[]) := by rw [hW1, hp]; exact Boxed.new W _ _
  obtain ⟨hz1, hJ1⟩ := hlo.zs (q := p + 1) hp h0 (by rw [hW1]; exact only_new _ W _) hs1.symm (by omega) bY.cell
  have hb1' : Below w.heap.size w W1 := by rw [hW1]; exact hbw.alloc hsz _
  have hFN : ∀ k, (fun _ : Nat => False) k → E k := fun _ h => h.elim
  refine callsIn_wide.2 ((callsIn_wide (n := 9)).1 ?_)
  refine callsIn_of_wp_marks Try.func45 rfl trivial ?_ rfl
  simp only [Try.ntmps45, List.size_toArray, List.length_cons, List.length_nil, Nat.reduceAdd, Nat.reduceSub, Array.replicate_succ, Array.replicate_zero, List.push_toArray, List.append_toArray, List.nil_append, List.cons_append]
  gi_wp2_with fail
  rw [← hW1, ← hp]
  clear hW1
  refine rangeE (n := 9) (w := W1) (α := Tm.E) (enc := en9) (L := L) (D := D) (w0 := w) (fun t x => ((t.setIfInBounds 8 (.string (bstr x.1))).setIfInBounds 9 (.int .i64 x.2)).setIfInBounds 4 (.int .i64 x.2)) (c9F cc ly p (p + 1) (fun _ => False)) (gf := g) (lb := lb) (by omega) rfl hen hs hb1' hst ?_ (fun _ => rfl)
    (fun pre X => J (pre.map (·.2)) X ∧ Zs cc ly p (p + 1) X)
    (fun cd pre X => cd = .ret ∧ Zs cc ly p (p + 1) X ∧ Jx (pre.map (·.2)) X) (fun _ X h => hlo.co hFN h.2) (fun _ _ X h => hlo.co hFN h.2.1) ?hI ?hIx ?h0 ?assign ?body ?done ?stop
  case hI =>
    rintro s X Y ⟨q2, q3⟩ ho
    rw [hs1] at ho
    have ho2 := hlo.only (fun _ h => h) q3 ho
    exact ⟨hlo.jk q2 ho2, hlo.keep q3 ho2⟩
  case hIx =>
    rintro cd s X Y ⟨q1, q3, q2⟩ ho
    rw [hs1] at ho
    have ho2 := hlo.only (fun _ h => h) q3 ho
    exact ⟨q1, hlo.keep q3 ho2, hlo.xk q2 ho2⟩
  case h0 => exact ⟨hJ1, hz1⟩
  case assign =>
    intro l x wx K hK
    clear hp hs1
    simp only [en9]
    simp only [List.setIfInBounds_toArray, List.set_cons_succ, List.set_cons_zero] at hK
    gi_wp2
    exact hK
  case body =>
    rintro l pre x X hl hlX hnl ⟨q2, q3⟩ hpre
    have hmp : (pre ++ [x]).map (·.2) = pre.map (·.2) ++ [x.2] := by rw [List.map_append]; rfl
    obtain ⟨fn, tmps, assign, body, hyy, hR⟩ := hlo.call hFN (l := l) (m' := 6) hY q2 q3 (x := x.2) (by rw [← hmp]; exact prefix_map9 _ hpre)
    simp only [eI] at hyy
    have cY := q3.y
    have HR := Lib.hid hR
    have HMP := Lib.hid hmp
    clear hlo hY hp hs1 hs hst hz1 hJ1 hb1' q2 q3 bY h0 hR hmp hpre hFN
    simp only [List.setIfInBounds_toArray, List.set_cons_succ, List.set_cons_zero]
    gi_wp2_with fail
    refine HR.out.mono ?_
    rintro e1 W2 ⟨b, rfl, hB⟩
    have HB := Lib.hid hB.out
    clear hB HR hyy
    cases b with
    | true =>
      gi_wp2
      refine ⟨HB.out.kb, ?_, HB.out.z⟩
      rw [HMP.out]
      exact HB.out.go rfl
    | false =>
      gi_wp2
      refine ⟨HB.out.kb, rfl, HB.out.z, ?_⟩
      rw [HMP.out]
      exact HB.out.stop rfl
  case done =>
    rintro Dn X hDn ⟨q2, q3⟩ hse hK hnD
    have HE : Hid (J (L.map (·.2)) (X.putObj Dn (.deferred none)) ∧ Se (X.putObj Dn (.deferred none))) := ⟨hlo.jk q2 (only_w (only_put X Dn _) (fun k hk => by subst hk; exact ⟨.inl (by omega), fun h => hnD (.inl h)⟩)), hst.se _ _ hse (fun k hk => World.putObj_heap_other (by have := hst.lt k hk; omega))⟩
    have HK := Lib.hid hK
    clear hlo hY hp hs1 hs hst hz1 hJ1 hb1' q2 q3 bY h0 hK hnD hDn hFN hse
    gi_wp2
    refine ⟨by simp, .inl ⟨_, _, rfl, run_takeDeferred HK.out, ?_⟩⟩
    exact ⟨_, results_none rfl _ _ _, ⟨_, rfl⟩, .inl HE.out⟩
  case stop =>
    rintro Dn cd pre X hDn hpre ⟨rfl, q3, q2⟩ hse hK hnD
    have HE : Hid (∃ pre, pre <+: L.map (·.2) ∧ Jx pre (X.putObj Dn (.deferred none)) ∧ St pre.length (X.putObj Dn (.deferred none))) := ⟨_, prefix_map9 _ hpre, hlo.xk q2 (only_w (only_put X Dn _) (fun k hk => by subst hk; exact ⟨.inl (by omega), fun h => hnD (.inl h)⟩)), by
      rw [List.length_map]; exact hst.st _ _ _ hse (fun k hk => World.putObj_heap_other (by have := hst.lt k hk; omega))⟩
    have HK := Lib.hid hK
    clear hlo hY hp hs1 hs hst hz1 hJ1 hb1' q2 q3 bY h0 hK hnD hDn hpre hFN hse
    gi_wp2
    refine ⟨by simp, .inl ⟨_, _, rfl, run_takeDeferred HK.out, ?_⟩⟩
    exact ⟨_, results_none rfl _ _ _, ⟨_, rfl⟩, .inr HE.out⟩
  · exact c9F_D hcD (fun _ h => h) hlo.el hlo.lt (fun _ h => h.elim) hD hlw
set_option maxHeartbeats 1000000 in
set_option maxRecDepth 100000 in
theorem wlk_values {E : Nat → Prop} {St : Nat → World → Prop} {Se : World → Prop} {g : Nat} {lb : Array Value} {L : List Tm.E} {D : Nat → Prop} {w : World} (hs : SeqE E St Se g lb en9 L D w) (hst : Stat E w.heap.size St Se) (hen : ∀ args w, (callFunc g args).run Try.prog w = .ok (.enter g args) w) (hD : ∀ k, w.heap.size ≤ k → D k) :
    Calls Try.prog 18 #[.func (.func g) #[] lb] w fun e w' => ∃ g2 lb2, e = .returned (.func (.func g2) #[] lb2) ∧ Hid ((∀ args w, (callFunc g2 args).run Try.prog w = .ok (.enter g2 args) w) ∧ SeqE E St Se g2 lb2 eI (L.map (·.2)) D w') ∧ Below w.heap.size w w' := by
  have HS := Lib.hid hs; have HE := Lib.hid hen; have HD := Lib.hid hD; have HST := Lib.hid hst
  clear hs hen hD hst
  go_enter Try.func18, Try.ntmps18
  go_wp2
  go_ret
  have hb : Below w.heap.size w (w.alloc (.cells #[.func (.func g) #[] lb] 31)) := one_b8 _ _
  have b0 := (Boxed.new w 31 (.func (.func g) #[] lb)).cell
  refine ⟨_, _, rfl, ⟨enters_of Try.func45 (by kernel_rfl) rfl, ?_⟩, hb⟩
  exact wlk_values1 (HS.out.below hb) (HST.out.up (by simp)) HE.out (fun k hk => HD.out k (by simp at hk; omega)) b0 (by simp)
end Go.Proofs.Ytdchapcpimhjaaa
