/- Layer 9: those who own something while they loop; append in a round. -/
import Derived.OwnWalkIn
import Derived.TacticsInMore
import Derived.Test.YtdchapcpimhjaaaWlkL
import Derived.Test.YtdchapcpimhjaaaKitAppend
namespace Go.Proofs.Ytdchapcpimhjaaa
open Go.RowKit

/-- c, and some blocks below N besides -/
def Co.plus (c : Co) (S : Nat → Prop) (N : Nat) : Co where
  V X := c.V X ∧ N ≤ X.heap.size ∧ ∀ k, S k → k < N → ¬ c.O X k
  O X k := c.O X k ∨ (S k ∧ k < N)
  lt X k hv h := by
    rcases h with h | h
    · exact c.lt X k hv.1 h
    · have := hv.2.1; omega
  det X Y hv hs h := by
    obtain ⟨h1, h2⟩ := c.det X Y hv.1 hs (fun k hk => h k (.inl hk))
    refine ⟨⟨h1, Nat.le_trans hv.2.1 hs, fun k hk hn hx => hv.2.2 k hk hn ((h2 k).1 hx)⟩, fun k => ?_⟩
    rw [h2 k]
/-- the row that a box names -/
def rowOf (X : World) (q k : Nat) : Prop := ∃ n c, X.cell? ⟨q, 0, none⟩ = some (.slice (some ⟨k, 0, none⟩) n c)
/-- some blocks below N, and the rows, from M on, that the boxes qs among them name -/
def coR (S : Nat → Prop) (N M : Nat) (qs : List Nat) : Co where
  V X := N ≤ X.heap.size ∧ ∀ q ∈ qs, (S q ∧ q < N) ∧ ∀ k, rowOf X q k → M ≤ k ∧ k < X.heap.size
  O X k := (S k ∧ k < N) ∨ ∃ q ∈ qs, rowOf X q k
  lt X k hv h := by
    rcases h with h | ⟨q, hq, h⟩
    · have := hv.1; omega
    · exact ((hv.2 q hq).2 k h).2
  det X Y hv hs h := by
    have hr : ∀ q ∈ qs, ∀ k, rowOf Y q k ↔ rowOf X q k := fun q hq k => by
      have hb := h q (.inl (hv.2 q hq).1)
      have hc : Y.cell? ⟨q, 0, none⟩ = X.cell? ⟨q, 0, none⟩ := by simp [World.cell?, hb]
      unfold rowOf
      rw [hc]
    refine ⟨⟨Nat.le_trans hv.1 hs, fun q hq => ⟨(hv.2 q hq).1, fun k hk => ?_⟩⟩, fun k => ?_⟩
    · have := (hv.2 q hq).2 k ((hr q hq k).1 hk)
      exact ⟨this.1, by omega⟩
    · constructor
      · rintro (h | ⟨q, hq, h⟩)
        · exact .inl h
        · exact .inr ⟨q, hq, (hr q hq k).1 h⟩
      · rintro (h | ⟨q, hq, h⟩)
        · exact .inl h
        · exact .inr ⟨q, hq, (hr q hq k).2 h⟩
theorem Co.kb_trans {c : Co} {X Y Z : World} (h : c.kb X Y) (k : c.kb Y Z) : c.kb X Z :=
  ⟨⟨k.1.os.trans h.1.os, k.1.tape.trans h.1.tape, k.1.output.trans h.1.output, Nat.le_trans h.1.size k.1.size, fun i hi hx => (k.1.block i (Nat.lt_of_lt_of_le hi h.1.size) (fun e => by
      rcases h.2 i e with e | e
      · exact hx e
      · omega)).trans (h.1.block i hi hx)⟩,
   fun i hi => by
      rcases k.2 i hi with e | e
      · exact h.2 i e
      · have := h.1.size; exact .inr (by omega)⟩
/-- new blocks, and writes elsewhere than in one's own -/
theorem Co.kb_of {c : Co} {X Y : World} (hv : c.V X) (h : Below X.heap.size X Y) : c.kb X Y :=
  ⟨⟨h.os, h.tape, h.output, h.size, fun k hk _ => h.block k hk⟩, fun k hk => .inl (((c.det X Y hv h.size (fun i hi => h.block i (c.lt X i hv hi))).2 k).1 hk)⟩
section
variable {n : Nat} {P : Program}
/-- append onto an owned row, in a fence; where the new row lies -/
theorem wpListIn_append_at {F : Fence} (w : World) {ops : Array Oper} {rest : List Oper} {o : Oper} {a : Act} {Q : Exit → Act → World → Prop}
    (hg : o.guard = none) (s x : Operand) (t : TypeId) (hop : o.op = Op.call { callee := Callee.builtin Builtin.append, args := #[s, x], argTypes := #[t, t] })
    (base : Nat) (e : TypeId) (i : TypeInfo) (z : Value) (size bytes : Nat) (h1 : P.underlying t = some (.slice e)) (h2 : P.info? e = some i) (h3 : i.zero = some z) (h4 : i.size = size) (h5 : i.bytes = bytes) (h6 : z.cells.size = size)
    (v : Value) (k : Nat) (xs : List Value) (hs : a.eval s = v) (hown : w.ownsRow base e size v k xs) (xv : Value) (m : Nat) (news : List Value) (hx : a.eval x = xv) (hsrc : Src P size t xv m news w)
    (b1 : k + m ≤ maxLen) (b2 : (k + m) * bytes ≤ 140737488355328) (b3 : base ≤ w.heap.size)
    (hK : ∀ v' w', w'.ownsRow base e size v' (k + m) (xs ++ news) → w.grownBy w' v.ownBlock → (v'.ownBlock = v.ownBlock ∨ v'.ownBlock = some w.heap.size) → wpListIn F n P ops Q rest (a.put o.dst v') w') :
    wpListIn F n P ops Q (o :: rest) a w := by
  refine wpListIn_plain hg fun K hK' => ?_
  obtain ⟨v', w', hrun, r1, r2, r3⟩ := run_append_src_own (P := P) w base t t o.type e i z size bytes h1 h2 h3 h4 h5 h6 v k xs hown xv m news hsrc b1 b2 b3
  unfold Oper.wpIn
  refine ⟨?_, ?_⟩
  · simp [Oper.about, hop, resolve, Target.leads, Sem.run_pure]
  · rw [Oper.semAt_plain F _ _ (by rw [hop]; intro c hc'; cases hc')]
    simp [execOp, hop, resolve, invoke, builtin, hs, hx, hrun, Result.andThen]
    exact hK' _ _ (hK v' w' r1 r2 r3)
end
/-- 'out = append(out, x)' for a box of one's own -/
theorem co_appended {S : Nat → Prop} {N M q : Nat} {qs : List Nat} {wx w3 : World} {tmp : Obj} {t e : TypeId} {size n n' : Nat} {a : Option Addr} {c : Nat} {xs xs' : List Value} {g' c' : Nat}
    (hv : (coR S N M qs).V wx) (hq : q ∈ qs) (hte : t ≠ e) (hbo : Boxed wx q t (.slice a n c)) (hrow : wx.ownsRow M e size (.slice a n c) n xs) (_hM : M ≤ wx.heap.size)
    (hown : w3.ownsRow M e size (.slice (some ⟨g', 0, none⟩) n' c') n' xs') (hg : (wx.alloc tmp).grownBy w3 (Value.slice a n c).ownBlock) (hw : (Value.slice (some ⟨g', 0, none⟩) n' c').ownBlock = (Value.slice a n c).ownBlock ∨ (Value.slice (some ⟨g', 0, none⟩) n' c').ownBlock = some (wx.alloc tmp).heap.size)
    (hbox : ∀ q2 ∈ qs, (Value.slice a n c).ownBlock ≠ some q2) :
    Boxed w3 q t (.slice a n c) ∧ Boxed (w3.setCell ⟨q, 0, none⟩ (.slice (some ⟨g', 0, none⟩) n' c')) q t (.slice (some ⟨g', 0, none⟩) n' c') ∧ (w3.setCell ⟨q, 0, none⟩ (.slice (some ⟨g', 0, none⟩) n' c')).ownsRow M e size (.slice (some ⟨g', 0, none⟩) n' c') n' xs' ∧
      (coR S N M qs).kb wx (w3.setCell ⟨q, 0, none⟩ (.slice (some ⟨g', 0, none⟩) n' c')) ∧ (∀ k, k < wx.heap.size → k ≠ q → (Value.slice a n c).ownBlock ≠ some k → (w3.setCell ⟨q, 0, none⟩ (.slice (some ⟨g', 0, none⟩) n' c')).heap[k]? = wx.heap[k]?) := by
  have hql : q < wx.heap.size := hbo.lt
  have h1 : Boxed w3 q t (.slice a n c) := (hbo.alloc tmp).kept hg (hbo.not_row hte hrow)
  have h2 := h1.set (.slice (some ⟨g', 0, none⟩) n' c')
  have hne : q ≠ g' := fun e' => by
    have := h1.not_row hte hown
    rw [e'] at this
    exact this rfl
  have hblk : ∀ k, k < wx.heap.size → k ≠ q → (Value.slice a n c).ownBlock ≠ some k → (w3.setCell ⟨q, 0, none⟩ (.slice (some ⟨g', 0, none⟩) n' c')).heap[k]? = wx.heap[k]? := fun k hk hkq hko => by
    rw [Below.heap_setCell _ _ _ _ hkq, hg.block k (by simp; omega) (fun e' => hko e'.symm)]
    exact Below.heap_alloc _ _ _ hk
  refine ⟨h1, h2, hown.kept (grownBy_setCell' w3 q _) (.inr (h1.not_row hte hown).symm), ⟨?_, fun k hk => ?_⟩, hblk⟩
  · refine Only.setCell (p := (coR S N M qs).O wx) (q := ⟨q, 0, none⟩) (((only_new _ wx tmp)).grown hg (fun k e' => ?_)) (.inl (.inl (hv.2 q hq).1)) _
    left
    refine .inr ⟨q, hq, ?_⟩
    rcases hrow.2 with ⟨e1, _⟩ | ⟨g, cap, cur, e1, _⟩
    · rw [e1] at e'; cases e'
    · rw [e1] at e'
      obtain rfl : g = k := by simpa [Value.ownBlock] using e'
      injection e1 with e2 e3 e4
      exact ⟨n, c, by rw [hbo.cell, e2]⟩
  · rcases hk with hk | ⟨q2, hq2, m2, c2, hk⟩
    · exact .inl (.inl hk)
    · by_cases e2 : q2 = q
      · subst e2
        rw [h2.cell] at hk
        injection hk with hk
        injection hk with e3 e4 e5
        injection e3 with e3
        injection e3 with e3
        subst e3
        rcases hw with hw | hw
        · refine .inl (.inr ⟨q2, hq, n, c, ?_⟩)
          rcases hrow.2 with ⟨e1, _⟩ | ⟨g, cap, cur, e1, _⟩
          · rw [e1] at hw; simp [Value.ownBlock] at hw
          · rw [e1] at hw
            obtain rfl : g' = g := by simpa [Value.ownBlock] using hw
            injection e1 with e2 e3 e4
            rw [hbo.cell, e2]
        · right
          have : g' = (wx.alloc tmp).heap.size := by simpa [Value.ownBlock] using hw
          rw [this]; simp
      · have hb2 : (w3.setCell ⟨q, 0, none⟩ (.slice (some ⟨g', 0, none⟩) n' c')).heap[q2]? = wx.heap[q2]? := hblk q2 (by have := (hv.2 q2 hq2).1.2; have := hv.1; omega) e2 (hbox q2 hq2)
        refine .inl (.inr ⟨q2, hq2, m2, c2, ?_⟩)
        rw [← hk]
        simp [World.cell?, hb2]
end Go.Proofs.Ytdchapcpimhjaaa
