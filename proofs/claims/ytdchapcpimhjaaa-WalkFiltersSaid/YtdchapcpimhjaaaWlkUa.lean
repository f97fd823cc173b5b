/- Layer 9: First. -/
import Derived.Test.YtdchapcpimhjaaaWlkSa
namespace Go.Proofs.Ytdchapcpimhjaaa
open Go.RowKit Go.Shelf

attribute [local go_sem] Oper.semAt_some

theorem results_sb {fn : Func} {q r : Tmp} (h : fn.results = #[.cell q 9, .cell r 4]) (tmps : Array Value) (w : World) (g k : Nat) (s : ByteArray) (b : Bool) (ht : tmps.getD q undef = .pointer (some ⟨g, 0, none⟩)) (hu : tmps.getD r undef = .pointer (some ⟨k, 0, none⟩)) (hc : w.cell? ⟨g, 0, none⟩ = some (.string s)) (hd : w.cell? ⟨k, 0, none⟩ = some (.bool b)) :
    (results fn tmps).run Try.prog w = .ok (.tuple #[.string s, .bool b]) w := by
  simp only [Array.getD_eq_getD_getElem?] at ht hu
  simp [results, h, go_sem, ht, hu, hc, hd]
/-- the last one of some texts, or none -/
def lastS (l : List Tm.K) : ByteArray := match l.getLast? with | some k => bstr k | none => ⟨#[]⟩
theorem lastS_add (l : List Tm.K) (k : Tm.K) : lastS (l ++ [k]) = bstr k := by unfold lastS; rw [List.getLast?_concat]
set_option maxHeartbeats 4000000 in
set_option maxRecDepth 100000 in
theorem wlk_first_string {g : Nat} {lb : Array Value} {L : List Tm.K} {D : Nat → Prop} {W : World} (hs : SeqX g lb eS L D W) (hen : ∀ args w, (callFunc g args).run Try.prog w = .ok (.enter g args) w) (hD : ∀ k, W.heap.size ≤ k → D k) :
    Calls Try.prog 32 #[.func (.func g) #[] lb] W fun e w' => e = .returned (.tuple #[.string (lastS (L.take 1)), .bool (!(L.take 1).isEmpty)]) ∧ Below W.heap.size W w' := by
  obtain ⟨p, hp⟩ : ∃ p, p = W.heap.size := ⟨_, rfl⟩
  obtain ⟨W1, hW1⟩ : ∃ W1, W1 = (W.alloc (.cells #[.string ⟨#[]⟩] 9)).alloc (.cells #[.bool false] 4) := ⟨_, rfl⟩
  have hs1 : W1.heap.size = p + 2 := by rw [hW1, hp]; simp
  have b0 : Boxed W1 p 9 (.string ⟨#[]⟩) := by rw [hW1, hp]; exact (Boxed.new W _ _).alloc _
  have b1 : Boxed W1 (p + 1) 4 (.bool false) := by
    have := Boxed.new (W.alloc (.cells #[.string ⟨#[]⟩] 9)) 4 (.bool false)
    rw [World.size_alloc, ← hW1, ← hp] at this
    exact this
  have hB1 : Below W.heap.size W W1 := by rw [hW1]; exact (one_b8 _ _).alloc (by simp) _
  have HT := Lib.hid (wlk_take_string (N := 1) (hs.below hB1) hen (fun k hk => hD k (by omega)) (by omega))
  refine (callsIn_wide (n := 9)).1 ?_
  refine callsIn_of_wp_marks Try.func32 rfl trivial ?_ rfl
  simp only [Try.ntmps32, List.size_toArray, List.length_cons, List.length_nil, Nat.reduceAdd, Nat.reduceSub, Array.replicate_succ, Array.replicate_zero, List.push_toArray, List.append_toArray, List.nil_append, List.cons_append]
  gi_wp2_with fail
  rw [← hW1, ← hp]
  clear hW1
  refine ⟨trivial, (callsIn_wide.2 HT.out).mono ?_⟩
  rintro e w2 ⟨g2, lb2, rfl, HS2, hB2⟩
  obtain ⟨hen2, hs2⟩ := HS2.out
  have hz2 := hB2.size
  have c0 : Boxed w2 p 9 (.string ⟨#[]⟩) := boxed_at b0 (hB2.block p (by omega))
  have c1 : Boxed w2 (p + 1) 4 (.bool false) := boxed_at b1 (hB2.block (p + 1) (by omega))
  have hBw : Below p W w2 := (by rw [hp]; exact hB1.trans (hB2.mono hB1.size))
  clear HT HS2
  gi_wp2_with fail
  rw [← hp]
  obtain ⟨L1, hL1⟩ : ∃ L1, L1 = L.take 1 := ⟨_, rfl⟩
  rw [show Int.toNat 1 = 1 from rfl] at hs2
  rw [← hL1] at hs2
  refine rangeX (n := 9) (w := w2) (α := Tm.K) (enc := eS) (L := L1) (D := D) (w0 := w2) (fun t x => (t.setIfInBounds 7 (.string (bstr x))).setIfInBounds 4 (.string (bstr x))) (co0 p (p + 2)) (gf := g2) (lb := lb2) (by omega) rfl hen2 hs2 (Below.refl _ _) ?_ (fun _ => rfl)
    (fun pre X => Boxed X p 9 (.string (lastS pre)) ∧ Boxed X (p + 1) 4 (.bool (!pre.isEmpty)) ∧ Below p W X ∧ p + 2 ≤ X.heap.size)
    (fun _ _ _ => False) (fun _ X h => h.2.2.2) (fun _ _ X h => h.elim) ?hI ?hIx ?h0 ?assign ?body ?done ?stop
  case hI =>
    rintro s X Y ⟨q1, q2, q3, q4⟩ ho
    exact ⟨boxed_at q1 (ho.block p q1.lt (fun e => by omega)), boxed_at q2 (ho.block (p + 1) q2.lt (fun e => by omega)), below_ge9 q3 ho (fun k hk => by omega) (by omega), by have := ho.size; omega⟩
  case hIx => intro cd s X Y h; exact h.elim
  case h0 => exact ⟨c0, c1, hBw, by omega⟩
  case assign =>
    intro l x wx K hK
    clear hp hs1
    simp only [eS]
    simp only [List.setIfInBounds_toArray, List.set_cons_succ, List.set_cons_zero] at hK
    gi_wp2
    exact hK
  case body =>
    rintro l pre x X hl hlX hnl ⟨q1, q2, q3, q4⟩ hpre
    have f0 := q1.frozen
    have d0 := q1.cell
    have h1 := q1.set (.string (bstr x))
    have hg := grownBy_setCell' X p (.string (bstr x))
    obtain ⟨X1, hX1⟩ : ∃ X1, X1 = X.setCell ⟨p, 0, none⟩ (.string (bstr x)) := ⟨_, rfl⟩
    have o1 : Only (fun k => p ≤ k ∧ k < p + 2) X X1 := by rw [hX1]; exact Only.setCell (p := fun k => p ≤ k ∧ k < p + 2) (q := ⟨p, 0, none⟩) (Only.refl _ _) (.inl ⟨Nat.le_refl p, by show p < p + 2; omega⟩) _
    have r1 : Boxed X1 p 9 (.string (bstr x)) := by rw [hX1]; exact q1.set _
    have r2 : Boxed X1 (p + 1) 4 (.bool (!pre.isEmpty)) := by rw [hX1]; exact boxed_at q2 (Below.heap_setCell _ _ _ _ (by show p + 1 ≠ p; omega))
    obtain ⟨X2, hX2⟩ : ∃ X2, X2 = X1.setCell ⟨p + 1, 0, none⟩ (.bool true) := ⟨_, rfl⟩
    have o2 : Only (fun k => p ≤ k ∧ k < p + 2) X1 X2 := by rw [hX2]; exact Only.setCell (p := fun k => p ≤ k ∧ k < p + 2) (q := ⟨p + 1, 0, none⟩) (Only.refl _ _) (.inl ⟨by show p ≤ p + 1; omega, by show p + 1 < p + 2; omega⟩) _
    have s2 : Boxed X2 (p + 1) 4 (.bool true) := by rw [hX2]; exact r2.set _
    have s1 : Boxed X2 p 9 (.string (bstr x)) := by rw [hX2]; exact boxed_at r1 (Below.heap_setCell _ _ _ _ (by show p ≠ p + 1; omega))
    have HR : Hid ((co0 p (p + 2)).kb X X2 ∧ Boxed X2 p 9 (.string (lastS (pre ++ [x]))) ∧ Boxed X2 (p + 1) 4 (.bool (!(pre ++ [x]).isEmpty)) ∧ Below p W X2 ∧ p + 2 ≤ X2.heap.size) := by
      refine ⟨co0_kb (o1.trans o2), by rw [lastS_add]; exact s1, ?_, below_ge9 q3 (o1.trans o2) (fun k hk => hk.1) (by omega), by have := o1.size; have := o2.size; omega⟩
      rw [show (!(pre ++ [x]).isEmpty) = true by cases pre <;> rfl]
      exact s2
    have f1 := r2.frozen
    have d1 := r2.cell
    rw [hX2, hX1] at HR
    rw [hX1] at f1 d1
    clear hs hen hD hp hs1 b0 b1 hB1 q1 q2 q3 q4 hpre hl hlX h1 hg r1 r2 s1 s2 o1 o2 hX1 hX2 hs2 hB2 c0 c1 hBw hL1
    generalize bstr x = sx at *
    simp only [List.setIfInBounds_toArray, List.set_cons_succ, List.set_cons_zero]
    gi_wp2
    exact HR.out
  case done =>
    rintro Dn X hDn ⟨q1, q2, q3, q4⟩ hK hnD
    have hpw : p + 2 ≤ Dn := by omega
    obtain ⟨sx, hsx⟩ : ∃ sx, sx = lastS L1 := ⟨_, rfl⟩
    obtain ⟨bx, hbx⟩ : ∃ bx, bx = !L1.isEmpty := ⟨_, rfl⟩
    rw [← hsx] at q1
    rw [← hbx] at q2
    have HV : Hid (lastS (L.take 1) = sx ∧ (!(L.take 1).isEmpty) = bx) := ⟨by rw [hsx, hL1], by rw [hbx, hL1]⟩
    have c0 := q1.cell
    have c1 := q2.cell
    have f0 := q1.frozen
    have f1 := q2.frozen
    have HK := Lib.hid hK
    have HB := Lib.hid q3
    have HQ1 := Lib.hid q1
    have HQ2 := Lib.hid q2
    have HP := Lib.hid hp
    clear hp hs hen hD hs1 b0 b1 hB1 q1 q2 q3 hK hs2 hB2 hBw hL1 hnD
    clear hsx hbx
    gi_wp2_with fail
    refine (wpIn_wide (n := 9)).2 ?_
    go_region
    obtain ⟨X2, hX2⟩ : ∃ X2, X2 = (X.setCell ⟨p, 0, none⟩ (.string sx)).setCell ⟨p + 1, 0, none⟩ (.bool bx) := ⟨_, rfl⟩
    have o2 : Only (fun k => p ≤ k ∧ k < p + 2) X X2 := by
      rw [hX2]
      exact Only.setCell (p := fun k => p ≤ k ∧ k < p + 2) (q := ⟨p + 1, 0, none⟩) (Only.setCell (p := fun k => p ≤ k ∧ k < p + 2) (q := ⟨p, 0, none⟩) (Only.refl _ _) (.inl ⟨Nat.le_refl p, by show p < p + 2; omega⟩) _) (.inl ⟨by show p ≤ p + 1; omega, by show p + 1 < p + 2; omega⟩) _
    have t1 : Boxed X2 p 9 (.string sx) := by rw [hX2]; exact boxed_at (HQ1.out.set _) (Below.heap_setCell _ _ _ _ (by show p ≠ p + 1; omega))
    have t2 : Boxed X2 (p + 1) 4 (.bool bx) := by
      have t : Boxed (X.setCell ⟨p, 0, none⟩ (.string sx)) (p + 1) 4 (.bool bx) := boxed_at HQ2.out (Below.heap_setCell _ _ _ _ (by show p + 1 ≠ p; omega))
      rw [hX2]
      exact t.set _
    have HE : Hid ((X2.drew.putObj Dn (.deferred none)).cell? ⟨p, 0, none⟩ = some (.string sx) ∧ (X2.drew.putObj Dn (.deferred none)).cell? ⟨p + 1, 0, none⟩ = some (.bool bx) ∧ X2.drew.heap[Dn]? = some (.deferred (some [])) ∧ Below W.heap.size W (X2.drew.putObj Dn (.deferred none))) := by
      have h1 : Only (fun k => k = Dn) X2 (X2.drew.putObj Dn (.deferred none)) := (only_of8 (below_dr8 X2)).trans (only_put X2.drew Dn _)
      have hz := o2.size
      refine ⟨(cell_only8 h1 (q := ⟨p, 0, none⟩) (by show p < X2.heap.size; omega) (by show p ≠ Dn; omega)).trans t1.cell, (cell_only8 h1 (q := ⟨p + 1, 0, none⟩) (by show p + 1 < X2.heap.size; omega) (by show p + 1 ≠ Dn; omega)).trans t2.cell, ?_, ?_⟩
      · exact (o2.block Dn (heap_lt HK.out) (fun h => by omega)).trans HK.out
      · rw [← HP.out]
        exact below_ge9 (below_ge9 HB.out o2 (fun k hk => hk.1) (by omega)) h1 (fun k hk => by omega) (by omega)
    rw [← hX2]
    clear hX2 o2 t1 t2 c0 c1 HQ1 HQ2 HB
    gi_wp2
    refine ⟨by simp, .inl ⟨_, _, rfl, run_takeDeferred HE.out.2.2.1, ?_⟩⟩
    refine ⟨_, results_sb rfl _ _ p (p + 1) sx bx rfl rfl HE.out.1 HE.out.2.1, ?_, HE.out.2.2.2⟩
    rw [HV.out.1, HV.out.2]
  case stop =>
    rintro Dn cd pre X hDn hpre h
    exact h.elim
  · intro X k hv hk
    exact hD k (by have : p ≤ k := hk.1; omega)
end Go.Proofs.Ytdchapcpimhjaaa
/- Layer 9: List, at int. -/
namespace Go.Proofs.Ytdchapcpimhjaaa
open Go.RowKit Go.Shelf

attribute [local go_sem] Oper.semAt_some

theorem rv_own9 {w : World} {B N n c : Nat} {E : TypeId} {a : Option Addr} {vs : List Value} (h : w.ownsRow B E 1 (.slice a n c) n vs) (hB : N ≤ B) : Rv (fun k => k < N ∨ w.heap.size ≤ k) a n c vs w :=
  (Rv.of_own (ex := fun k => k < N) h (fun k hk => by omega)).mono (fun k hk e => by rcases e with e | e <;> omega)
theorem add_p9 (g off j : Nat) : (⟨g, off, none⟩ : Addr).add j = ⟨g, off + j, none⟩ := by unfold Addr.add; split <;> simp_all
theorem own_only9 {w w' : World} {B n : Nat} {E : TypeId} {sz c : Nat} {a : Option Addr} {xs : List Value} (h : w.ownsRow B E sz (.slice a n c) n xs) (hb : ∀ k, (∃ n c, (Value.slice a n c : Value) = .slice (some ⟨k, 0, none⟩) n c) → w'.heap[k]? = w.heap[k]?) : w'.ownsRow B E sz (.slice a n c) n xs := by
  obtain ⟨h1, h2⟩ := h
  refine ⟨h1, ?_⟩
  rcases h2 with h2 | ⟨g, cap, cur, hv, hB, hg2, rest⟩
  · exact .inl h2
  · injection hv with e1 e2 e3
    exact .inr ⟨g, cap, cur, by rw [e1, e3], hB, (hb g ⟨0, 0, by rw [e1]⟩).trans hg2, rest⟩

theorem results_lb_int {fn : Func} {q r : Tmp} (h : fn.results = #[.cell q 45, .cell r 4]) (tmps : Array Value) (w : World) (g k : Nat) (a : Option Addr) (n c : Nat) (b : Bool) (ht : tmps.getD q undef = .pointer (some ⟨g, 0, none⟩)) (hu : tmps.getD r undef = .pointer (some ⟨k, 0, none⟩)) (hc : w.cell? ⟨g, 0, none⟩ = some (.slice a n c)) (hd : w.cell? ⟨k, 0, none⟩ = some (.bool b)) :
    (results fn tmps).run Try.prog w = .ok (.tuple #[.slice a n c, .bool b]) w := by
  simp only [Array.getD_eq_getD_getElem?] at ht hu
  simp [results, h, go_sem, ht, hu, hc, hd]
/-- what stands while List goes on: the bound, the two results, the list -/
structure Li_int (W : World) (p n : Nat) (u : Value) (b : Bool) (a : Option Addr) (c : Nat) (l : List Int) (X : World) : Prop where
  bm : Boxed X p 3 (.int .i64 (n : Int))
  br : Boxed X (p + 1) 45 u
  bb : Boxed X (p + 2) 4 (.bool b)
  bo : Boxed X (p + 3) 45 (.slice a l.length c)
  ow : X.ownsRow (p + 4) 3 1 (.slice a l.length c) l.length (iv l)
  bel : Below p W X
  sz : p + 4 ≤ X.heap.size
def co_int (p : Nat) : Co := coR (fun k => p < k) (p + 4) (p + 4) [p + 3]
theorem Li_int.co {W X : World} {p n : Nat} {u : Value} {b : Bool} {a : Option Addr} {c : Nat} {l : List Int} (h : Li_int W p n u b a c l X) : (co_int p).V X := by
  have h1 := h.bo
  have h2 := h.ow
  refine ⟨h.sz, fun q hq => ?_⟩
  rw [List.mem_singleton] at hq
  subst hq
  refine ⟨⟨by omega, by omega⟩, fun k hk => ?_⟩
  obtain ⟨n2, c2, hk⟩ := hk
  rw [h1.cell] at hk
  injection hk with hk
  injection hk with e1 e2 e3
  rcases h2.2 with ⟨e, _⟩ | ⟨g, cap, cur, e, hB, hg, _⟩
  · injection e with e _ _; rw [e] at e1; cases e1
  · injection e with e _ _
    rw [e] at e1
    injection e1 with e1
    injection e1 with e1 _ _
    subst e1
    exact ⟨hB, heap_lt hg⟩
theorem Li_int.keep {W X Y : World} {p n : Nat} {u : Value} {b : Bool} {a : Option Addr} {c : Nat} {l : List Int} (h : Li_int W p n u b a c l X) (ho : Only (fun k => p + 4 ≤ k ∧ ¬ (co_int p).O X k) X Y) : Li_int W p n u b a c l Y := by
  have h1 := h.bo
  have h2 := h.ow
  refine ⟨boxed_at h.bm (ho.block p h.bm.lt (fun e => by omega)), boxed_at h.br (ho.block _ h.br.lt (fun e => by omega)), boxed_at h.bb (ho.block _ h.bb.lt (fun e => by omega)), boxed_at h1 (ho.block _ h1.lt (fun e => by omega)), ?_, below_ge9 h.bel ho (fun k hk => by omega) (by have := h.sz; omega), Nat.le_trans h.sz ho.size⟩
  refine own_only9 h2 (fun k hk => ?_)
  obtain ⟨n2, c2, e⟩ := hk
  injection e with e1 e2 e3
  by_cases hX : k < X.heap.size
  · exact ho.block k hX (fun e => e.2 (.inr ⟨p + 3, List.mem_singleton.2 rfl, l.length, c, by rw [h1.cell, e1]⟩))
  · rcases h2.2 with ⟨e, _⟩ | ⟨g, cap, cur, e, hB, hg, _⟩
    · injection e with e _ _; rw [e] at e1; cases e1
    · injection e with e _ _
      rw [e] at e1
      injection e1 with e1
      injection e1 with e1 _ _
      subst e1
      exact absurd (heap_lt hg) hX
theorem info9l_int : (Try.prog.info? 3).map (fun i => (i.zero, i.size, i.bytes)) = some (some (.int .i64 0), 1, 8) := by kernel_rfl
set_option maxHeartbeats 4000000 in
set_option maxRecDepth 100000 in
theorem wlk_list_int {g : Nat} {lb : Array Value} {L : List Int} {D : Nat → Prop} {W : World} {n : Nat} (hs : SeqX g lb eI L D W) (hen : ∀ args w, (callFunc g args).run Try.prog w = .ok (.enter g args) w) (hD : ∀ k, W.heap.size ≤ k → D k) (hn : n ≤ 100000) :
    Calls Try.prog 20 #[.func (.func g) #[] lb, .int .i64 (n : Int)] W fun e w' => ∃ a m c b, e = .returned (.tuple #[.slice a m c, .bool b]) ∧ Hid (b = decide (L.length ≤ n) ∧ Rv (fun k => k < W.heap.size ∨ w'.heap.size ≤ k) a m c (iv (L.take n)) w') ∧ Below W.heap.size W w' := by
  have hnf : ∀ w, (binOp .eql 41 (.func (.func g) #[] lb) .nilFunc).run Try.prog w = .ok (.bool false) w := fun w => rfl
  obtain ⟨i0, hi0, hz0, hz1, hz2⟩ := info_of8 info9l_int
  obtain ⟨p, hp⟩ : ∃ p, p = W.heap.size := ⟨_, rfl⟩
  obtain ⟨W1, hW1⟩ : ∃ W1, W1 = (((W.alloc (.cells #[.int .i64 (n : Int)] 3)).alloc (.cells #[.slice none 0 0] 45)).alloc (.cells #[.bool false] 4)).alloc (.cells #[.slice none 0 0] 45) := ⟨_, rfl⟩
  have hs1 : W1.heap.size = p + 4 := by rw [hW1, hp]; simp
  have hL1 : Li_int W p n (.slice none 0 0) false none 0 [] W1 := by
    refine ⟨?_, ?_, ?_, ?_, ⟨rfl, .inl ⟨rfl, rfl⟩⟩, ?_, by omega⟩
    · rw [hW1, hp]; exact (((Boxed.new W _ _).alloc _).alloc _).alloc _
    · have := Boxed.new (W.alloc (.cells #[.int .i64 (n : Int)] 3)) 45 (.slice none 0 0)
      rw [World.size_alloc, ← hp] at this
      rw [hW1]; exact (this.alloc _).alloc _
    · have := Boxed.new ((W.alloc (.cells #[.int .i64 (n : Int)] 3)).alloc (.cells #[.slice none 0 0] 45)) 4 (.bool false)
      rw [World.size_alloc, World.size_alloc, ← hp] at this
      rw [hW1]; exact this.alloc _
    · have := Boxed.new (((W.alloc (.cells #[.int .i64 (n : Int)] 3)).alloc (.cells #[.slice none 0 0] 45)).alloc (.cells #[.bool false] 4)) 45 (.slice none 0 0)
      rw [World.size_alloc, World.size_alloc, World.size_alloc, ← hp] at this
      rw [hW1]; exact this
    · rw [hW1, hp]; exact (((one_b8 _ _).alloc (by simp) _).alloc (by simp; omega) _).alloc (by simp; omega) _
  refine (callsIn_wide (n := 9)).1 ?_
  refine callsIn_of_wp_marks Try.func20 rfl trivial ?_ rfl
  simp only [Try.ntmps20, List.size_toArray, List.length_cons, List.length_nil, Nat.reduceAdd, Nat.reduceSub, Array.replicate_succ, Array.replicate_zero, List.push_toArray, List.append_toArray, List.nil_append, List.cons_append]
  gi_wp2_with fail
  rw [← hW1, ← hp]
  clear hW1
  refine rangeX (n := 9) (w := W1) (α := Int) (enc := eI) (L := L) (D := D) (w0 := W) (fun t x => (t.setIfInBounds 11 (.int .i64 x)).setIfInBounds 7 (.int .i64 x)) (co_int p) (gf := g) (lb := lb) (by omega) rfl hen hs (by rw [← hp]; exact hL1.bel) ?_ (fun _ => rfl)
    (fun pre X => (∃ a c, Li_int W p n (.slice none 0 0) false a c pre X) ∧ pre.length ≤ n)
    (fun cd pre X => cd = .ret ∧ n < pre.length ∧ ∃ a c, Li_int W p n (.slice a n c) false a c (pre.take n) X) (fun _ X h => by obtain ⟨⟨a, c, h⟩, -⟩ := h; exact h.co) (fun _ _ X h => by obtain ⟨-, -, a, c, h⟩ := h; exact h.co) ?hI ?hIx ?h0 ?assign ?body ?done ?stop
  case hI =>
    rintro s X Y ⟨⟨a, c, q1⟩, q2⟩ ho
    rw [hs1] at ho
    exact ⟨⟨a, c, q1.keep ho⟩, q2⟩
  case hIx =>
    rintro cd s X Y ⟨q1, q2, a, c, q3⟩ ho
    rw [hs1] at ho
    exact ⟨q1, q2, a, c, q3.keep ho⟩
  case h0 => exact ⟨⟨_, _, hL1⟩, Nat.zero_le _⟩
  case assign =>
    intro l x wx K hK
    clear hp hs1
    simp only [eI]
    simp only [List.setIfInBounds_toArray, List.set_cons_succ, List.set_cons_zero] at hK
    gi_wp2
    exact hK
  case body =>
    rintro l pre x X hl hlX hnl ⟨⟨a, c, q1⟩, q2⟩ hpre
    have hv := q1.co
    obtain ⟨j, hj⟩ : ∃ j, j = pre.length := ⟨_, rfl⟩
    have cm := q1.bm.cell
    have fm := q1.bm.frozen
    have co := q1.bo
    have hrow := q1.ow
    rw [← hj] at co hrow q2
    have c3 := co.cell
    have f3 := co.frozen
    by_cases hq : j < n
    case neg =>
      have hqI : ¬ (j : Int) < (n : Int) := by omega
      have hqI2 : (n : Int) ≤ (j : Int) := by omega
      have hjn : j = n := by omega
      subst hjn
      have c1 := q1.br.cell
      have f1 := q1.br.frozen
      have c2 := q1.bb.cell
      have f2 := q1.bb.frozen
      obtain ⟨X1, hX1⟩ : ∃ X1, X1 = X.setCell ⟨p + 1, 0, none⟩ (.slice a j c) := ⟨_, rfl⟩
      obtain ⟨X2, hX2⟩ : ∃ X2, X2 = X1.setCell ⟨p + 2, 0, none⟩ (.bool false) := ⟨_, rfl⟩
      have r2 : Boxed X1 (p + 2) 4 (.bool false) := by rw [hX1]; exact boxed_at q1.bb (Below.heap_setCell _ _ _ _ (by show p + 2 ≠ p + 1; omega))
      have d2 := r2.cell
      have e2 := r2.frozen
      have hfar : ∀ k, k ≠ p + 1 → k ≠ p + 2 → X2.heap[k]? = X.heap[k]? := fun k h1 h2 => by
        rw [hX2, Below.heap_setCell _ _ _ _ (by exact h2), hX1, Below.heap_setCell _ _ _ _ (by exact h1)]
      have o2 : Only (fun k => p < k ∧ k < p + 4) X X2 := by
        rw [hX2, hX1]
        exact Only.setCell (p := fun k => p < k ∧ k < p + 4) (q := ⟨p + 2, 0, none⟩) (Only.setCell (p := fun k => p < k ∧ k < p + 4) (q := ⟨p + 1, 0, none⟩) (Only.refl _ _) (.inl ⟨by show p < p + 1; omega, by show p + 1 < p + 4; omega⟩) _) (.inl ⟨by show p < p + 2; omega, by show p + 2 < p + 4; omega⟩) _
      have hz2 := o2.size
      have HR : Hid ((co_int p).kb X X2 ∧ Li_int W p j (.slice a j c) false a c ((pre ++ [x]).take j) X2 ∧ j < (pre ++ [x]).length) := by
        have htk : (pre ++ [x]).take j = pre := by rw [hj, List.take_left]
        rw [htk]
        have hrow2 : X2.ownsRow (p + 4) 3 1 (.slice a pre.length c) pre.length (iv pre) := by
          rw [← hj]
          refine own_only9 hrow (fun k hk => ?_)
          obtain ⟨n2, c2', e⟩ := hk
          injection e with e1 _ _
          have : p + 4 ≤ k := by
            rcases hrow.2 with ⟨e, _⟩ | ⟨g', cap, cur, e, hB, hg, _⟩
            · injection e with e _ _; rw [e] at e1; cases e1
            · injection e with e _ _
              rw [e] at e1
              injection e1 with e1
              injection e1 with e1 _ _
              omega
          exact hfar k (by omega) (by omega)
        refine ⟨⟨only_w o2 (fun k hk => .inl hk), fun k hk => .inl ?_⟩, ⟨boxed_at q1.bm (hfar p (by omega) (by omega)), ?_, ?_, ?_, hrow2, below_ge9 q1.bel o2 (fun k hk => by omega) (by have := q1.sz; omega), Nat.le_trans q1.sz hz2⟩, by rw [List.length_append, List.length_singleton]; omega⟩
        · rcases hk with hk | ⟨q, hq, n2, c2', hk⟩
          · exact .inl hk
          · rw [List.mem_singleton] at hq
            subst hq
            refine .inr ⟨p + 3, List.mem_singleton.2 rfl, n2, c2', ?_⟩
            rw [← hk]
            simp [World.cell?, hfar (p + 3) (by omega) (by omega)]
        · have h1 : Boxed X1 (p + 1) 45 (.slice a j c) := by rw [hX1]; exact q1.br.set _
          rw [hX2]
          exact boxed_at h1 (Below.heap_setCell _ _ _ _ (by show p + 1 ≠ p + 2; omega))
        · rw [hX2]; exact r2.set _
        · rw [← hj]; exact boxed_at co (hfar (p + 3) (by omega) (by omega))
      rw [hX2, hX1] at HR
      rw [hX1] at d2 e2
      clear hs hen hD hs1 hL1 q1 hv hrow co hpre hl hlX hnl r2 hfar o2 hz2 hX1 hX2 hj hp q2
      simp only [List.setIfInBounds_toArray, List.set_cons_succ, List.set_cons_zero]
      gi_wp2
      exact ⟨HR.out.1, rfl, HR.out.2.2, a, c, HR.out.2.1⟩
    case pos =>
      have hqI : (j : Int) < (n : Int) := by omega
      have hqI2 : ¬ (n : Int) ≤ (j : Int) := by omega
      have HRW := Lib.hid hrow
      have HCO := Lib.hid co
      have HV := Lib.hid hv
      have HSZ : Hid (p + 4 ≤ X.heap.size ∧ j ≤ 100000) := ⟨q1.sz, by omega⟩
      have HSRC : Hid (∀ wz : World, Src Try.prog 1 45 (.slice (some ⟨wz.heap.size, 0, none⟩) 1 1) 1 [.int .i64 x] (wz.alloc (.cells #[.int .i64 x] 3))) := fun wz =>
        Src.ofSlice _ Try.underlying45 ⟨wz.heap.size, 0, none⟩ 1 1 [.int .i64 x] rfl (fun i u hu => by
          rw [add_p9, Lib.cell_of_heap (heap_alloc_new wz _), Nat.zero_add, ← Array.getElem?_toList]
          exact hu) (by simp [Value.oneCell'])
      have HFIN : Hid (∀ (g' c' : Nat) (X2 : World), Boxed X2 (p + 3) 45 (.slice (some ⟨g', 0, none⟩) (j + 1) c') → X2.ownsRow (p + 4) 3 1 (.slice (some ⟨g', 0, none⟩) (j + 1) c') (j + 1) (iv pre ++ [.int .i64 x]) → (co_int p).kb X X2 → (∀ k, k < X.heap.size → k ≠ p + 3 → (Value.slice a j c).ownBlock ≠ some k → X2.heap[k]? = X.heap[k]?) → (∃ a c, Li_int W p n (.slice none 0 0) false a c (pre ++ [x]) X2) ∧ (pre ++ [x]).length ≤ n) := fun g' c' X2 h1 h2 h3 h4 => by
        have hnb : ∀ k, k < p + 4 → (Value.slice a j c).ownBlock ≠ some k := fun k hk e => by
          rcases hrow.2 with ⟨e2, _⟩ | ⟨g2, cap, cur, e2, hB, hg, _⟩
          · rw [e2] at e; simp [Value.ownBlock] at e
          · rw [e2] at e
            have : g2 = k := by simpa [Value.ownBlock] using e
            omega
        have hs := q1.sz
        have hlen : (pre ++ [x]).length = j + 1 := by rw [List.length_append, List.length_singleton, hj]
        refine ⟨⟨some ⟨g', 0, none⟩, c', boxed_at q1.bm (h4 p (by omega) (by omega) (hnb p (by omega))), boxed_at q1.br (h4 (p + 1) (by omega) (by omega) (hnb _ (by omega))), boxed_at q1.bb (h4 (p + 2) (by omega) (by omega) (hnb _ (by omega))), by rw [hlen]; exact h1, ?_, ?_, Nat.le_trans hs h3.1.size⟩, by omega⟩
        · rw [hlen, show iv (pre ++ [x]) = iv pre ++ [.int .i64 x] by simp [iv]]; exact h2
        · refine below_ge9 q1.bel h3.1 (fun k hk => ?_) (by omega)
          rcases hk with hk | ⟨q, hq, hk⟩
          · have : p < k := hk.1
            omega
          · have := ((hv.2 q hq).2 k hk).1
            omega
      have HNB : Hid (∀ q2 ∈ [p + 3], (Value.slice a j c).ownBlock ≠ some q2) := fun q2 hq2 e => by
        rw [List.mem_singleton] at hq2
        subst hq2
        rcases hrow.2 with ⟨e2, _⟩ | ⟨g2, cap, cur, e2, hB, hg, _⟩
        · rw [e2] at e; simp [Value.ownBlock] at e
        · rw [e2] at e
          have : g2 = p + 3 := by simpa [Value.ownBlock] using e
          omega
      clear hs hen hD hs1 hL1 q1 hv hrow co hpre hl hlX hnl hj hp q2
      
      simp only [List.setIfInBounds_toArray, List.set_cons_succ, List.set_cons_zero]
      gi_wp2_with (gi_at_builtin; refine wpListIn_append_at _ rfl _ _ 45 rfl (p + 4) 3 i0 (.int .i64 0) 1 8 Try.underlying45 hi0 hz0 hz1 hz2 rfl _ j (iv pre) rfl (HRW.out.alloc _) _ 1 [.int .i64 x] rfl (HSRC.out _) (by have := HSZ.out; unfold maxLen; omega) (by have := HSZ.out; omega) (by have := HSZ.out; simp; omega) ?_; intro v' w3 hown' hg3 hw3
                   obtain ⟨g', cap', rfl⟩ := ownsRow_succ hown'
                   obtain ⟨k1, k2, k3, k4, k5⟩ := co_appended (S := fun k => p < k) (N := p + 4) (M := p + 4) (qs := [p + 3]) (q := p + 3) HV.out (List.mem_singleton.2 rfl) (by decide) HCO.out HRW.out HSZ.out.1 hown' hg3 hw3 HNB.out
                   have c4 := k1.cell
                   have f4 := k1.frozen
                   have HK2 := Lib.hid k2; have HK3 := Lib.hid k3; have HK4 := Lib.hid k4; have HK5 := Lib.hid k5
                   clear hw3 hown' hg3 k1 k2 k3 k4 k5
                   go_frame)
      exact ⟨HK4.out, HFIN.out _ _ _ HK2.out HK3.out HK4.out HK5.out⟩
  case done =>
    rintro Dn X hDn ⟨⟨a, c, q1⟩, q2⟩ hK hnD
    obtain ⟨j, hj⟩ : ∃ j, j = L.length := ⟨_, rfl⟩
    have co := q1.bo
    have hrow := q1.ow
    rw [← hj] at co hrow q2
    have c3 := co.cell
    have c1 := q1.br.cell
    have f1 := q1.br.frozen
    obtain ⟨X1, hX1⟩ : ∃ X1, X1 = X.setCell ⟨p + 1, 0, none⟩ (.slice a j c) := ⟨_, rfl⟩
    obtain ⟨X2, hX2⟩ : ∃ X2, X2 = X1.setCell ⟨p + 2, 0, none⟩ (.bool true) := ⟨_, rfl⟩
    have r1 : Boxed X1 (p + 1) 45 (.slice a j c) := by rw [hX1]; exact q1.br.set _
    have r2 : Boxed X1 (p + 2) 4 (.bool false) := by rw [hX1]; exact boxed_at q1.bb (Below.heap_setCell _ _ _ _ (by show p + 2 ≠ p + 1; omega))
    have d2 := r2.cell
    have e2 := r2.frozen
    have s2 : Boxed X2 (p + 2) 4 (.bool true) := by rw [hX2]; exact r2.set _
    have s1 : Boxed X2 (p + 1) 45 (.slice a j c) := by rw [hX2]; exact boxed_at r1 (Below.heap_setCell _ _ _ _ (by show p + 1 ≠ p + 2; omega))
    have hfar : ∀ k, k ≠ p + 1 → k ≠ p + 2 → X2.heap[k]? = X.heap[k]? := fun k h1 h2 => by
      rw [hX2, Below.heap_setCell _ _ _ _ (by exact h2), hX1, Below.heap_setCell _ _ _ _ (by exact h1)]
    have o2 : Only (fun k => p < k ∧ k < p + 4) X X2 := by
      rw [hX2, hX1]
      exact Only.setCell (p := fun k => p < k ∧ k < p + 4) (q := ⟨p + 2, 0, none⟩) (Only.setCell (p := fun k => p < k ∧ k < p + 4) (q := ⟨p + 1, 0, none⟩) (Only.refl _ _) (.inl ⟨by show p < p + 1; omega, by show p + 1 < p + 4; omega⟩) _) (.inl ⟨by show p < p + 2; omega, by show p + 2 < p + 4; omega⟩) _
    have hz2 := o2.size
    have hsz := q1.sz
    have hD2 : X2.heap[Dn]? = some (.deferred (some [])) := (hfar Dn (by omega) (by omega)).trans hK
    have hrow2 : X2.ownsRow (p + 4) 3 1 (.slice a j c) j (iv L) := by
      refine own_only9 hrow (fun k hk => ?_)
      obtain ⟨n2, c2', e⟩ := hk
      injection e with e1 _ _
      have : p + 4 ≤ k := by
        rcases hrow.2 with ⟨e, _⟩ | ⟨g', cap, cur, e, hB, hg, _⟩
        · injection e with e _ _; rw [e] at e1; cases e1
        · injection e with e _ _
          rw [e] at e1
          injection e1 with e1
          injection e1 with e1 _ _
          omega
      exact hfar k (by omega) (by omega)
    have o3 := only_put X2 Dn (.deferred none)
    have HF : Hid (X2.heap[Dn]? = some (.deferred (some [])) ∧ (X2.putObj Dn (.deferred none)).cell? ⟨p + 1, 0, none⟩ = some (.slice a j c) ∧ (X2.putObj Dn (.deferred none)).cell? ⟨p + 2, 0, none⟩ = some (.bool true) ∧ (true = decide (L.length ≤ n) ∧ Rv (fun k => k < W.heap.size ∨ (X2.putObj Dn (.deferred none)).heap.size ≤ k) a j c (iv (L.take n)) (X2.putObj Dn (.deferred none))) ∧ Below W.heap.size W (X2.putObj Dn (.deferred none))) := by
      refine ⟨hD2, (boxed_at s1 (o3.block _ s1.lt (fun e => by omega))).cell, (boxed_at s2 (o3.block _ s2.lt (fun e => by omega))).cell, ⟨by simp; omega, ?_⟩, ?_⟩
      · rw [List.take_of_length_le (by omega)]
        exact rv_own9 (ownsRow_putObj hrow2 _ hD2 rfl) (by omega)
      · rw [← hp]
        exact below_ge9 (below_ge9 q1.bel o2 (fun k hk => by omega) (by omega)) o3 (fun k hk => by omega) (by omega)
    rw [hX2, hX1] at HF
    rw [hX1] at d2 e2
    clear hs hen hD hs1 hL1 q1 hrow co hnD r1 r2 s1 s2 hfar o2 hz2 hX1 hX2 hj hp q2 o3 hrow2 hD2 hK hDn hsz
    gi_wp2
    refine ⟨by simp, .inl ⟨_, _, rfl, run_takeDeferred HF.out.1, ?_⟩⟩
    exact ⟨_, results_lb_int rfl _ _ (p + 1) (p + 2) a j c true rfl rfl HF.out.2.1 HF.out.2.2.1, _, _, _, _, rfl, HF.out.2.2.2.1, HF.out.2.2.2.2⟩
  case stop =>
    rintro Dn cd pre X hDn hpre ⟨rfl, q2, a, c, q3⟩ hK hnD
    obtain ⟨t, rfl⟩ := hpre
    have hlen : (pre.take n).length = n := by rw [List.length_take]; omega
    have hrow := q3.ow
    rw [hlen] at hrow
    have o3 := only_put X Dn (.deferred none)
    have hsz := q3.sz
    have HF : Hid (X.heap[Dn]? = some (.deferred (some [])) ∧ (X.putObj Dn (.deferred none)).cell? ⟨p + 1, 0, none⟩ = some (.slice a n c) ∧ (X.putObj Dn (.deferred none)).cell? ⟨p + 2, 0, none⟩ = some (.bool false) ∧ (false = decide ((pre ++ t).length ≤ n) ∧ Rv (fun k => k < W.heap.size ∨ (X.putObj Dn (.deferred none)).heap.size ≤ k) a n c (iv ((pre ++ t).take n)) (X.putObj Dn (.deferred none))) ∧ Below W.heap.size W (X.putObj Dn (.deferred none))) := by
      refine ⟨hK, (boxed_at q3.br (o3.block _ q3.br.lt (fun e => by omega))).cell, (boxed_at q3.bb (o3.block _ q3.bb.lt (fun e => by omega))).cell, ⟨by simp; omega, ?_⟩, ?_⟩
      · rw [List.take_append_of_le_length (by omega)]
        exact rv_own9 (ownsRow_putObj hrow _ hK rfl) (by omega)
      · rw [← hp]
        exact below_ge9 q3.bel o3 (fun k hk => by omega) (by omega)
    clear hs hen hD hs1 hL1 q3 hrow hnD hp q2 o3 hK hDn hsz hlen
    gi_wp2
    refine ⟨by simp, .inl ⟨_, _, rfl, run_takeDeferred HF.out.1, ?_⟩⟩
    exact ⟨_, results_lb_int rfl _ _ (p + 1) (p + 2) a n c false rfl rfl HF.out.2.1 HF.out.2.2.1, _, _, _, _, rfl, HF.out.2.2.2.1, HF.out.2.2.2.2⟩
  · intro X k hv hk
    have : p ≤ k := by
      rcases hk with hk | ⟨q, hq, hk⟩
      · have h : p < k := hk.1
        omega
      · have := ((hv.2 q hq).2 k hk).1
        omega
    exact hD k (by omega)
end Go.Proofs.Ytdchapcpimhjaaa
/- Layer 9: List, at string. -/
namespace Go.Proofs.Ytdchapcpimhjaaa
open Go.RowKit Go.Shelf

attribute [local go_sem] Oper.semAt_some

theorem results_lb_string {fn : Func} {q r : Tmp} (h : fn.results = #[.cell q 22, .cell r 4]) (tmps : Array Value) (w : World) (g k : Nat) (a : Option Addr) (n c : Nat) (b : Bool) (ht : tmps.getD q undef = .pointer (some ⟨g, 0, none⟩)) (hu : tmps.getD r undef = .pointer (some ⟨k, 0, none⟩)) (hc : w.cell? ⟨g, 0, none⟩ = some (.slice a n c)) (hd : w.cell? ⟨k, 0, none⟩ = some (.bool b)) :
    (results fn tmps).run Try.prog w = .ok (.tuple #[.slice a n c, .bool b]) w := by
  simp only [Array.getD_eq_getD_getElem?] at ht hu
  simp [results, h, go_sem, ht, hu, hc, hd]
/-- what stands while List goes on: the bound, the two results, the list -/
structure Li_string (W : World) (p n : Nat) (u : Value) (b : Bool) (a : Option Addr) (c : Nat) (l : List Tm.K) (X : World) : Prop where
  bm : Boxed X p 3 (.int .i64 (n : Int))
  br : Boxed X (p + 1) 22 u
  bb : Boxed X (p + 2) 4 (.bool b)
  bo : Boxed X (p + 3) 22 (.slice a l.length c)
  ow : X.ownsRow (p + 4) 9 1 (.slice a l.length c) l.length (sk l)
  bel : Below p W X
  sz : p + 4 ≤ X.heap.size
def co_string (p : Nat) : Co := coR (fun k => p < k) (p + 4) (p + 4) [p + 3]
theorem Li_string.co {W X : World} {p n : Nat} {u : Value} {b : Bool} {a : Option Addr} {c : Nat} {l : List Tm.K} (h : Li_string W p n u b a c l X) : (co_string p).V X := by
  have h1 := h.bo
  have h2 := h.ow
  refine ⟨h.sz, fun q hq => ?_⟩
  rw [List.mem_singleton] at hq
  subst hq
  refine ⟨⟨by omega, by omega⟩, fun k hk => ?_⟩
  obtain ⟨n2, c2, hk⟩ := hk
  rw [h1.cell] at hk
  injection hk with hk
  injection hk with e1 e2 e3
  rcases h2.2 with ⟨e, _⟩ | ⟨g, cap, cur, e, hB, hg, _⟩
  · injection e with e _ _; rw [e] at e1; cases e1
  · injection e with e _ _
    rw [e] at e1
    injection e1 with e1
    injection e1 with e1 _ _
    subst e1
    exact ⟨hB, heap_lt hg⟩
theorem Li_string.keep {W X Y : World} {p n : Nat} {u : Value} {b : Bool} {a : Option Addr} {c : Nat} {l : List Tm.K} (h : Li_string W p n u b a c l X) (ho : Only (fun k => p + 4 ≤ k ∧ ¬ (co_string p).O X k) X Y) : Li_string W p n u b a c l Y := by
  have h1 := h.bo
  have h2 := h.ow
  refine ⟨boxed_at h.bm (ho.block p h.bm.lt (fun e => by omega)), boxed_at h.br (ho.block _ h.br.lt (fun e => by omega)), boxed_at h.bb (ho.block _ h.bb.lt (fun e => by omega)), boxed_at h1 (ho.block _ h1.lt (fun e => by omega)), ?_, below_ge9 h.bel ho (fun k hk => by omega) (by have := h.sz; omega), Nat.le_trans h.sz ho.size⟩
  refine own_only9 h2 (fun k hk => ?_)
  obtain ⟨n2, c2, e⟩ := hk
  injection e with e1 e2 e3
  by_cases hX : k < X.heap.size
  · exact ho.block k hX (fun e => e.2 (.inr ⟨p + 3, List.mem_singleton.2 rfl, l.length, c, by rw [h1.cell, e1]⟩))
  · rcases h2.2 with ⟨e, _⟩ | ⟨g, cap, cur, e, hB, hg, _⟩
    · injection e with e _ _; rw [e] at e1; cases e1
    · injection e with e _ _
      rw [e] at e1
      injection e1 with e1
      injection e1 with e1 _ _
      subst e1
      exact absurd (heap_lt hg) hX
theorem info9l_string : (Try.prog.info? 9).map (fun i => (i.zero, i.size, i.bytes)) = some (some (.string ⟨#[]⟩), 1, 16) := by kernel_rfl
set_option maxHeartbeats 4000000 in
set_option maxRecDepth 100000 in
theorem wlk_list_string {g : Nat} {lb : Array Value} {L : List Tm.K} {D : Nat → Prop} {W : World} {n : Nat} (hs : SeqX g lb eS L D W) (hen : ∀ args w, (callFunc g args).run Try.prog w = .ok (.enter g args) w) (hD : ∀ k, W.heap.size ≤ k → D k) (hn : n ≤ 100000) :
    Calls Try.prog 23 #[.func (.func g) #[] lb, .int .i64 (n : Int)] W fun e w' => ∃ a m c b, e = .returned (.tuple #[.slice a m c, .bool b]) ∧ Hid (b = decide (L.length ≤ n) ∧ Rv (fun k => k < W.heap.size ∨ w'.heap.size ≤ k) a m c (sk (L.take n)) w') ∧ Below W.heap.size W w' := by
  have hnf : ∀ w, (binOp .eql 55 (.func (.func g) #[] lb) .nilFunc).run Try.prog w = .ok (.bool false) w := fun w => rfl
  obtain ⟨i0, hi0, hz0, hz1, hz2⟩ := info_of8 info9l_string
  obtain ⟨p, hp⟩ : ∃ p, p = W.heap.size := ⟨_, rfl⟩
  obtain ⟨W1, hW1⟩ : ∃ W1, W1 = (((W.alloc (.cells #[.int .i64 (n : Int)] 3)).alloc (.cells #[.slice none 0 0] 22)).alloc (.cells #[.bool false] 4)).alloc (.cells #[.slice none 0 0] 22) := ⟨_, rfl⟩
  have hs1 : W1.heap.size = p + 4 := by rw [hW1, hp]; simp
  have hL1 : Li_string W p n (.slice none 0 0) false none 0 [] W1 := by
    refine ⟨?_, ?_, ?_, ?_, ⟨rfl, .inl ⟨rfl, rfl⟩⟩, ?_, by omega⟩
    · rw [hW1, hp]; exact (((Boxed.new W _ _).alloc _).alloc _).alloc _
    · have := Boxed.new (W.alloc (.cells #[.int .i64 (n : Int)] 3)) 22 (.slice none 0 0)
      rw [World.size_alloc, ← hp] at this
      rw [hW1]; exact (this.alloc _).alloc _
    · have := Boxed.new ((W.alloc (.cells #[.int .i64 (n : Int)] 3)).alloc (.cells #[.slice none 0 0] 22)) 4 (.bool false)
      rw [World.size_alloc, World.size_alloc, ← hp] at this
      rw [hW1]; exact this.alloc _
    · have := Boxed.new (((W.alloc (.cells #[.int .i64 (n : Int)] 3)).alloc (.cells #[.slice none 0 0] 22)).alloc (.cells #[.bool false] 4)) 22 (.slice none 0 0)
      rw [World.size_alloc, World.size_alloc, World.size_alloc, ← hp] at this
      rw [hW1]; exact this
    · rw [hW1, hp]; exact (((one_b8 _ _).alloc (by simp) _).alloc (by simp; omega) _).alloc (by simp; omega) _
  refine (callsIn_wide (n := 9)).1 ?_
  refine callsIn_of_wp_marks Try.func23 rfl trivial ?_ rfl
  simp only [Try.ntmps23, List.size_toArray, List.length_cons, List.length_nil, Nat.reduceAdd, Nat.reduceSub, Array.replicate_succ, Array.replicate_zero, List.push_toArray, List.append_toArray, List.nil_append, List.cons_append]
  gi_wp2_with fail
  rw [← hW1, ← hp]
  clear hW1
  refine rangeX (n := 9) (w := W1) (α := Tm.K) (enc := eS) (L := L) (D := D) (w0 := W) (fun t x => (t.setIfInBounds 11 (.string (bstr x))).setIfInBounds 7 (.string (bstr x))) (co_string p) (gf := g) (lb := lb) (by omega) rfl hen hs (by rw [← hp]; exact hL1.bel) ?_ (fun _ => rfl)
    (fun pre X => (∃ a c, Li_string W p n (.slice none 0 0) false a c pre X) ∧ pre.length ≤ n)
    (fun cd pre X => cd = .ret ∧ n < pre.length ∧ ∃ a c, Li_string W p n (.slice a n c) false a c (pre.take n) X) (fun _ X h => by obtain ⟨⟨a, c, h⟩, -⟩ := h; exact h.co) (fun _ _ X h => by obtain ⟨-, -, a, c, h⟩ := h; exact h.co) ?hI ?hIx ?h0 ?assign ?body ?done ?stop
  case hI =>
    rintro s X Y ⟨⟨a, c, q1⟩, q2⟩ ho
    rw [hs1] at ho
    exact ⟨⟨a, c, q1.keep ho⟩, q2⟩
  case hIx =>
    rintro cd s X Y ⟨q1, q2, a, c, q3⟩ ho
    rw [hs1] at ho
    exact ⟨q1, q2, a, c, q3.keep ho⟩
  case h0 => exact ⟨⟨_, _, hL1⟩, Nat.zero_le _⟩
  case assign =>
    intro l x wx K hK
    clear hp hs1
    simp only [eS]
    simp only [List.setIfInBounds_toArray, List.set_cons_succ, List.set_cons_zero] at hK
    gi_wp2
    exact hK
  case body =>
    rintro l pre x X hl hlX hnl ⟨⟨a, c, q1⟩, q2⟩ hpre
    have hv := q1.co
    obtain ⟨j, hj⟩ : ∃ j, j = pre.length := ⟨_, rfl⟩
    have cm := q1.bm.cell
    have fm := q1.bm.frozen
    have co := q1.bo
    have hrow := q1.ow
    rw [← hj] at co hrow q2
    have c3 := co.cell
    have f3 := co.frozen
    by_cases hq : j < n
    case neg =>
      have hqI : ¬ (j : Int) < (n : Int) := by omega
      have hqI2 : (n : Int) ≤ (j : Int) := by omega
      have hjn : j = n := by omega
      subst hjn
      have c1 := q1.br.cell
      have f1 := q1.br.frozen
      have c2 := q1.bb.cell
      have f2 := q1.bb.frozen
      obtain ⟨X1, hX1⟩ : ∃ X1, X1 = X.setCell ⟨p + 1, 0, none⟩ (.slice a j c) := ⟨_, rfl⟩
      obtain ⟨X2, hX2⟩ : ∃ X2, X2 = X1.setCell ⟨p + 2, 0, none⟩ (.bool false) := ⟨_, rfl⟩
      have r2 : Boxed X1 (p + 2) 4 (.bool false) := by rw [hX1]; exact boxed_at q1.bb (Below.heap_setCell _ _ _ _ (by show p + 2 ≠ p + 1; omega))
      have d2 := r2.cell
      have e2 := r2.frozen
      have hfar : ∀ k, k ≠ p + 1 → k ≠ p + 2 → X2.heap[k]? = X.heap[k]? := fun k h1 h2 => by
        rw [hX2, Below.heap_setCell _ _ _ _ (by exact h2), hX1, Below.heap_setCell _ _ _ _ (by exact h1)]
      have o2 : Only (fun k => p < k ∧ k < p + 4) X X2 := by
        rw [hX2, hX1]
        exact Only.setCell (p := fun k => p < k ∧ k < p + 4) (q := ⟨p + 2, 0, none⟩) (Only.setCell (p := fun k => p < k ∧ k < p + 4) (q := ⟨p + 1, 0, none⟩) (Only.refl _ _) (.inl ⟨by show p < p + 1; omega, by show p + 1 < p + 4; omega⟩) _) (.inl ⟨by show p < p + 2; omega, by show p + 2 < p + 4; omega⟩) _
      have hz2 := o2.size
      have HR : Hid ((co_string p).kb X X2 ∧ Li_string W p j (.slice a j c) false a c ((pre ++ [x]).take j) X2 ∧ j < (pre ++ [x]).length) := by
        have htk : (pre ++ [x]).take j = pre := by rw [hj, List.take_left]
        rw [htk]
        have hrow2 : X2.ownsRow (p + 4) 9 1 (.slice a pre.length c) pre.length (sk pre) := by
          rw [← hj]
          refine own_only9 hrow (fun k hk => ?_)
          obtain ⟨n2, c2', e⟩ := hk
          injection e with e1 _ _
          have : p + 4 ≤ k := by
            rcases hrow.2 with ⟨e, _⟩ | ⟨g', cap, cur, e, hB, hg, _⟩
            · injection e with e _ _; rw [e] at e1; cases e1
            · injection e with e _ _
              rw [e] at e1
              injection e1 with e1
              injection e1 with e1 _ _
              omega
          exact hfar k (by omega) (by omega)
        refine ⟨⟨only_w o2 (fun k hk => .inl hk), fun k hk => .inl ?_⟩, ⟨boxed_at q1.bm (hfar p (by omega) (by omega)), ?_, ?_, ?_, hrow2, below_ge9 q1.bel o2 (fun k hk => by omega) (by have := q1.sz; omega), Nat.le_trans q1.sz hz2⟩, by rw [List.length_append, List.length_singleton]; omega⟩
        · rcases hk with hk | ⟨q, hq, n2, c2', hk⟩
          · exact .inl hk
          · rw [List.mem_singleton] at hq
            subst hq
            refine .inr ⟨p + 3, List.mem_singleton.2 rfl, n2, c2', ?_⟩
            rw [← hk]
            simp [World.cell?, hfar (p + 3) (by omega) (by omega)]
        · have h1 : Boxed X1 (p + 1) 22 (.slice a j c) := by rw [hX1]; exact q1.br.set _
          rw [hX2]
          exact boxed_at h1 (Below.heap_setCell _ _ _ _ (by show p + 1 ≠ p + 2; omega))
        · rw [hX2]; exact r2.set _
        · rw [← hj]; exact boxed_at co (hfar (p + 3) (by omega) (by omega))
      rw [hX2, hX1] at HR
      rw [hX1] at d2 e2
      clear hs hen hD hs1 hL1 q1 hv hrow co hpre hl hlX hnl r2 hfar o2 hz2 hX1 hX2 hj hp q2
      simp only [List.setIfInBounds_toArray, List.set_cons_succ, List.set_cons_zero]
      gi_wp2
      exact ⟨HR.out.1, rfl, HR.out.2.2, a, c, HR.out.2.1⟩
    case pos =>
      have hqI : (j : Int) < (n : Int) := by omega
      have hqI2 : ¬ (n : Int) ≤ (j : Int) := by omega
      have HRW := Lib.hid hrow
      have HCO := Lib.hid co
      have HV := Lib.hid hv
      have HSZ : Hid (p + 4 ≤ X.heap.size ∧ j ≤ 100000) := ⟨q1.sz, by omega⟩
      have HSRC : Hid (∀ wz : World, Src Try.prog 1 22 (.slice (some ⟨wz.heap.size, 0, none⟩) 1 1) 1 [.string (bstr x)] (wz.alloc (.cells #[.string (bstr x)] 9))) := fun wz =>
        Src.ofSlice _ Try.underlying22 ⟨wz.heap.size, 0, none⟩ 1 1 [.string (bstr x)] rfl (fun i u hu => by
          rw [add_p9, Lib.cell_of_heap (heap_alloc_new wz _), Nat.zero_add, ← Array.getElem?_toList]
          exact hu) (by simp [Value.oneCell'])
      have HFIN : Hid (∀ (g' c' : Nat) (X2 : World), Boxed X2 (p + 3) 22 (.slice (some ⟨g', 0, none⟩) (j + 1) c') → X2.ownsRow (p + 4) 9 1 (.slice (some ⟨g', 0, none⟩) (j + 1) c') (j + 1) (sk pre ++ [.string (bstr x)]) → (co_string p).kb X X2 → (∀ k, k < X.heap.size → k ≠ p + 3 → (Value.slice a j c).ownBlock ≠ some k → X2.heap[k]? = X.heap[k]?) → (∃ a c, Li_string W p n (.slice none 0 0) false a c (pre ++ [x]) X2) ∧ (pre ++ [x]).length ≤ n) := fun g' c' X2 h1 h2 h3 h4 => by
        have hnb : ∀ k, k < p + 4 → (Value.slice a j c).ownBlock ≠ some k := fun k hk e => by
          rcases hrow.2 with ⟨e2, _⟩ | ⟨g2, cap, cur, e2, hB, hg, _⟩
          · rw [e2] at e; simp [Value.ownBlock] at e
          · rw [e2] at e
            have : g2 = k := by simpa [Value.ownBlock] using e
            omega
        have hs := q1.sz
        have hlen : (pre ++ [x]).length = j + 1 := by rw [List.length_append, List.length_singleton, hj]
        refine ⟨⟨some ⟨g', 0, none⟩, c', boxed_at q1.bm (h4 p (by omega) (by omega) (hnb p (by omega))), boxed_at q1.br (h4 (p + 1) (by omega) (by omega) (hnb _ (by omega))), boxed_at q1.bb (h4 (p + 2) (by omega) (by omega) (hnb _ (by omega))), by rw [hlen]; exact h1, ?_, ?_, Nat.le_trans hs h3.1.size⟩, by omega⟩
        · rw [hlen, show sk (pre ++ [x]) = sk pre ++ [.string (bstr x)] by simp [sk]]; exact h2
        · refine below_ge9 q1.bel h3.1 (fun k hk => ?_) (by omega)
          rcases hk with hk | ⟨q, hq, hk⟩
          · have : p < k := hk.1
            omega
          · have := ((hv.2 q hq).2 k hk).1
            omega
      have HNB : Hid (∀ q2 ∈ [p + 3], (Value.slice a j c).ownBlock ≠ some q2) := fun q2 hq2 e => by
        rw [List.mem_singleton] at hq2
        subst hq2
        rcases hrow.2 with ⟨e2, _⟩ | ⟨g2, cap, cur, e2, hB, hg, _⟩
        · rw [e2] at e; simp [Value.ownBlock] at e
        · rw [e2] at e
          have : g2 = p + 3 := by simpa [Value.ownBlock] using e
          omega
      clear hs hen hD hs1 hL1 q1 hv hrow co hpre hl hlX hnl hj hp q2
      generalize bstr x = sx at *
      simp only [List.setIfInBounds_toArray, List.set_cons_succ, List.set_cons_zero]
      gi_wp2_with (gi_at_builtin; refine wpListIn_append_at _ rfl _ _ 22 rfl (p + 4) 9 i0 (.string ⟨#[]⟩) 1 16 Try.underlying22 hi0 hz0 hz1 hz2 rfl _ j (sk pre) rfl (HRW.out.alloc _) _ 1 [.string sx] rfl (HSRC.out _) (by have := HSZ.out; unfold maxLen; omega) (by have := HSZ.out; omega) (by have := HSZ.out; simp; omega) ?_; intro v' w3 hown' hg3 hw3
                   obtain ⟨g', cap', rfl⟩ := ownsRow_succ hown'
                   obtain ⟨k1, k2, k3, k4, k5⟩ := co_appended (S := fun k => p < k) (N := p + 4) (M := p + 4) (qs := [p + 3]) (q := p + 3) HV.out (List.mem_singleton.2 rfl) (by decide) HCO.out HRW.out HSZ.out.1 hown' hg3 hw3 HNB.out
                   have c4 := k1.cell
                   have f4 := k1.frozen
                   have HK2 := Lib.hid k2; have HK3 := Lib.hid k3; have HK4 := Lib.hid k4; have HK5 := Lib.hid k5
                   clear hw3 hown' hg3 k1 k2 k3 k4 k5
                   go_frame)
      exact ⟨HK4.out, HFIN.out _ _ _ HK2.out HK3.out HK4.out HK5.out⟩
  case done =>
    rintro Dn X hDn ⟨⟨a, c, q1⟩, q2⟩ hK hnD
    obtain ⟨j, hj⟩ : ∃ j, j = L.length := ⟨_, rfl⟩
    have co := q1.bo
    have hrow := q1.ow
    rw [← hj] at co hrow q2
    have c3 := co.cell
    have c1 := q1.br.cell
    have f1 := q1.br.frozen
    obtain ⟨X1, hX1⟩ : ∃ X1, X1 = X.setCell ⟨p + 1, 0, none⟩ (.slice a j c) := ⟨_, rfl⟩
    obtain ⟨X2, hX2⟩ : ∃ X2, X2 = X1.setCell ⟨p + 2, 0, none⟩ (.bool true) := ⟨_, rfl⟩
    have r1 : Boxed X1 (p + 1) 22 (.slice a j c) := by rw [hX1]; exact q1.br.set _
    have r2 : Boxed X1 (p + 2) 4 (.bool false) := by rw [hX1]; exact boxed_at q1.bb (Below.heap_setCell _ _ _ _ (by show p + 2 ≠ p + 1; omega))
    have d2 := r2.cell
    have e2 := r2.frozen
    have s2 : Boxed X2 (p + 2) 4 (.bool true) := by rw [hX2]; exact r2.set _
    have s1 : Boxed X2 (p + 1) 22 (.slice a j c) := by rw [hX2]; exact boxed_at r1 (Below.heap_setCell _ _ _ _ (by show p + 1 ≠ p + 2; omega))
    have hfar : ∀ k, k ≠ p + 1 → k ≠ p + 2 → X2.heap[k]? = X.heap[k]? := fun k h1 h2 => by
      rw [hX2, Below.heap_setCell _ _ _ _ (by exact h2), hX1, Below.heap_setCell _ _ _ _ (by exact h1)]
    have o2 : Only (fun k => p < k ∧ k < p + 4) X X2 := by
      rw [hX2, hX1]
      exact Only.setCell (p := fun k => p < k ∧ k < p + 4) (q := ⟨p + 2, 0, none⟩) (Only.setCell (p := fun k => p < k ∧ k < p + 4) (q := ⟨p + 1, 0, none⟩) (Only.refl _ _) (.inl ⟨by show p < p + 1; omega, by show p + 1 < p + 4; omega⟩) _) (.inl ⟨by show p < p + 2; omega, by show p + 2 < p + 4; omega⟩) _
    have hz2 := o2.size
    have hsz := q1.sz
    have hD2 : X2.heap[Dn]? = some (.deferred (some [])) := (hfar Dn (by omega) (by omega)).trans hK
    have hrow2 : X2.ownsRow (p + 4) 9 1 (.slice a j c) j (sk L) := by
      refine own_only9 hrow (fun k hk => ?_)
      obtain ⟨n2, c2', e⟩ := hk
      injection e with e1 _ _
      have : p + 4 ≤ k := by
        rcases hrow.2 with ⟨e, _⟩ | ⟨g', cap, cur, e, hB, hg, _⟩
        · injection e with e _ _; rw [e] at e1; cases e1
        · injection e with e _ _
          rw [e] at e1
          injection e1 with e1
          injection e1 with e1 _ _
          omega
      exact hfar k (by omega) (by omega)
    have o3 := only_put X2 Dn (.deferred none)
    have HF : Hid (X2.heap[Dn]? = some (.deferred (some [])) ∧ (X2.putObj Dn (.deferred none)).cell? ⟨p + 1, 0, none⟩ = some (.slice a j c) ∧ (X2.putObj Dn (.deferred none)).cell? ⟨p + 2, 0, none⟩ = some (.bool true) ∧ (true = decide (L.length ≤ n) ∧ Rv (fun k => k < W.heap.size ∨ (X2.putObj Dn (.deferred none)).heap.size ≤ k) a j c (sk (L.take n)) (X2.putObj Dn (.deferred none))) ∧ Below W.heap.size W (X2.putObj Dn (.deferred none))) := by
      refine ⟨hD2, (boxed_at s1 (o3.block _ s1.lt (fun e => by omega))).cell, (boxed_at s2 (o3.block _ s2.lt (fun e => by omega))).cell, ⟨by simp; omega, ?_⟩, ?_⟩
      · rw [List.take_of_length_le (by omega)]
        exact rv_own9 (ownsRow_putObj hrow2 _ hD2 rfl) (by omega)
      · rw [← hp]
        exact below_ge9 (below_ge9 q1.bel o2 (fun k hk => by omega) (by omega)) o3 (fun k hk => by omega) (by omega)
    rw [hX2, hX1] at HF
    rw [hX1] at d2 e2
    clear hs hen hD hs1 hL1 q1 hrow co hnD r1 r2 s1 s2 hfar o2 hz2 hX1 hX2 hj hp q2 o3 hrow2 hD2 hK hDn hsz
    gi_wp2
    refine ⟨by simp, .inl ⟨_, _, rfl, run_takeDeferred HF.out.1, ?_⟩⟩
    exact ⟨_, results_lb_string rfl _ _ (p + 1) (p + 2) a j c true rfl rfl HF.out.2.1 HF.out.2.2.1, _, _, _, _, rfl, HF.out.2.2.2.1, HF.out.2.2.2.2⟩
  case stop =>
    rintro Dn cd pre X hDn hpre ⟨rfl, q2, a, c, q3⟩ hK hnD
    obtain ⟨t, rfl⟩ := hpre
    have hlen : (pre.take n).length = n := by rw [List.length_take]; omega
    have hrow := q3.ow
    rw [hlen] at hrow
    have o3 := only_put X Dn (.deferred none)
    have hsz := q3.sz
    have HF : Hid (X.heap[Dn]? = some (.deferred (some [])) ∧ (X.putObj Dn (.deferred none)).cell? ⟨p + 1, 0, none⟩ = some (.slice a n c) ∧ (X.putObj Dn (.deferred none)).cell? ⟨p + 2, 0, none⟩ = some (.bool false) ∧ (false = decide ((pre ++ t).length ≤ n) ∧ Rv (fun k => k < W.heap.size ∨ (X.putObj Dn (.deferred none)).heap.size ≤ k) a n c (sk ((pre ++ t).take n)) (X.putObj Dn (.deferred none))) ∧ Below W.heap.size W (X.putObj Dn (.deferred none))) := by
      refine ⟨hK, (boxed_at q3.br (o3.block _ q3.br.lt (fun e => by omega))).cell, (boxed_at q3.bb (o3.block _ q3.bb.lt (fun e => by omega))).cell, ⟨by simp; omega, ?_⟩, ?_⟩
      · rw [List.take_append_of_le_length (by omega)]
        exact rv_own9 (ownsRow_putObj hrow _ hK rfl) (by omega)
      · rw [← hp]
        exact below_ge9 q3.bel o3 (fun k hk => by omega) (by omega)
    clear hs hen hD hs1 hL1 q3 hrow hnD hp q2 o3 hK hDn hsz hlen
    gi_wp2
    refine ⟨by simp, .inl ⟨_, _, rfl, run_takeDeferred HF.out.1, ?_⟩⟩
    exact ⟨_, results_lb_string rfl _ _ (p + 1) (p + 2) a n c false rfl rfl HF.out.2.1 HF.out.2.2.1, _, _, _, _, rfl, HF.out.2.2.2.1, HF.out.2.2.2.2⟩
  · intro X k hv hk
    have : p ≤ k := by
      rcases hk with hk | ⟨q, hq, hk⟩
      · have h : p < k := hk.1
        omega
      · have := ((hv.2 q hq).2 k hk).1
        omega
    exact hD k (by omega)
end Go.Proofs.Ytdchapcpimhjaaa
