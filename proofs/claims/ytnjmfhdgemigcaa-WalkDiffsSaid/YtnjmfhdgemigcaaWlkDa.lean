/- Layer 9: List, at string. -/
import Derived.Test.YtnjmfhdgemigcaaWlkUa
import Derived.LoopNIn
import Derived.Test.YtnjmfhdgemigcaaTreE2
import Derived.Test.YtnjmfhdgemigcaaTreE3
import Derived.Test.YtnjmfhdgemigcaaTreG3
import Derived.Test.YtnjmfhdgemigcaaTreD3
namespace Go.Proofs.Ytnjmfhdgemigcaa
open Go.RowKit Go.Shelf

attribute [local go_sem] Oper.semAt_some

theorem results_lb_string {fn : Func} {q r : Tmp} (h : fn.results = #[.cell q 22, .cell r 4]) (tmps : Array Value) (w : World) (g k : Nat) (a : Option Addr) (n c : Nat) (b : Bool) (ht : tmps.getD q undef = .pointer (some ⟨g, 0, none⟩)) (hu : tmps.getD r undef = .pointer (some ⟨k, 0, none⟩)) (hc : w.cell? ⟨g, 0, none⟩ = some (.slice a n c)) (hd : w.cell? ⟨k, 0, none⟩ = some (.bool b)) :
    (results fn tmps).run Try.prog w = .ok (.tuple #[.slice a n c, .bool b]) w := by
  simp only [Array.getD_eq_getD_getElem?] at ht hu
  simp [results, h, go_sem, ht, hu, hc, hd]
/-- what stands while List goes on: the bound, the two results, the list -/
structure Li_string (W : World) (p n : Nat) (u : Value) (b : Bool) (a : Option Addr) (c : Nat) (l : List Tm.K) (X : World) : Prop where
  bm : Boxed X p 3 (.int .i64 (n : Int))
  br : Boxed X (p + 1) 22 u
  bb : Boxed X (p + 2) 4 (.bool b)
  bo : Boxed X (p + 3) 22 (.slice a l.length c)
  ow : X.ownsRow (p + 4) 9 1 (.slice a l.length c) l.length (sk l)
  bel : Below p W X
  sz : p + 4 ≤ X.heap.size
def co_string (p : Nat) : Co := coR (fun k => p < k) (p + 4) (p + 4) [p + 3]
theorem Li_string.co {W X : World} {p n : Nat} {u : Value} {b : Bool} {a : Option Addr} {c : Nat} {l : List Tm.K} (h : Li_string W p n u b a c l X) : (co_string p).V X := by
  have h1 := h.bo
  have h2 := h.ow
  refine ⟨h.sz, fun q hq => ?_⟩
  rw [List.mem_singleton] at hq
  subst hq
  refine ⟨⟨by omega, by omega⟩, fun k hk => ?_⟩
  obtain ⟨n2, c2, hk⟩ := hk
  rw [h1.cell] at hk
  injection hk with hk
  injection hk with e1 e2 e3
  rcases h2.2 with ⟨e, _⟩ | ⟨g, cap, cur, e, hB, hg, _⟩
  · injection e with e _ _; rw [e] at e1; cases e1
  · injection e with e _ _
    rw [e] at e1
    injection e1 with e1
    injection e1 with e1 _ _
    subst e1
    exact ⟨hB, heap_lt hg⟩
theorem Li_string.keep {W X Y : World} {p n : Nat} {u : Value} {b : Bool} {a : Option Addr} {c : Nat} {l : List Tm.K} (h : Li_string W p n u b a c l X) (ho : Only (fun k => p + 4 ≤ k ∧ ¬ (co_string p).O X k) X Y) : Li_string W p n u b a c l Y := by
  have h1 := h.bo
  have h2 := h.ow
  refine ⟨boxed_at h.bm (ho.block p h.bm.lt (fun e => by omega)), boxed_at h.br (ho.block _ h.br.lt (fun e => by omega)), boxed_at h.bb (ho.block _ h.bb.lt (fun e => by omega)), boxed_at h1 (ho.block _ h1.lt (fun e => by omega)), ?_, below_ge9 h.bel ho (fun k hk => by omega) (by have := h.sz; omega), Nat.le_trans h.sz ho.size⟩
  refine own_only9 h2 (fun k hk => ?_)
  obtain ⟨n2, c2, e⟩ := hk
  injection e with e1 e2 e3
  by_cases hX : k < X.heap.size
  · exact ho.block k hX (fun e => e.2 (.inr ⟨p + 3, List.mem_singleton.2 rfl, l.length, c, by rw [h1.cell, e1]⟩))
  · rcases h2.2 with ⟨e, _⟩ | ⟨g, cap, cur, e, hB, hg, _⟩
    · injection e with e _ _; rw [e] at e1; cases e1
    · injection e with e _ _
      rw [e] at e1
      injection e1 with e1
      injection e1 with e1 _ _
      subst e1
      exact absurd (heap_lt hg) hX
theorem info9l_string : (Try.prog.info? 9).map (fun i => (i.zero, i.size, i.bytes)) = some (some (.string ⟨#[]⟩), 1, 16) := by kernel_rfl
set_option maxHeartbeats 4000000 in
set_option maxRecDepth 100000 in
theorem wlk_list_string {g : Nat} {lb : Array Value} {L : List Tm.K} {D : Nat → Prop} {W : World} {n : Nat} (hs : SeqX g lb eS L D W) (hen : ∀ args w, (callFunc g args).run Try.prog w = .ok (.enter g args) w) (hD : ∀ k, W.heap.size ≤ k → D k) (hn : n ≤ 100000) :
    Calls Try.prog 23 #[.func (.func g) #[] lb, .int .i64 (n : Int)] W fun e w' => ∃ a m c b, e = .returned (.tuple #[.slice a m c, .bool b]) ∧ Hid (b = decide (L.length ≤ n) ∧ Rv (fun k => k < W.heap.size ∨ w'.heap.size ≤ k) a m c (sk (L.take n)) w') ∧ Below W.heap.size W w' := by
  have hnf : ∀ w, (binOp .eql 55 (.func (.func g) #[] lb) .nilFunc).run Try.prog w = .ok (.bool false) w := fun w => rfl
  obtain ⟨i0, hi0, hz0, hz1, hz2⟩ := info_of8 info9l_string
  obtain ⟨p, hp⟩ : ∃ p, p = W.heap.size := ⟨_, rfl⟩
  obtain ⟨W1, hW1⟩ : ∃ W1, W1 = (((W.alloc (.cells #[.int .i64 (n : Int)] 3)).alloc (.cells #[.slice none 0 0] 22)).alloc (.cells #[.bool false] 4)).alloc (.cells #[.slice none 0 0] 22) := ⟨_, rfl⟩
  have hs1 : W1.heap.size = p + 4 := by rw [hW1, hp]; simp
  have hL1 : Li_string W p n (.slice none 0 0) false none 0 [] W1 := by
    refine ⟨?_, ?_, ?_, ?_, ⟨rfl, .inl ⟨rfl, rfl⟩⟩, ?_, by omega⟩
    · rw [hW1, hp]; exact (((Boxed.new W _ _).alloc _).alloc _).alloc _
    · have := Boxed.new (W.alloc (.cells #[.int .i64 (n : Int)] 3)) 22 (.slice none 0 0)
      rw [World.size_alloc, ← hp] at this
      rw [hW1]; exact (this.alloc _).alloc _
    · have := Boxed.new ((W.alloc (.cells #[.int .i64 (n : Int)] 3)).alloc (.cells #[.slice none 0 0] 22)) 4 (.bool false)
      rw [World.size_alloc, World.size_alloc, ← hp] at this
      rw [hW1]; exact this.alloc _
    · have := Boxed.new (((W.alloc (.cells #[.int .i64 (n : Int)] 3)).alloc (.cells #[.slice none 0 0] 22)).alloc (.cells #[.bool false] 4)) 22 (.slice none 0 0)
      rw [World.size_alloc, World.size_alloc, World.size_alloc, ← hp] at this
      rw [hW1]; exact this
    · rw [hW1, hp]; exact (((one_b8 _ _).alloc (by simp) _).alloc (by simp; omega) _).alloc (by simp; omega) _
  refine (callsIn_wide (n := 9)).1 ?_
  refine callsIn_of_wp_marks Try.func23 rfl trivial ?_ rfl
  simp only [Try.ntmps23, List.size_toArray, List.length_cons, List.length_nil, Nat.reduceAdd, Nat.reduceSub, Array.replicate_succ, Array.replicate_zero, List.push_toArray, List.append_toArray, List.nil_append, List.cons_append]
  gi_wp2_with fail
  rw [← hW1, ← hp]
  clear hW1
  refine rangeX (n := 9) (w := W1) (α := Tm.K) (enc := eS) (L := L) (D := D) (w0 := W) (fun t x => (t.setIfInBounds 11 (.string (bstr x))).setIfInBounds 7 (.string (bstr x))) (co_string p) (gf := g) (lb := lb) (by omega) rfl hen hs (by rw [← hp]; exact hL1.bel) ?_ (fun _ => rfl)
    (fun pre X => (∃ a c, Li_string W p n (.slice none 0 0) false a c pre X) ∧ pre.length ≤ n)
    (fun cd pre X => cd = .ret ∧ n < pre.length ∧ ∃ a c, Li_string W p n (.slice a n c) false a c (pre.take n) X) (fun _ X h => by obtain ⟨⟨a, c, h⟩, -⟩ := h; exact h.co) (fun _ _ X h => by obtain ⟨-, -, a, c, h⟩ := h; exact h.co) ?hI ?hIx ?h0 ?assign ?body ?done ?stop
  case hI =>
    rintro s X Y ⟨⟨a, c, q1⟩, q2⟩ ho
    rw [hs1] at ho
    exact ⟨⟨a, c, q1.keep ho⟩, q2⟩
  case hIx =>
    rintro cd s X Y ⟨q1, q2, a, c, q3⟩ ho
    rw [hs1] at ho
    exact ⟨q1, q2, a, c, q3.keep ho⟩
  case h0 => exact ⟨⟨_, _, hL1⟩, Nat.zero_le _⟩
  case assign =>
    intro l x wx K hK
    clear hp hs1
    simp only [eS]
    simp only [List.setIfInBounds_toArray, List.set_cons_succ, List.set_cons_zero] at hK
    gi_wp2
    exact hK
  case body =>
    rintro l pre x X hl hlX hnl ⟨⟨a, c, q1⟩, q2⟩ hpre
    have hv := q1.co
    obtain ⟨j, hj⟩ : ∃ j, j = pre.length := ⟨_, rfl⟩
    have cm := q1.bm.cell
    have fm := q1.bm.frozen
    have co := q1.bo
    have hrow := q1.ow
    rw [← hj] at co hrow q2
    have c3 := co.cell
    have f3 := co.frozen
    by_cases hq : j < n
    case neg =>
      have hqI : ¬ (j : Int) < (n : Int) := by omega
      have hqI2 : (n : Int) ≤ (j : Int) := by omega
      have hjn : j = n := by omega
      subst hjn
      have c1 := q1.br.cell
      have f1 := q1.br.frozen
      have c2 := q1.bb.cell
      have f2 := q1.bb.frozen
      obtain ⟨X1, hX1⟩ : ∃ X1, X1 = X.setCell ⟨p + 1, 0, none⟩ (.slice a j c) := ⟨_, rfl⟩
      obtain ⟨X2, hX2⟩ : ∃ X2, X2 = X1.setCell ⟨p + 2, 0, none⟩ (.bool false) := ⟨_, rfl⟩
      have r2 : Boxed X1 (p + 2) 4 (.bool false) := by rw [hX1]; exact boxed_at q1.bb (Below.heap_setCell _ _ _ _ (by show p + 2 ≠ p + 1; omega))
      have d2 := r2.cell
      have e2 := r2.frozen
      have hfar : ∀ k, k ≠ p + 1 → k ≠ p + 2 → X2.heap[k]? = X.heap[k]? := fun k h1 h2 => by
        rw [hX2, Below.heap_setCell _ _ _ _ (by exact h2), hX1, Below.heap_setCell _ _ _ _ (by exact h1)]
      have o2 : Only (fun k => p < k ∧ k < p + 4) X X2 := by
        rw [hX2, hX1]
        exact Only.setCell (p := fun k => p < k ∧ k < p + 4) (q := ⟨p + 2, 0, none⟩) (Only.setCell (p := fun k => p < k ∧ k < p + 4) (q := ⟨p + 1, 0, none⟩) (Only.refl _ _) (.inl ⟨by show p < p + 1; omega, by show p + 1 < p + 4; omega⟩) _) (.inl ⟨by show p < p + 2; omega, by show p + 2 < p + 4; omega⟩) _
      have hz2 := o2.size
      have HR : Hid ((co_string p).kb X X2 ∧ Li_string W p j (.slice a j c) false a c ((pre ++ [x]).take j) X2 ∧ j < (pre ++ [x]).length) := by
        have htk : (pre ++ [x]).take j = pre := by rw [hj, List.take_left]
        rw [htk]
        have hrow2 : X2.ownsRow (p + 4) 9 1 (.slice a pre.length c) pre.length (sk pre) := by
          rw [← hj]
          refine own_only9 hrow (fun k hk => ?_)
          obtain ⟨n2, c2', e⟩ := hk
          injection e with e1 _ _
          have : p + 4 ≤ k := by
            rcases hrow.2 with ⟨e, _⟩ | ⟨g', cap, cur, e, hB, hg, _⟩
            · injection e with e _ _; rw [e] at e1; cases e1
            · injection e with e _ _
              rw [e] at e1
              injection e1 with e1
              injection e1 with e1 _ _
              omega
          exact hfar k (by omega) (by omega)
        refine ⟨⟨only_w o2 (fun k hk => .inl hk), fun k hk => .inl ?_⟩, ⟨boxed_at q1.bm (hfar p (by omega) (by omega)), ?_, ?_, ?_, hrow2, below_ge9 q1.bel o2 (fun k hk => by omega) (by have := q1.sz; omega), Nat.le_trans q1.sz hz2⟩, by rw [List.length_append, List.length_singleton]; omega⟩
        · rcases hk with hk | ⟨q, hq, n2, c2', hk⟩
          · exact .inl hk
          · rw [List.mem_singleton] at hq
            subst hq
            refine .inr ⟨p + 3, List.mem_singleton.2 rfl, n2, c2', ?_⟩
            rw [← hk]
            simp [World.cell?, hfar (p + 3) (by omega) (by omega)]
        · have h1 : Boxed X1 (p + 1) 22 (.slice a j c) := by rw [hX1]; exact q1.br.set _
          rw [hX2]
          exact boxed_at h1 (Below.heap_setCell _ _ _ _ (by show p + 1 ≠ p + 2; omega))
        · rw [hX2]; exact r2.set _
        · rw [← hj]; exact boxed_at co (hfar (p + 3) (by omega) (by omega))
      rw [hX2, hX1] at HR
      rw [hX1] at d2 e2
      clear hs hen hD hs1 hL1 q1 hv hrow co hpre hl hlX hnl r2 hfar o2 hz2 hX1 hX2 hj hp q2
      simp only [List.setIfInBounds_toArray, List.set_cons_succ, List.set_cons_zero]
      gi_wp2
      exact ⟨HR.out.1, rfl, HR.out.2.2, a, c, HR.out.2.1⟩
    case pos =>
      have hqI : (j : Int) < (n : Int) := by omega
      have hqI2 : ¬ (n : Int) ≤ (j : Int) := by omega
      have HRW := Lib.hid hrow
      have HCO := Lib.hid co
      have HV := Lib.hid hv
      have HSZ : Hid (p + 4 ≤ X.heap.size ∧ j ≤ 100000) := ⟨q1.sz, by omega⟩
      have HSRC : Hid (∀ wz : World, Src Try.prog 1 22 (.slice (some ⟨wz.heap.size, 0, none⟩) 1 1) 1 [.string (bstr x)] (wz.alloc (.cells #[.string (bstr x)] 9))) := fun wz =>
        Src.ofSlice _ Try.underlying22 ⟨wz.heap.size, 0, none⟩ 1 1 [.string (bstr x)] rfl (fun i u hu => by
          rw [add_p9, Lib.cell_of_heap (heap_alloc_new wz _), Nat.zero_add, ← Array.getElem?_toList]
          exact hu) (by simp [Value.oneCell'])
      have HFIN : Hid (∀ (g' c' : Nat) (X2 : World), Boxed X2 (p + 3) 22 (.slice (some ⟨g', 0, none⟩) (j + 1) c') → X2.ownsRow (p + 4) 9 1 (.slice (some ⟨g', 0, none⟩) (j + 1) c') (j + 1) (sk pre ++ [.string (bstr x)]) → (co_string p).kb X X2 → (∀ k, k < X.heap.size → k ≠ p + 3 → (Value.slice a j c).ownBlock ≠ some k → X2.heap[k]? = X.heap[k]?) → (∃ a c, Li_string W p n (.slice none 0 0) false a c (pre ++ [x]) X2) ∧ (pre ++ [x]).length ≤ n) := fun g' c' X2 h1 h2 h3 h4 => by
        have hnb : ∀ k, k < p + 4 → (Value.slice a j c).ownBlock ≠ some k := fun k hk e => by
          rcases hrow.2 with ⟨e2, _⟩ | ⟨g2, cap, cur, e2, hB, hg, _⟩
          · rw [e2] at e; simp [Value.ownBlock] at e
          · rw [e2] at e
            have : g2 = k := by simpa [Value.ownBlock] using e
            omega
        have hs := q1.sz
        have hlen : (pre ++ [x]).length = j + 1 := by rw [List.length_append, List.length_singleton, hj]
        refine ⟨⟨some ⟨g', 0, none⟩, c', boxed_at q1.bm (h4 p (by omega) (by omega) (hnb p (by omega))), boxed_at q1.br (h4 (p + 1) (by omega) (by omega) (hnb _ (by omega))), boxed_at q1.bb (h4 (p + 2) (by omega) (by omega) (hnb _ (by omega))), by rw [hlen]; exact h1, ?_, ?_, Nat.le_trans hs h3.1.size⟩, by omega⟩
        · rw [hlen, show sk (pre ++ [x]) = sk pre ++ [.string (bstr x)] by simp [sk]]; exact h2
        · refine below_ge9 q1.bel h3.1 (fun k hk => ?_) (by omega)
          rcases hk with hk | ⟨q, hq, hk⟩
          · have : p < k := hk.1
            omega
          · have := ((hv.2 q hq).2 k hk).1
            omega
      have HNB : Hid (∀ q2 ∈ [p + 3], (Value.slice a j c).ownBlock ≠ some q2) := fun q2 hq2 e => by
        rw [List.mem_singleton] at hq2
        subst hq2
        rcases hrow.2 with ⟨e2, _⟩ | ⟨g2, cap, cur, e2, hB, hg, _⟩
        · rw [e2] at e; simp [Value.ownBlock] at e
        · rw [e2] at e
          have : g2 = p + 3 := by simpa [Value.ownBlock] using e
          omega
      clear hs hen hD hs1 hL1 q1 hv hrow co hpre hl hlX hnl hj hp q2
      generalize bstr x = sx at *
      simp only [List.setIfInBounds_toArray, List.set_cons_succ, List.set_cons_zero]
      gi_wp2_with (gi_at_builtin; refine wpListIn_append_at _ rfl _ _ 22 rfl (p + 4) 9 i0 (.string ⟨#[]⟩) 1 16 Try.underlying22 hi0 hz0 hz1 hz2 rfl _ j (sk pre) rfl (HRW.out.alloc _) _ 1 [.string sx] rfl (HSRC.out _) (by have := HSZ.out; unfold maxLen; omega) (by have := HSZ.out; omega) (by have := HSZ.out; simp; omega) ?_; intro v' w3 hown' hg3 hw3
                   obtain ⟨g', cap', rfl⟩ := ownsRow_succ hown'
                   obtain ⟨k1, k2, k3, k4, k5⟩ := co_appended (S := fun k => p < k) (N := p + 4) (M := p + 4) (qs := [p + 3]) (q := p + 3) HV.out (List.mem_singleton.2 rfl) (by decide) HCO.out HRW.out HSZ.out.1 hown' hg3 hw3 HNB.out
                   have c4 := k1.cell
                   have f4 := k1.frozen
                   have HK2 := Lib.hid k2; have HK3 := Lib.hid k3; have HK4 := Lib.hid k4; have HK5 := Lib.hid k5
                   clear hw3 hown' hg3 k1 k2 k3 k4 k5
                   go_frame)
      exact ⟨HK4.out, HFIN.out _ _ _ HK2.out HK3.out HK4.out HK5.out⟩
  case done =>
    rintro Dn X hDn ⟨⟨a, c, q1⟩, q2⟩ hK hnD
    obtain ⟨j, hj⟩ : ∃ j, j = L.length := ⟨_, rfl⟩
    have co := q1.bo
    have hrow := q1.ow
    rw [← hj] at co hrow q2
    have c3 := co.cell
    have c1 := q1.br.cell
    have f1 := q1.br.frozen
    obtain ⟨X1, hX1⟩ : ∃ X1, X1 = X.setCell ⟨p + 1, 0, none⟩ (.slice a j c) := ⟨_, rfl⟩
    obtain ⟨X2, hX2⟩ : ∃ X2, X2 = X1.setCell ⟨p + 2, 0, none⟩ (.bool true) := ⟨_, rfl⟩
    have r1 : Boxed X1 (p + 1) 22 (.slice a j c) := by rw [hX1]; exact q1.br.set _
    have r2 : Boxed X1 (p + 2) 4 (.bool false) := by rw [hX1]; exact boxed_at q1.bb (Below.heap_setCell _ _ _ _ (by show p + 2 ≠ p + 1; omega))
    have d2 := r2.cell
    have e2 := r2.frozen
    have s2 : Boxed X2 (p + 2) 4 (.bool true) := by rw [hX2]; exact r2.set _
    have s1 : Boxed X2 (p + 1) 22 (.slice a j c) := by rw [hX2]; exact boxed_at r1 (Below.heap_setCell _ _ _ _ (by show p + 1 ≠ p + 2; omega))
    have hfar : ∀ k, k ≠ p + 1 → k ≠ p + 2 → X2.heap[k]? = X.heap[k]? := fun k h1 h2 => by
      rw [hX2, Below.heap_setCell _ _ _ _ (by exact h2), hX1, Below.heap_setCell _ _ _ _ (by exact h1)]
    have o2 : Only (fun k => p < k ∧ k < p + 4) X X2 := by
      rw [hX2, hX1]
      exact Only.setCell (p := fun k => p < k ∧ k < p + 4) (q := ⟨p + 2, 0, none⟩) (Only.setCell (p := fun k => p < k ∧ k < p + 4) (q := ⟨p + 1, 0, none⟩) (Only.refl _ _) (.inl ⟨by show p < p + 1; omega, by show p + 1 < p + 4; omega⟩) _) (.inl ⟨by show p < p + 2; omega, by show p + 2 < p + 4; omega⟩) _
    have hz2 := o2.size
    have hsz := q1.sz
    have hD2 : X2.heap[Dn]? = some (.deferred (some [])) := (hfar Dn (by omega) (by omega)).trans hK
    have hrow2 : X2.ownsRow (p + 4) 9 1 (.slice a j c) j (sk L) := by
      refine own_only9 hrow (fun k hk => ?_)
      obtain ⟨n2, c2', e⟩ := hk
      injection e with e1 _ _
      have : p + 4 ≤ k := by
        rcases hrow.2 with ⟨e, _⟩ | ⟨g', cap, cur, e, hB, hg, _⟩
        · injection e with e _ _; rw [e] at e1; cases e1
        · injection e with e _ _
          rw [e] at e1
          injection e1 with e1
          injection e1 with e1 _ _
          omega
      exact hfar k (by omega) (by omega)
    have o3 := only_put X2 Dn (.deferred none)
    have HF : Hid (X2.heap[Dn]? = some (.deferred (some [])) ∧ (X2.putObj Dn (.deferred none)).cell? ⟨p + 1, 0, none⟩ = some (.slice a j c) ∧ (X2.putObj Dn (.deferred none)).cell? ⟨p + 2, 0, none⟩ = some (.bool true) ∧ (true = decide (L.length ≤ n) ∧ Rv (fun k => k < W.heap.size ∨ (X2.putObj Dn (.deferred none)).heap.size ≤ k) a j c (sk (L.take n)) (X2.putObj Dn (.deferred none))) ∧ Below W.heap.size W (X2.putObj Dn (.deferred none))) := by
      refine ⟨hD2, (boxed_at s1 (o3.block _ s1.lt (fun e => by omega))).cell, (boxed_at s2 (o3.block _ s2.lt (fun e => by omega))).cell, ⟨by simp; omega, ?_⟩, ?_⟩
      · rw [List.take_of_length_le (by omega)]
        exact rv_own9 (ownsRow_putObj hrow2 _ hD2 rfl) (by omega)
      · rw [← hp]
        exact below_ge9 (below_ge9 q1.bel o2 (fun k hk => by omega) (by omega)) o3 (fun k hk => by omega) (by omega)
    rw [hX2, hX1] at HF
    rw [hX1] at d2 e2
    clear hs hen hD hs1 hL1 q1 hrow co hnD r1 r2 s1 s2 hfar o2 hz2 hX1 hX2 hj hp q2 o3 hrow2 hD2 hK hDn hsz
    gi_wp2
    refine ⟨by simp, .inl ⟨_, _, rfl, run_takeDeferred HF.out.1, ?_⟩⟩
    exact ⟨_, results_lb_string rfl _ _ (p + 1) (p + 2) a j c true rfl rfl HF.out.2.1 HF.out.2.2.1, _, _, _, _, rfl, HF.out.2.2.2.1, HF.out.2.2.2.2⟩
  case stop =>
    rintro Dn cd pre X hDn hpre ⟨rfl, q2, a, c, q3⟩ hK hnD
    obtain ⟨t, rfl⟩ := hpre
    have hlen : (pre.take n).length = n := by rw [List.length_take]; omega
    have hrow := q3.ow
    rw [hlen] at hrow
    have o3 := only_put X Dn (.deferred none)
    have hsz := q3.sz
    have HF : Hid (X.heap[Dn]? = some (.deferred (some [])) ∧ (X.putObj Dn (.deferred none)).cell? ⟨p + 1, 0, none⟩ = some (.slice a n c) ∧ (X.putObj Dn (.deferred none)).cell? ⟨p + 2, 0, none⟩ = some (.bool false) ∧ (false = decide ((pre ++ t).length ≤ n) ∧ Rv (fun k => k < W.heap.size ∨ (X.putObj Dn (.deferred none)).heap.size ≤ k) a n c (sk ((pre ++ t).take n)) (X.putObj Dn (.deferred none))) ∧ Below W.heap.size W (X.putObj Dn (.deferred none))) := by
      refine ⟨hK, (boxed_at q3.br (o3.block _ q3.br.lt (fun e => by omega))).cell, (boxed_at q3.bb (o3.block _ q3.bb.lt (fun e => by omega))).cell, ⟨by simp; omega, ?_⟩, ?_⟩
      · rw [List.take_append_of_le_length (by omega)]
        exact rv_own9 (ownsRow_putObj hrow _ hK rfl) (by omega)
      · rw [← hp]
        exact below_ge9 q3.bel o3 (fun k hk => by omega) (by omega)
    clear hs hen hD hs1 hL1 q3 hrow hnD hp q2 o3 hK hDn hsz hlen
    gi_wp2
    refine ⟨by simp, .inl ⟨_, _, rfl, run_takeDeferred HF.out.1, ?_⟩⟩
    exact ⟨_, results_lb_string rfl _ _ (p + 1) (p + 2) a n c false rfl rfl HF.out.2.1 HF.out.2.2.1, _, _, _, _, rfl, HF.out.2.2.2.1, HF.out.2.2.2.2⟩
  · intro X k hv hk
    have : p ≤ k := by
      rcases hk with hk | ⟨q, hq, hk⟩
      · have h : p < k := hk.1
        omega
      · have := ((hv.2 q hq).2 k hk).1
        omega
    exact hD k (by omega)
end Go.Proofs.Ytnjmfhdgemigcaa
/- Layer 9: the reference's Diff. -/
namespace Go.Proofs.Ytnjmfhdgemigcaa
open Go.RowKit Go.Shelf

attribute [local go_sem] Oper.semAt_some

/-- is gone; is changed -/
def fG (l2 : List Tm.E) (e : Tm.E) : Bool := !(Tm.get l2 e.1).2
def fC (l2 : List Tm.E) (e : Tm.E) : Bool := (Tm.get l2 e.1).2 && !((Tm.get l2 e.1).1 == e.2)
/-- the keys of a part -/
def kof (p : Tm.E → Bool) (l : List Tm.E) : List Tm.K := (l.filter p).map (·.1)
theorem kof_len (p : Tm.E → Bool) (l : List Tm.E) : (kof p l).length ≤ l.length := by unfold kof; rw [List.length_map]; exact List.length_filter_le _ _
theorem kof_add (p : Tm.E → Bool) (l : List Tm.E) (e : Tm.E) : kof p (l ++ [e]) = kof p l ++ kof p [e] := by unfold kof; rw [List.filter_append, List.map_append]
/-- two rows of one's own, apart from each other -/
structure Tw9 (B : Nat) (a1 : Option Addr) (n1 c1 : Nat) (k1 : List Tm.K) (a2 : Option Addr) (n2 c2 : Nat) (k2 : List Tm.K) (w : World) : Prop where
  x : w.ownsRow B 9 1 (.slice a1 n1 c1) n1 (sk k1)
  y : w.ownsRow B 9 1 (.slice a2 n2 c2) n2 (sk k2)
  ne : ∀ k, a1 = some ⟨k, 0, none⟩ → a2 = some ⟨k, 0, none⟩ → False
theorem row_at9 {w : World} {B n c : Nat} {E : TypeId} {sz : Nat} {a : Option Addr} {xs : List Value} (h : w.ownsRow B E sz (.slice a n c) n xs) {k : Nat} (hk : a = some ⟨k, 0, none⟩) : B ≤ k ∧ k < w.heap.size := by
  rcases h.2 with ⟨e, _⟩ | ⟨g, cap, cur, e, hB, hg, _⟩
  · injection e with e _ _; rw [e] at hk; cases hk
  · injection e with e _ _
    rw [e] at hk
    injection hk with hk
    injection hk with e1 _ _
    subst e1
    exact ⟨hB, heap_lt hg⟩
theorem own_blk9 {w w' : World} {B n c : Nat} {E : TypeId} {sz : Nat} {a : Option Addr} {xs : List Value} (h : w.ownsRow B E sz (.slice a n c) n xs) (hb : ∀ k, a = some ⟨k, 0, none⟩ → w'.heap[k]? = w.heap[k]?) : w'.ownsRow B E sz (.slice a n c) n xs :=
  own_only9 h (fun k hk => by
    obtain ⟨n2, c2, e⟩ := hk
    injection e with e _ _
    exact hb k e)
theorem Tw9.below {B : Nat} {a1 : Option Addr} {n1 c1 : Nat} {k1 : List Tm.K} {a2 : Option Addr} {n2 c2 : Nat} {k2 : List Tm.K} {w w' : World} (h : Tw9 B a1 n1 c1 k1 a2 n2 c2 k2 w) (hb : Below w.heap.size w w') : Tw9 B a1 n1 c1 k1 a2 n2 c2 k2 w' :=
  ⟨own_blk9 h.x (fun k e => hb.block k (row_at9 h.x e).2), own_blk9 h.y (fun k e => hb.block k (row_at9 h.y e).2), h.ne⟩
theorem Tw9.swap {B : Nat} {a1 : Option Addr} {n1 c1 : Nat} {k1 : List Tm.K} {a2 : Option Addr} {n2 c2 : Nat} {k2 : List Tm.K} {w : World} (h : Tw9 B a1 n1 c1 k1 a2 n2 c2 k2 w) : Tw9 B a2 n2 c2 k2 a1 n1 c1 k1 w := ⟨h.y, h.x, fun k e1 e2 => h.ne k e2 e1⟩
theorem ob9 {a : Option Addr} {n c k : Nat} {w : World} {B : Nat} {E : TypeId} {sz : Nat} {xs : List Value} (h : w.ownsRow B E sz (.slice a n c) n xs) (e : (Value.slice a n c).ownBlock = some k) : a = some ⟨k, 0, none⟩ := by
  rcases h.2 with ⟨e1, _⟩ | ⟨g, cap, cur, e1, hB, hg, _⟩
  · rw [e1] at e; simp [Value.ownBlock] at e
  · rw [e1] at e
    have : g = k := by simpa [Value.ownBlock] using e
    injection e1 with e1 _ _
    rw [e1, this]
/-- the first of the two has grown -/
theorem Tw9.push {B : Nat} {a1 : Option Addr} {n1 c1 : Nat} {k1 k1' : List Tm.K} {a2 : Option Addr} {n2 c2 : Nat} {k2 : List Tm.K} {w w' : World} {g' c' m : Nat} (h : Tw9 B a1 n1 c1 k1 a2 n2 c2 k2 w) (hown : w'.ownsRow B 9 1 (.slice (some ⟨g', 0, none⟩) m c') m (sk k1')) (hg : w.grownBy w' (Value.slice a1 n1 c1).ownBlock)
    (hw : (Value.slice (some ⟨g', 0, none⟩) m c').ownBlock = (Value.slice a1 n1 c1).ownBlock ∨ (Value.slice (some ⟨g', 0, none⟩) m c').ownBlock = some w.heap.size) : Tw9 B (some ⟨g', 0, none⟩) m c' k1' a2 n2 c2 k2 w' := by
  have hne : ∀ k, a2 = some ⟨k, 0, none⟩ → (Value.slice a1 n1 c1).ownBlock ≠ some k := fun k e1 e2 => h.ne k (ob9 h.x e2) e1
  refine ⟨hown, own_blk9 h.y (fun k e => hg.block k (row_at9 h.y e).2 (fun e2 => hne k e e2.symm)), fun k e1 e2 => ?_⟩
  injection e1 with e1
  injection e1 with e1 _ _
  subst e1
  rcases hw with hw | hw
  · exact hne g' e2 (by rw [← hw]; rfl)
  · have : g' = w.heap.size := by simpa [Value.ownBlock] using hw
    have := (row_at9 h.y e2).2
    omega

set_option maxHeartbeats 4000000 in
set_option maxRecDepth 100000 in
theorem ref9_Diff {ex ex2 : Nat → Prop} {l l2 : List Tm.E} {a a2 : Option Addr} {n c n2 c2 : Nat} {W : World} (h : Ps ex (.slice a n c) l W) (h2 : Ps ex2 (.slice a2 n2 c2) l2 W) (hn : n ≤ 10000) (hn2 : n2 ≤ 10000) :
    Calls Try.prog 29 #[.slice a n c, .slice a2 n2 c2] W fun e w' => ∃ x1 m1 d1 x2 m2 d2 x3 m3 d3, e = .returned (.tuple #[.slice x1 m1 d1, .slice x2 m2 d2, .slice x3 m3 d3]) ∧ Hid (Rv (fun k => k < W.heap.size ∨ w'.heap.size ≤ k) x1 m1 d1 (sk (kof (fG l2) l)) w' ∧ Rv (fun k => k < W.heap.size ∨ w'.heap.size ≤ k) x2 m2 d2 (sk (kof (fG l) l2)) w' ∧ Rv (fun k => k < W.heap.size ∨ w'.heap.size ≤ k) x3 m3 d3 (sk (kof (fC l2) l)) w') ∧ Below W.heap.size W w' := by
  obtain ⟨i0, hi0, hz0, hz1, hz2⟩ := info_of8 info9_string
  have hnl := h.len
  have hnl2 := h2.len
  have HJ : Hid (∀ j, j < n → ∃ (g off : Nat) (X : ByteArray) (x : Int) (e : Tm.E), a = some ⟨g, off, none⟩ ∧ g < W.heap.size ∧ W.cell? ⟨g, off + j * 2, none⟩ = some (.string X) ∧ W.cell? ⟨g, off + j * 2 + 1, none⟩ = some (.int .i64 x) ∧ Hid (l.take (j + 1) = l.take j ++ [e]) ∧ Hid (X = bstr e.1 ∧ x = e.2)) := fun j hj => by
    obtain ⟨g, off, e, -, hg, h1, h2⟩ := h.at j (by omega)
    exact ⟨g, off, _, _, l[j]'(by omega), e, hg, h1, h2, by show _ = _; rw [List.take_add_one, List.getElem?_eq_getElem (show j < l.length by omega)]; rfl, rfl, rfl⟩
  have HJ2 : Hid (∀ j, j < n2 → ∃ (g off : Nat) (X : ByteArray) (x : Int) (e : Tm.E), a2 = some ⟨g, off, none⟩ ∧ g < W.heap.size ∧ W.cell? ⟨g, off + j * 2, none⟩ = some (.string X) ∧ W.cell? ⟨g, off + j * 2 + 1, none⟩ = some (.int .i64 x) ∧ Hid (l2.take (j + 1) = l2.take j ++ [e]) ∧ Hid (X = bstr e.1 ∧ x = e.2)) := fun j hj => by
    obtain ⟨g, off, e, -, hg, h3, h4⟩ := h2.at j (by omega)
    exact ⟨g, off, _, _, l2[j]'(by omega), e, hg, h3, h4, by show _ = _; rw [List.take_add_one, List.getElem?_eq_getElem (show j < l2.length by omega)]; rfl, rfl, rfl⟩
  have HNL : Hid (l.take n = l ∧ l2.take n2 = l2) := ⟨List.take_of_length_le (by omega), List.take_of_length_le (by omega)⟩
  have HG2 : Hid (∀ (e : Tm.E) (X : ByteArray) (w : World), X = bstr e.1 → Below W.heap.size W w → Calls Try.prog 52 #[.slice a2 n2 c2, .string X] w fun q w' => q = .returned (.tuple #[.int .i64 (Tm.get l2 e.1).1, .bool (Tm.get l2 e.1).2]) ∧ Below w.heap.size w w') := fun e X w hX hb => by
    rw [hX]; exact ref8_get (h2.below hb) hn2
  have HG1 : Hid (∀ (e : Tm.E) (X : ByteArray) (w : World), X = bstr e.1 → Below W.heap.size W w → Calls Try.prog 52 #[.slice a n c, .string X] w fun q w' => q = .returned (.tuple #[.int .i64 (Tm.get l e.1).1, .bool (Tm.get l e.1).2]) ∧ Below w.heap.size w w') := fun e X w hX hb => by
    rw [hX]; exact ref8_get (h.below hb) hn
  have HSRC0 : Hid (∀ (X : ByteArray) (wz : World), Src Try.prog 1 22 (.slice (some ⟨wz.heap.size, 0, none⟩) 1 1) 1 [.string X] (wz.alloc (.cells #[.string X] 9))) := fun X wz =>
    Src.ofSlice _ Try.underlying22 ⟨wz.heap.size, 0, none⟩ 1 1 [.string X] rfl (fun i u hu => by
      rw [add_p9, Lib.cell_of_heap (heap_alloc_new wz _), Nat.zero_add, ← Array.getElem?_toList]
      exact hu) (by simp [Value.oneCell'])
  clear h h2 hnl hnl2
  refine (callsIn_wide (n := 9)).1 ?_
  refine callsIn_of_wp Try.func29 rfl trivial ?_ rfl
  simp only [Try.ntmps29, List.size_toArray, List.length_cons, List.length_nil, Nat.reduceAdd, Nat.reduceSub, Array.replicate_succ, Array.replicate_zero, List.push_toArray, List.append_toArray, List.nil_append, List.cons_append]
  gi_wp2_with fail
  gi_loopw [7, 9, 20] (fun gv cv iv wr => ∃ (j m1 : Nat) (b1 : Option Addr) (d1 m2 : Nat) (b2 : Option Addr) (d2 : Nat), j ≤ n ∧ m1 ≤ j ∧ m2 ≤ j ∧ iv = .int .i64 (j : Int) ∧ gv = .slice b1 m1 d1 ∧ cv = .slice b2 m2 d2 ∧ Hid (Tw9 W.heap.size b1 m1 d1 (kof (fG l2) (l.take j)) b2 m2 d2 (kof (fC l2) (l.take j)) wr) ∧ Hid (Below W.heap.size W wr)) (fun _ _ iv _ => n - (ixOf iv).toNat)
  case atStart => exact ⟨0, 0, none, 0, 0, none, 0, Nat.zero_le _, Nat.le_refl _, Nat.le_refl _, rfl, rfl, rfl, ⟨World.ownsRow_nil _ _ _ _, World.ownsRow_nil _ _ _ _, fun k e _ => by cases e⟩, Below.refl _ _⟩
  case round =>
    obtain ⟨j, m1, b1, d1, m2, b2, d2, hj, hm1, hm2, rfl, rfl, rfl, HT, HB⟩ := hrel
    by_cases hlt : j < n
    case pos =>
      obtain ⟨g, off, X, x, e, rfl, hg, c0, c1, HDR, HX⟩ := HJ.out j hlt
      have hjI : (j : Int) < (n : Int) := by omega
      have w0 := (HB.out.cell (p := ⟨g, off + j * 2, none⟩) hg).trans c0
      have w1 := (HB.out.cell (p := ⟨g, off + j * 2 + 1, none⟩) hg).trans c1
      have hgr : g < wr.heap.size := by have := HB.out.size; omega
      clear c0 c1
      obtain ⟨wr1, hw1⟩ : ∃ wr1, wr1 = wr.alloc (.cells #[.string X, .int .i64 x] 50) := ⟨_, rfl⟩
      have hbr : Below wr.heap.size wr wr1 := by rw [hw1]; exact one_b8 _ _
      have HB1 : Hid (Below W.heap.size W wr1) := HB.out.trans (hbr.mono HB.out.size)
      have HT1 := Lib.hid (HT.out.below hbr)
      have hcp : wr1.heap[wr.heap.size]? = some (.cells #[.string X, .int .i64 x] 50) := by rw [hw1]; exact heap_alloc_new _ _
      have hs1 : wr1.heap.size = wr.heap.size + 1 := by rw [hw1]; simp
      obtain ⟨gi, hgi⟩ : ∃ gi, gi = (Tm.get l2 e.1).1 := ⟨_, rfl⟩
      obtain ⟨gb, hgb⟩ : ∃ gb, gb = (Tm.get l2 e.1).2 := ⟨_, rfl⟩
      have HGT := Lib.hid (HG2.out e X wr1 HX.out.1 HB1.out)
      rw [← hgi, ← hgb] at HGT
      have HFG : Hid (kof (fG l2) (l.take (j + 1)) = kof (fG l2) (l.take j) ++ (if gb then [] else [e.1])) := by
        show _ = _
        rw [HDR.out, kof_add]
        congr 1
        unfold kof fG
        rw [hgb]
        cases hh : (Tm.get l2 e.1).2 <;> simp [hh]
      have HFC : Hid (kof (fC l2) (l.take (j + 1)) = kof (fC l2) (l.take j) ++ (if gb && !(gi == x) then [e.1] else [])) := by
        show _ = _
        rw [HDR.out, kof_add]
        congr 1
        unfold kof fC
        rw [hgb, hgi, HX.out.2]
        cases hh : (Tm.get l2 e.1).2 <;> cases hq : ((Tm.get l2 e.1).1 == e.2) <;> simp [hh, hq]
      have HXB : Hid (.string X = Value.string (bstr e.1)) := by show _ = _; rw [HX.out.1]
      have HSRC := Lib.hid (HSRC0.out X)
      clear HG1 HG2 HJ HJ2 HNL HSRC0 HT HB HDR HX hgi hgb
      gi_wp2_with fail
      rw [← hw1]
      refine ⟨trivial, (callsIn_wide.2 HGT.out).mono ?_⟩
      rintro q w2 ⟨rfl, hb2⟩
      have HT2 := Lib.hid (HT1.out.below hb2)
      have HB2 : Hid (Below W.heap.size W w2) := HB1.out.trans (hb2.mono HB1.out.size)
      have cpy : w2.heap[wr.heap.size]? = some (.cells #[.string X, .int .i64 x] 50) := (hb2.block _ (by omega)).trans hcp
      have k0 : w2.cell? ⟨wr.heap.size, 0, none⟩ = some (.string X) := by rw [Lib.cell_of_heap cpy]; rfl
      have k1 : w2.cell? ⟨wr.heap.size, 1, none⟩ = some (.int .i64 x) := by rw [Lib.cell_of_heap cpy]; rfl
      clear HGT HT1 HB1 hcp cpy hb2 hw1 hbr
      cases gb with
      | false =>
        have HXE : ((false && !(gi == x)) = true) = False := by simp
        gi_wp2_with (gi_at_builtin; refine wpListIn_append_at _ rfl _ _ 22 rfl W.heap.size 9 i0 (.string ⟨#[]⟩) 1 16 Try.underlying22 hi0 hz0 hz1 hz2 rfl _ m1 (sk (kof (fG l2) (l.take j))) rfl (HT2.out.x.alloc _) _ 1 [.string X] rfl (HSRC.out _) (by unfold maxLen; omega) (by omega) (by have := HB2.out.size; simp; omega) ?_; intro v' w3 hown' hg3 hw3
                     obtain ⟨g', cap', rfl⟩ := ownsRow_succ hown'
                     have HT4 : Hid (Tw9 W.heap.size (some ⟨g', 0, none⟩) (m1 + 1) cap' (kof (fG l2) (l.take (j + 1))) b2 m2 d2 (kof (fC l2) (l.take (j + 1))) w3) := by
                       rw [HFG.out, HFC.out]
                       simp only [Bool.false_eq_true, if_false, List.append_nil, Bool.false_and]
                       refine (HT2.out.below (one_b8 w2 _)).push ?_ hg3 hw3
                       have h1 := hown'
                       rw [HXB.out] at h1
                       simpa [sk] using h1
                     have HB4 : Hid (Below W.heap.size W w3) := (HB2.out.trans ((one_b8 w2 _).mono HB2.out.size)).grown hg3 (by have := HB2.out.size; simp; omega) (fun k e => (row_at9 HT2.out.x (ob9 HT2.out.x e)).1)
                     clear hown' hg3 hw3
                     go_frame)
        go_roundw
        case rel => exact ⟨j + 1, m1 + 1, some ⟨_, 0, none⟩, _, m2, b2, d2, by omega, by omega, by omega, by go_num, rfl, rfl, HT4, HB4⟩
        case measure => simp [ixOf]; omega
      | true =>
        by_cases hx : gi = x
        case pos =>
          have HT4 : Hid (Tw9 W.heap.size b1 m1 d1 (kof (fG l2) (l.take (j + 1))) b2 m2 d2 (kof (fC l2) (l.take (j + 1))) w2) := by
            show Tw9 _ _ _ _ _ _ _ _ _ _
            rw [HFG.out, HFC.out]
            simp only [hx, beq_self_eq_true, if_true, Bool.not_true, Bool.and_false, Bool.false_eq_true, if_false, List.append_nil]
            exact HT2.out
          clear HFG HFC HXB HSRC HT2
          gi_wp2_with fail
          go_roundw
          case rel => exact ⟨j + 1, m1, b1, d1, m2, b2, d2, by omega, by omega, by omega, by go_num, rfl, rfl, HT4, HB2⟩
          case measure => simp [ixOf]; omega
        case neg =>
          have HXE : ((gi == x) : Bool) = false := by simpa using hx
          gi_wp2_with (gi_at_builtin; refine wpListIn_append_at _ rfl _ _ 22 rfl W.heap.size 9 i0 (.string ⟨#[]⟩) 1 16 Try.underlying22 hi0 hz0 hz1 hz2 rfl _ m2 (sk (kof (fC l2) (l.take j))) rfl (HT2.out.y.alloc _) _ 1 [.string X] rfl (HSRC.out _) (by unfold maxLen; omega) (by omega) (by have := HB2.out.size; simp; omega) ?_; intro v' w3 hown' hg3 hw3
                       obtain ⟨g', cap', rfl⟩ := ownsRow_succ hown'
                       have HT4 : Hid (Tw9 W.heap.size b1 m1 d1 (kof (fG l2) (l.take (j + 1))) (some ⟨g', 0, none⟩) (m2 + 1) cap' (kof (fC l2) (l.take (j + 1))) w3) := by
                         rw [HFG.out, HFC.out]
                         simp only [if_true, List.append_nil, Bool.true_and, HXE]
                         refine ((HT2.out.below (one_b8 w2 _)).swap.push ?_ hg3 hw3).swap
                         have h1 := hown'
                         rw [HXB.out] at h1
                         simpa [sk] using h1
                       have HB4 : Hid (Below W.heap.size W w3) := (HB2.out.trans ((one_b8 w2 _).mono HB2.out.size)).grown hg3 (by have := HB2.out.size; simp; omega) (fun k e => (row_at9 HT2.out.y (ob9 HT2.out.y e)).1)
                       clear hown' hg3 hw3
                       go_frame)
          go_roundw
          case rel => exact ⟨j + 1, m1, b1, d1, m2 + 1, some ⟨_, 0, none⟩, _, by omega, by omega, by omega, by go_num, rfl, rfl, HT4, HB4⟩
          case measure => simp [ixOf]; omega
    case neg =>
      have hjI : ¬ (j : Int) < (n : Int) := by omega
      have HTE : Hid (Tw9 W.heap.size b1 m1 d1 (kof (fG l2) l) b2 m2 d2 (kof (fC l2) l) wr) := by
        have := HT.out
        rw [show j = n by omega, HNL.out.1] at this
        exact this
      clear HT HJ HG2
      obtain ⟨Wm, rfl⟩ : ∃ Wm, Wm = wr := ⟨_, rfl⟩
      gi_wp2_with fail
      gi_loopw [8, 50] (fun fv iv wz => ∃ (i m3 : Nat) (b3 : Option Addr) (d3 : Nat), i ≤ n2 ∧ m3 ≤ i ∧ iv = .int .i64 (i : Int) ∧ fv = .slice b3 m3 d3 ∧ Hid (wz.ownsRow Wm.heap.size 9 1 (.slice b3 m3 d3) m3 (sk (kof (fG l) (l2.take i)))) ∧ Hid (Below Wm.heap.size Wm wz)) (fun _ iv _ => n2 - (ixOf iv).toNat)
      case atStart => exact ⟨0, 0, none, 0, Nat.zero_le _, Nat.le_refl _, rfl, rfl, World.ownsRow_nil _ _ _ _, Below.refl _ _⟩
      case round =>
        obtain ⟨i, m3, b3, d3, hi, hm3, rfl, rfl, HO, HBz⟩ := hrel
        by_cases hlt2 : i < n2
        case pos =>
          obtain ⟨g, off, X, x, e, rfl, hg, c0, c1, HDR, HX⟩ := HJ2.out i hlt2
          have hiI : (i : Int) < (n2 : Int) := by omega
          have HBW : Hid (Below W.heap.size W wr) := HB.out.trans (HBz.out.mono HB.out.size)
          have w0 := (HBW.out.cell (p := ⟨g, off + i * 2, none⟩) hg).trans c0
          have w1 := (HBW.out.cell (p := ⟨g, off + i * 2 + 1, none⟩) hg).trans c1
          have hgr : g < wr.heap.size := by have := HBW.out.size; omega
          clear c0 c1
          obtain ⟨wr1, hw1⟩ : ∃ wr1, wr1 = wr.alloc (.cells #[.string X, .int .i64 x] 50) := ⟨_, rfl⟩
          have hbr : Below wr.heap.size wr wr1 := by rw [hw1]; exact one_b8 _ _
          have HB1 : Hid (Below W.heap.size W wr1) := HBW.out.trans (hbr.mono HBW.out.size)
          have HBm1 : Hid (Below Wm.heap.size Wm wr1) := HBz.out.trans (hbr.mono HBz.out.size)
          have HO1 : Hid (wr1.ownsRow Wm.heap.size 9 1 (.slice b3 m3 d3) m3 (sk (kof (fG l) (l2.take i)))) := own_blk9 HO.out (fun k e => hbr.block k (row_at9 HO.out e).2)
          have hcp : wr1.heap[wr.heap.size]? = some (.cells #[.string X, .int .i64 x] 50) := by rw [hw1]; exact heap_alloc_new _ _
          have hs1 : wr1.heap.size = wr.heap.size + 1 := by rw [hw1]; simp
          obtain ⟨gi, hgi⟩ : ∃ gi, gi = (Tm.get l e.1).1 := ⟨_, rfl⟩
          obtain ⟨gb, hgb⟩ : ∃ gb, gb = (Tm.get l e.1).2 := ⟨_, rfl⟩
          have HGT := Lib.hid (HG1.out e X wr1 HX.out.1 HB1.out)
          rw [← hgi, ← hgb] at HGT
          have HFG : Hid (kof (fG l) (l2.take (i + 1)) = kof (fG l) (l2.take i) ++ (if gb then [] else [e.1])) := by
            show _ = _
            rw [HDR.out, kof_add]
            congr 1
            unfold kof fG
            rw [hgb]
            cases hh : (Tm.get l e.1).2 <;> simp [hh]
          have HXB : Hid (.string X = Value.string (bstr e.1)) := by show _ = _; rw [HX.out.1]
          have HSRC := Lib.hid (HSRC0.out X)
          clear HG1 HJ2 HNL HSRC0 HO HBz HDR HX hgi hgb HBW HTE HB
          gi_wp2_with fail
          rw [← hw1]
          refine ⟨trivial, (callsIn_wide.2 HGT.out).mono ?_⟩
          rintro q w2 ⟨rfl, hb2⟩
          have HO2 : Hid (w2.ownsRow Wm.heap.size 9 1 (.slice b3 m3 d3) m3 (sk (kof (fG l) (l2.take i)))) := own_blk9 HO1.out (fun k e => hb2.block k (row_at9 HO1.out e).2)
          have HB2 : Hid (Below Wm.heap.size Wm w2) := HBm1.out.trans (hb2.mono HBm1.out.size)
          have cpy : w2.heap[wr.heap.size]? = some (.cells #[.string X, .int .i64 x] 50) := (hb2.block _ (by omega)).trans hcp
          have k0 : w2.cell? ⟨wr.heap.size, 0, none⟩ = some (.string X) := by rw [Lib.cell_of_heap cpy]; rfl
          have k1 : w2.cell? ⟨wr.heap.size, 1, none⟩ = some (.int .i64 x) := by rw [Lib.cell_of_heap cpy]; rfl
          clear HGT HO1 HB1 HBm1 hcp cpy hb2 hw1 hbr
          cases gb with
          | false =>
            gi_wp2_with (gi_at_builtin; refine wpListIn_append_at _ rfl _ _ 22 rfl Wm.heap.size 9 i0 (.string ⟨#[]⟩) 1 16 Try.underlying22 hi0 hz0 hz1 hz2 rfl _ m3 (sk (kof (fG l) (l2.take i))) rfl (HO2.out.alloc _) _ 1 [.string X] rfl (HSRC.out _) (by unfold maxLen; omega) (by omega) (by have := HB2.out.size; simp; omega) ?_; intro v' w3 hown' hg3 hw3
                         obtain ⟨g', cap', rfl⟩ := ownsRow_succ hown'
                         have HO4 : Hid (w3.ownsRow Wm.heap.size 9 1 (.slice (some ⟨g', 0, none⟩) (m3 + 1) cap') (m3 + 1) (sk (kof (fG l) (l2.take (i + 1))))) := by
                           show World.ownsRow _ _ _ _ _ _ _
                           rw [HFG.out]
                           have h1 := hown'
                           rw [HXB.out] at h1
                           simpa [sk] using h1
                         have HB4 : Hid (Below Wm.heap.size Wm w3) := (HB2.out.trans ((one_b8 w2 _).mono HB2.out.size)).grown hg3 (by have := HB2.out.size; simp; omega) (fun k e => (row_at9 HO2.out (ob9 HO2.out e)).1)
                         clear hown' hg3 hw3
                         go_frame)
            go_roundw
            case rel => exact ⟨i + 1, m3 + 1, some ⟨_, 0, none⟩, _, by omega, by omega, by go_num, rfl, HO4, HB4⟩
            case measure => simp [ixOf]; omega
          | true =>
            have HO4 : Hid (w2.ownsRow Wm.heap.size 9 1 (.slice b3 m3 d3) m3 (sk (kof (fG l) (l2.take (i + 1))))) := by
              show World.ownsRow _ _ _ _ _ _ _
              rw [HFG.out]
              simpa using HO2.out
            clear HFG HXB HSRC HO2
            gi_wp2_with fail
            go_roundw
            case rel => exact ⟨i + 1, m3, b3, d3, by omega, by omega, by go_num, rfl, HO4, HB2⟩
            case measure => simp [ixOf]; omega
        case neg =>
          have hiI : ¬ (i : Int) < (n2 : Int) := by omega
          have HEND : Hid (Rv (fun k => k < W.heap.size ∨ wr.heap.size ≤ k) b1 m1 d1 (sk (kof (fG l2) l)) wr ∧ Rv (fun k => k < W.heap.size ∨ wr.heap.size ≤ k) b3 m3 d3 (sk (kof (fG l) l2)) wr ∧ Rv (fun k => k < W.heap.size ∨ wr.heap.size ≤ k) b2 m2 d2 (sk (kof (fC l2) l)) wr) := by
            have ht := HTE.out.below HBz.out
            have ho := HO.out
            rw [show i = n2 by omega, HNL.out.2] at ho
            exact ⟨rv_own9 ht.x (Nat.le_refl _), rv_own9 ho HB.out.size, rv_own9 ht.y (Nat.le_refl _)⟩
          have HBE : Hid (Below W.heap.size W wr) := HB.out.trans (HBz.out.mono HB.out.size)
          clear HG1 HJ2 HNL HSRC0 HO HBz HTE HB
          gi_wp2
          go_ret3
          exact ⟨_, _, _, _, _, _, _, _, _, rfl, HEND.out, HBE.out⟩
end Go.Proofs.Ytnjmfhdgemigcaa
/- Layer 9: what Diff goes by: trees that stand while rows grow; three rows. -/
namespace Go.Proofs.Ytnjmfhdgemigcaa
open Go.RowKit Go.Shelf

section
variable {E ex q : Nat → Prop} {v : Value} {l : List Tm.E} {W X Y : World}
theorem Tq.up (h : Tq ex v l W) (hx : ∀ k, k < W.heap.size → E k → ex k) (ht : ∀ k, ex k → E k) : Tq E v l W := by
  rcases h with h | ⟨t, r, rfl, h, rfl⟩
  · exact .inl h
  · exact .inr ⟨t, r, rfl, h.mono hx (ht _ h.mu), rfl⟩
theorem Tq.res (h : Tq E v l X) : Tq (fun k => E k ∧ k < X.heap.size) v l X := by
  rcases h with h | ⟨t, r, rfl, h, rfl⟩
  · exact .inl h
  · exact .inr ⟨t, r, rfl, h.mono (fun k _ e => e.1) ⟨h.mu, h.lt⟩, rfl⟩
theorem Tq.keep9 (h : Tq E v l X) (ho : Only q X Y) (hq : ∀ k, q k → E k) (hn : ∀ t, v = .pointer (some ⟨t, 0, none⟩) → ¬ q t) : Tq E v l Y := by
  rcases h with h | ⟨t, r, rfl, h, rfl⟩
  · exact .inl h
  · exact .inr ⟨t, r, rfl, h.keep (only_w ho hq) (ho.block t h.lt (hn t rfl)), rfl⟩
theorem tq_copy9 (h : Tq E v l W) (hup : ∀ k, W.heap.size ≤ k → E k) :
    Calls Try.prog 50 #[v] W fun e w' => ∃ o, e = .returned (.pointer o) ∧ Hid (Tq E (.pointer o) l w' ∧ ∀ t, o = some ⟨t, 0, none⟩ → W.heap.size ≤ t ∧ t < w'.heap.size) ∧ Below W.heap.size W w' := by
  rcases h with ⟨rfl, rfl⟩ | ⟨t, r, rfl, h, rfl⟩
  · refine tre_copy_nil.mono ?_
    rintro e w' ⟨rfl, rfl⟩
    exact ⟨none, rfl, ⟨.inl ⟨rfl, rfl⟩, fun t e => by cases e⟩, Below.refl _ _⟩
  · refine (tre_copy h).mono ?_
    rintro e w' ⟨t2, rfl, h1, h2, h3, h4⟩
    refine ⟨_, rfl, ⟨.inr ⟨t2, r, rfl, h3.out.mono (fun k _ e => .inl e) (hup _ h1), rfl⟩, fun t e => ?_⟩, h4⟩
    injection e with e
    injection e with e _ _
    subst e
    exact ⟨h1, h2⟩
theorem tq_get9 {k : Tm.K} (h : Tq E v l X) : Calls Try.prog 51 #[v, .string (bstr k)] X fun e w' => e = .returned (.tuple #[.int .i64 (Tm.get l k).1, .bool (Tm.get l k).2]) ∧ Below X.heap.size X w' :=
  tq_get h.res (fun k hk e => by omega)
theorem tq_from9 {o : Option Addr} {k : Tm.K} (h : Tq E (.pointer o) l X) (_hup : ∀ k, X.heap.size ≤ k → E k) :
    Calls Try.prog 15 #[.pointer o, .string (bstr k)] X fun e w' => ∃ g lb D, e = .returned (.func (.func g) #[] lb) ∧ Hid ((∀ args w, (callFunc g args).run Try.prog w = .ok (.enter g args) w) ∧ (∀ k, E k → D k) ∧ SeqX g lb en9 (Tm.from_ l k) D w') ∧ Below X.heap.size X w' := by
  refine (wlk_seqFrom (k := k) (h.res.tz (fun k hk e => by omega)) (Nat.le_refl _)).mono ?_
  rintro e w' ⟨g, lb, rfl, HS, hb⟩
  refine ⟨g, lb, _, rfl, ⟨HS.out.1, fun k hk => ?_, HS.out.2⟩, hb⟩
  by_cases hz : k < X.heap.size
  · exact .inl ⟨hk, hz⟩
  · exact .inr (by omega)
end
/-- a row: where, how many cells, what -/
structure R3 where
  a : Option Addr
  c : Nat
  ks : List Tm.K
/-- three boxes behind p + 3, with rows of their own from N on -/
structure Dr (p N : Nat) (r : Nat → R3) (X : World) : Prop where
  bo : ∀ i, i < 3 → Boxed X (p + 3 + i) 22 (.slice (r i).a (r i).ks.length (r i).c)
  ow : ∀ i, i < 3 → X.ownsRow N 9 1 (.slice (r i).a (r i).ks.length (r i).c) (r i).ks.length (sk (r i).ks)
  ne : ∀ i j k, i < 3 → j < 3 → i ≠ j → (r i).a = some ⟨k, 0, none⟩ → (r j).a = some ⟨k, 0, none⟩ → False
  sz : N ≤ X.heap.size
  pN : p + 6 ≤ N
def cod (p N : Nat) : Co := coR (fun k => p ≤ k) (p + 6) N [p + 3 + 0, p + 3 + 1, p + 3 + 2]
theorem mem3 {p q : Nat} (h : q ∈ [p + 3 + 0, p + 3 + 1, p + 3 + 2]) : ∃ i, i < 3 ∧ q = p + 3 + i := by
  simp only [List.mem_cons, List.not_mem_nil, or_false] at h
  rcases h with h | h | h
  · exact ⟨0, by omega, h⟩
  · exact ⟨1, by omega, h⟩
  · exact ⟨2, by omega, h⟩
theorem in3 {p i : Nat} (h : i < 3) : p + 3 + i ∈ [p + 3 + 0, p + 3 + 1, p + 3 + 2] := by
  have : i = 0 ∨ i = 1 ∨ i = 2 := by omega
  rcases this with rfl | rfl | rfl <;> simp
section
variable {p N : Nat} {r : Nat → R3} {X Y : World}
theorem Dr.co (h : Dr p N r X) : (cod p N).V X := by
  refine ⟨by have := h.sz; have := h.pN; omega, fun q hq => ?_⟩
  obtain ⟨i, hi, rfl⟩ := mem3 hq
  refine ⟨⟨by omega, by omega⟩, fun k hk => ?_⟩
  obtain ⟨n2, c2, hk⟩ := hk
  rw [(h.bo i hi).cell] at hk
  injection hk with hk
  injection hk with e1 e2 e3
  exact row_at9 (h.ow i hi) e1
theorem Dr.isO (h : Dr p N r X) {i k : Nat} (hi : i < 3) (e : (r i).a = some ⟨k, 0, none⟩) : (cod p N).O X k :=
  .inr ⟨p + 3 + i, in3 hi, _, _, by rw [(h.bo i hi).cell, e]⟩
theorem Dr.keep (h : Dr p N r X) (ho : Only (fun k => N ≤ k ∧ ¬ (cod p N).O X k) X Y) : Dr p N r Y :=
  ⟨fun i hi => boxed_at (h.bo i hi) (ho.block _ (h.bo i hi).lt (fun e => by have := h.pN; omega)),
   fun i hi => own_blk9 (h.ow i hi) (fun k e => ho.block k (row_at9 (h.ow i hi) e).2 (fun e2 => e2.2 (h.isO hi e))),
   h.ne, Nat.le_trans h.sz ho.size, h.pN⟩
/-- the rows, one of them anew -/
def upd (r : Nat → R3) (i : Nat) (x : R3) : Nat → R3 := fun j => if j = i then x else r j
/-- 'row = append(row, x)' -/
theorem Dr.push (h : Dr p N r X) {i g' c' : Nat} {x : Tm.K} {tmp : Obj} {w3 : World} (hi : i < 3)
    (hown : w3.ownsRow N 9 1 (.slice (some ⟨g', 0, none⟩) ((r i).ks.length + 1) c') ((r i).ks.length + 1) (sk (r i).ks ++ [.string (bstr x)])) (hg : (X.alloc tmp).grownBy w3 (Value.slice (r i).a (r i).ks.length (r i).c).ownBlock)
    (hw : (Value.slice (some ⟨g', 0, none⟩) ((r i).ks.length + 1) c').ownBlock = (Value.slice (r i).a (r i).ks.length (r i).c).ownBlock ∨ (Value.slice (some ⟨g', 0, none⟩) ((r i).ks.length + 1) c').ownBlock = some (X.alloc tmp).heap.size) :
    Boxed w3 (p + 3 + i) 22 (.slice (r i).a (r i).ks.length (r i).c) ∧ Dr p N (upd r i ⟨some ⟨g', 0, none⟩, c', (r i).ks ++ [x]⟩) (w3.setCell ⟨p + 3 + i, 0, none⟩ (.slice (some ⟨g', 0, none⟩) ((r i).ks.length + 1) c')) ∧
      (cod p N).kb X (w3.setCell ⟨p + 3 + i, 0, none⟩ (.slice (some ⟨g', 0, none⟩) ((r i).ks.length + 1) c')) ∧ Only (fun k => k = p + 3 + i ∨ N ≤ k) X (w3.setCell ⟨p + 3 + i, 0, none⟩ (.slice (some ⟨g', 0, none⟩) ((r i).ks.length + 1) c')) := by
  have hN := h.sz
  have hpN := h.pN
  obtain ⟨k1, k2, k3, k4, k5⟩ := co_appended (S := fun k => p ≤ k) (N := p + 6) (M := N) (qs := [p + 3 + 0, p + 3 + 1, p + 3 + 2]) (q := p + 3 + i) h.co (in3 hi) (by decide) (h.bo i hi) (h.ow i hi) hN hown hg hw (fun q2 hq2 e => by
    obtain ⟨j, hj, rfl⟩ := mem3 hq2
    have := (row_at9 (h.ow i hi) (ob9 (h.ow i hi) e)).1
    omega)
  have hnb : ∀ k, k < N → (Value.slice (r i).a (r i).ks.length (r i).c).ownBlock ≠ some k := fun k hk e => by
    have := (row_at9 (h.ow i hi) (ob9 (h.ow i hi) e)).1
    omega
  refine ⟨k1, ⟨fun j hj => ?_, fun j hj => ?_, fun j j2 k hj hj2 hne e1 e2 => ?_, Nat.le_trans hN k4.1.size, hpN⟩, k4, ?_⟩
  · by_cases e : j = i
    · subst e
      simp only [upd, if_true, List.length_append, List.length_singleton]
      exact k2
    · simp only [upd, if_neg e]
      exact boxed_at (h.bo j hj) (k5 _ (h.bo j hj).lt (by omega) (hnb _ (by omega)))
  · by_cases e : j = i
    · subst e
      simp only [upd, if_true, List.length_append, List.length_singleton]
      rw [show sk ((r j).ks ++ [x]) = sk (r j).ks ++ [.string (bstr x)] by simp [sk]]
      exact k3
    · simp only [upd, if_neg e]
      refine own_blk9 (h.ow j hj) (fun k e1 => k5 k (row_at9 (h.ow j hj) e1).2 (by have := (row_at9 (h.ow j hj) e1).1; omega) (fun e2 => h.ne i j k hi hj (Ne.symm e) (ob9 (h.ow i hi) e2) e1))
  · have key : ∀ j2, j2 < 3 → j2 ≠ i → (r j2).a = some ⟨g', 0, none⟩ → False := fun j2 hj2 hn e2 => by
      rcases hw with hw | hw
      · exact h.ne i j2 g' hi hj2 (Ne.symm hn) (ob9 (h.ow i hi) (by rw [← hw]; rfl)) e2
      · have h1 : g' = (X.alloc tmp).heap.size := by simpa [Value.ownBlock] using hw
        have := (row_at9 (h.ow j2 hj2) e2).2
        rw [World.size_alloc] at h1
        omega
    by_cases e : j = i
    · subst e
      simp only [upd, if_true, if_neg (Ne.symm hne)] at e1 e2
      injection e1 with e1
      injection e1 with e1 _ _
      subst e1
      exact key j2 hj2 (Ne.symm hne) e2
    · by_cases e' : j2 = i
      · subst e'
        simp only [upd, if_true, if_neg e] at e1 e2
        injection e2 with e2
        injection e2 with e2 _ _
        subst e2
        exact key j hj e e1
      · simp only [upd, if_neg e, if_neg e'] at e1 e2
        exact h.ne j j2 k hj hj2 hne e1 e2
  · refine ⟨k4.1.os, k4.1.tape, k4.1.output, k4.1.size, fun k hk hx => k5 k hk (fun e => hx (.inl e)) (hnb k ?_)⟩
    exact Nat.lt_of_not_le (fun e => hx (.inr e))
end
end Go.Proofs.Ytnjmfhdgemigcaa
