/- Layer 9: the walk of WalkDiffs, over what is asked of Diff. -/
import Derived.Test.YtnjmfhdgemigcaaWlkDa
import Derived.Test.YtnjmfhdgemigcaaWlkPa
namespace Go.Proofs.Ytnjmfhdgemigcaa
open Go.RowKit Go.Shelf

attribute [local go_sem] Oper.semAt_some

theorem results_3t {fn : Func} {q r s : Tmp} (h : fn.results = #[.cell q 22, .cell r 22, .cell s 22]) (tmps : Array Value) (w : World) (g1 g2 g3 : Nat) (a1 : Option Addr) (n1 c1 : Nat) (a2 : Option Addr) (n2 c2 : Nat) (a3 : Option Addr) (n3 c3 : Nat) (h1 : tmps.getD q undef = .pointer (some ⟨g1, 0, none⟩)) (h2 : tmps.getD r undef = .pointer (some ⟨g2, 0, none⟩)) (h3 : tmps.getD s undef = .pointer (some ⟨g3, 0, none⟩))
    (k1 : w.cell? ⟨g1, 0, none⟩ = some (.slice a1 n1 c1)) (k2 : w.cell? ⟨g2, 0, none⟩ = some (.slice a2 n2 c2)) (k3 : w.cell? ⟨g3, 0, none⟩ = some (.slice a3 n3 c3)) :
    (results fn tmps).run Try.prog w = .ok (.tuple #[.slice a1 n1 c1, .slice a2 n2 c2, .slice a3 n3 c3]) w := by
  simp only [Array.getD_eq_getD_getElem?] at h1 h2 h3
  simp [results, h, go_sem, h1, h2, h3, k1, k2, k3]
theorem diffs_same {x y : Int} {W : World} : Calls Try.prog 28 #[.int .i64 x, .int .i64 y] W fun e w' => e = .returned (.bool (x == y)) ∧ w' = W := by
  go_enter Try.func28, Try.ntmps28
  go_wp2
  go_ret
  exact ⟨rfl, rfl⟩
/-- WHAT IS ASKED OF DIFF -/
def DifCon : Prop := ∀ (exa exb : Nat → Prop) (oa ob : Option Addr) (la lb : List Tm.E) (sm : Value) (W : World), Tq exa (.pointer oa) la W → Tq exb (.pointer ob) lb W → (sm = .func (.func 28) #[] #[] ∨ (sm = .nilFunc ∧ lb = [])) → la.length ≤ 60 → lb.length ≤ 60 →
  Calls Try.prog 27 #[.pointer oa, .pointer ob, sm] W fun e w' => ∃ x1 m1 d1 x2 m2 d2 x3 m3 d3, e = .returned (.tuple #[.slice x1 m1 d1, .slice x2 m2 d2, .slice x3 m3 d3]) ∧ Hid (Rv (fun k => k < W.heap.size ∨ w'.heap.size ≤ k) x1 m1 d1 (sk (kof (fG lb) la)) w' ∧ Rv (fun k => k < W.heap.size ∨ w'.heap.size ≤ k) x2 m2 d2 (sk (kof (fG la) lb)) w' ∧ Rv (fun k => k < W.heap.size ∨ w'.heap.size ≤ k) x3 m3 d3 (sk (kof (fC lb) la)) w') ∧ Below W.heap.size W w'
/-- three lists of keys in memory -/
structure V3 (x1 : Option Addr) (m1 d1 : Nat) (x2 : Option Addr) (m2 d2 : Nat) (x3 : Option Addr) (m3 d3 : Nat) (k1 k2 k3 : List Tm.K) (w : World) : Prop where
  a : ∃ ex, Rv ex x1 m1 d1 (sk k1) w
  b : ∃ ex, Rv ex x2 m2 d2 (sk k2) w
  c : ∃ ex, Rv ex x3 m3 d3 (sk k3) w
  s : k1.length ≤ 60 ∧ k2.length ≤ 60 ∧ k3.length ≤ 60
section
variable {x1 x2 x3 y1 y2 y3 : Option Addr} {m1 d1 m2 d2 m3 d3 p1 q1 p2 q2 p3 q3 : Nat} {k1 k2 k3 : List Tm.K} {w w' W W2 : World} {t t2 : Nat} {x x' : Option Addr} {m c m' c' : Nat} {l l2 : List Tm.E}
theorem V3.below (h : V3 x1 m1 d1 x2 m2 d2 x3 m3 d3 k1 k2 k3 w) (hb : Below w.heap.size w w') : V3 x1 m1 d1 x2 m2 d2 x3 m3 d3 k1 k2 k3 w' := by
  obtain ⟨⟨e1, h1⟩, ⟨e2, h2⟩, ⟨e3, h3⟩, s⟩ := h
  exact ⟨⟨e1, h1.below hb⟩, ⟨e2, h2.below hb⟩, ⟨e3, h3.below hb⟩, s⟩
theorem sk_ln {ex : Nat → Prop} {a : Option Addr} {n c : Nat} {ks : List Tm.K} (h : Rv ex a n c (sk ks) w) : n = ks.length := by have := h.ln; simpa [sk] using this
theorem texts9 {ex ex2 : Nat → Prop} {a a2 : Option Addr} {n c n2 c2 : Nat} {ks : List Tm.K} (h : Rv ex a n c (sk ks) w) (h2 : Rv ex2 a2 n2 c2 (sk ks) w) (hl : ks.length ≤ 60) :
    Calls Try.prog 30 #[.slice a n c, .slice a2 n2 c2] w fun e w' => e = .returned (.bool true) ∧ Below w.heap.size w w' := by
  refine (ref9_Texts h h2 (by have := sk_ln h; omega) (by have := sk_ln h2; omega)).mono ?_
  rintro e w' ⟨v, rfl, h1, hb⟩
  exact ⟨by rw [h1.2 rfl], hb⟩
end
theorem kof_all (l : List Tm.E) : kof (fG []) l = l.map (·.1) := by
  unfold kof
  rw [List.filter_eq_self.2 (fun e _ => by simp [fG, Tm.get])]
theorem kof_none (l : List Tm.E) : kof (fC []) l = [] := by
  unfold kof
  rw [List.filter_eq_nil_iff.2 (fun e _ h => by simp [fC, Tm.get] at h)]
  rfl
set_option maxHeartbeats 4000000 in
set_option maxRecDepth 100000 in
theorem walk_diffs9 (hD : DifCon) {a a2 : Option Addr} {n c n2 c2 : Nat} {ks ks2 : List Tm.K} {W : World} (h : Rv (fun _ => False) a n c (sk ks) W) (h2 : Rv (fun _ => False) a2 n2 c2 (sk ks2) W) :
    Calls Try.prog 5 #[.slice a n c, .slice a2 n2 c2] W fun e w' => e = .returned (.bool true) ∧ Below W.heap.size W w' := by
  have HF := Lib.hid (first9_true (W := W))
  have HA := Lib.hid h
  have HA2 := Lib.hid h2
  have HD : Hid DifCon := hD
  have T1 := Lib.hid True.intro
  have T2 := Lib.hid True.intro
  have T3 := Lib.hid True.intro
  have T4 := Lib.hid True.intro
  have T5 := Lib.hid True.intro
  clear h h2 hD
  go_enter Try.func5, Try.ntmps5
  go_wp2_with (first
    | (go_at_call 6; refine HF.out.mono ?_; rintro e w1 ⟨rfl, hb1⟩)
    | (go_at_call 7; clear T1; refine (wlk_pairs (HA.out.below hb1)).mono ?_; rintro e w2 ⟨t, x, m, c', l, rfl, HP, hb2⟩; have hc2 := hb1.trans (hb2.mono hb1.size))
    | (go_at_call 7; refine (wlk_pairs (HA2.out.below hc2)).mono ?_; rintro e w3 ⟨t3, x3, m3, c3, l3, rfl, HP3, hb3⟩; have hc3 := hc2.trans (hb3.mono hc2.size); have HQ := Lib.hid (And.intro (HP.out.1.below hb3) (HP.out.2.1.below hb3)); clear hc2)
    | (go_at_call 27; clear T2; refine (HD.out _ _ _ _ l l3 _ w3 HQ.out.1.A.tq HP3.out.1.A.tq (.inl rfl) HP.out.2.2.1.len HP3.out.2.2.1.len).mono ?_; rintro e w4 ⟨u1, v1, z1, u2, v2, z2, u3, v3, z3, rfl, HV, hb4⟩; have hc4 := hc3.trans (hb4.mono hc3.size))
    | (go_at_call 29; refine (ref9_Diff (HQ.out.2.below hb4) (HP3.out.2.1.below hb4) (by have := HP.out.2.2.1.len; have := HP.out.2.2.2; omega) (by have := HP3.out.2.2.1.len; have := HP3.out.2.2.2; omega)).mono ?_; rintro e w5 ⟨s1, r1, o1, s2, r2, o2, s3, r3, o3, rfl, HR, hb5⟩; have hc5 := hc4.trans (hb5.mono hc4.size))
    | (go_at_call 30; clear T3; refine (texts9 (HV.out.1.below hb5) HR.out.1 (Nat.le_trans (kof_len _ l) HP.out.2.2.1.len)).mono ?_; rintro e w6 ⟨rfl, hb6⟩; have hc6 := hc5.trans (hb6.mono hc5.size))
    | (go_at_call 30; clear T4; refine (texts9 ((HV.out.2.1.below hb5).below hb6) (HR.out.2.1.below hb6) (Nat.le_trans (kof_len _ l3) HP3.out.2.2.1.len)).mono ?_; rintro e w7 ⟨rfl, hb7⟩; have hc7 := hc6.trans (hb7.mono hc6.size))
    | (go_at_call 30; clear T5; refine (texts9 (((HV.out.2.2.below hb5).below hb6).below hb7) ((HR.out.2.2.below hb6).below hb7) (Nat.le_trans (kof_len _ l) HP.out.2.2.1.len)).mono ?_; rintro e w8 ⟨rfl, hb8⟩; have hc8 := hc7.trans (hb8.mono hc7.size))
    | (go_at_call 27; refine (HD.out _ (fun _ => False) _ none l [] _ w8 ((((((HQ.out.1.below hb4).below hb5).below hb6).below hb7).below hb8).A.tq) (.inl ⟨rfl, rfl⟩) (.inr ⟨rfl, rfl⟩) HP.out.2.2.1.len (by simp)).mono ?_; rintro e w9 ⟨u4, v4, z4, u5, v5, z5, u6, v6, z6, rfl, HV9, hb9⟩; have hc9 := hc8.trans (hb9.mono hc8.size); have e4 : v4 = m := by rw [sk_ln HV9.out.1, kof_all, List.length_map, HP.out.2.2.2]
       have e5 : v5 = 0 := sk_ln HV9.out.2.1
       have e6 : v6 = 0 := by rw [sk_ln HV9.out.2.2, kof_none]; rfl
       subst e4 e5 e6))
  go_ret
  exact ⟨rfl, hc9⟩
end Go.Proofs.Ytnjmfhdgemigcaa
/- Layer 9: Diff. -/
namespace Go.Proofs.Ytnjmfhdgemigcaa
open Go.RowKit Go.Shelf

attribute [local go_sem] Oper.semAt_some

/-- behind the two copies -/
structure Rg (p : Nat) (Ea Eb : Nat → Prop) (la lb : List Tm.E) (W1 : World) (o1 o2 : Option Addr) (w : World) : Prop where
  b0 : Boxed w p 24 (.pointer o1)
  b1 : Boxed w (p + 1) 24 (.pointer o2)
  ta : Tq Ea (.pointer o1) la w
  tb : Tq Eb (.pointer o2) lb w
  oa : ∀ t, o1 = some ⟨t, 0, none⟩ → p + 6 ≤ t ∧ t < w.heap.size
  ob : ∀ t, o2 = some ⟨t, 0, none⟩ → p + 6 ≤ t ∧ t < w.heap.size
  ho : Only (fun k => k = p ∨ k = p + 1) W1 w
theorem rg9 {p : Nat} {Ea Eb : Nat → Prop} {la lb : List Tm.E} {W1 w3 : World} {o1 o2 oa ob : Option Addr} (b0 : Boxed w3 (p + 0) 24 (.pointer oa)) (b1 : Boxed w3 (p + 1) 24 (.pointer ob)) (h1 : Tq Ea (.pointer o1) la w3) (h2 : Tq Eb (.pointer o2) lb w3) (ho1 : ∀ t, o1 = some ⟨t, 0, none⟩ → p + 6 ≤ t ∧ t < w3.heap.size) (ho2 : ∀ t, o2 = some ⟨t, 0, none⟩ → p + 6 ≤ t ∧ t < w3.heap.size)
    (hb : Below W1.heap.size W1 w3) (hUA : ∀ k, p ≤ k → Ea k) (hUB : ∀ k, p ≤ k → Eb k) : Rg p Ea Eb la lb W1 o1 o2 ((w3.setCell ⟨p, 0, none⟩ (.pointer o1)).setCell ⟨p + 1, 0, none⟩ (.pointer o2)) := by
  rw [Nat.add_zero] at b0
  have o : Only (fun k => k = p ∨ k = p + 1) w3 ((w3.setCell ⟨p, 0, none⟩ (.pointer o1)).setCell ⟨p + 1, 0, none⟩ (.pointer o2)) :=
    Only.setCell (p := fun k => k = p ∨ k = p + 1) (q := ⟨p + 1, 0, none⟩) (Only.setCell (p := fun k => k = p ∨ k = p + 1) (q := ⟨p, 0, none⟩) (Only.refl _ _) (.inl (.inl rfl)) _) (.inl (.inr rfl)) _
  have hsz : ((w3.setCell ⟨p, 0, none⟩ (.pointer o1)).setCell ⟨p + 1, 0, none⟩ (.pointer o2)).heap.size = w3.heap.size := by simp
  refine ⟨boxed_at (b0.set _) (Below.heap_setCell _ _ _ _ (by show p ≠ p + 1; omega)), ?_, h1.keep9 o (fun k hk => hUA k (by omega)) (fun t e h => ?_), h2.keep9 o (fun k hk => hUB k (by omega)) (fun t e h => ?_), by rw [hsz]; exact ho1, by rw [hsz]; exact ho2, (only_of8 hb).trans o⟩
  · have t : Boxed (w3.setCell ⟨p, 0, none⟩ (.pointer o1)) (p + 1) 24 (.pointer ob) := boxed_at b1 (Below.heap_setCell _ _ _ _ (by show p + 1 ≠ p; omega))
    exact t.set _
  · injection e with e
    have := (ho1 t e).1
    omega
  · injection e with e
    have := (ho2 t e).1
    omega
theorem from_nil9 (l : List Tm.E) : Tm.from_ l [] = l := by
  unfold Tm.from_
  refine List.filter_eq_self.2 (fun e _ => ?_)
  rw [show Tm.lt e.1 [] = false by cases e.1 <;> rfl]
  rfl
/-- what stands while Diff goes on -/
structure Df (sm : Value) (W : World) (p N : Nat) (Ea Eb : Nat → Prop) (o1 o2 : Option Addr) (la lb : List Tm.E) (r : Nat → R3) (X : World) : Prop where
  b0 : Boxed X p 24 (.pointer o1)
  b1 : Boxed X (p + 1) 24 (.pointer o2)
  b2 : Boxed X (p + 2) 62 sm
  d : Dr p N r X
  ta : Tq Ea (.pointer o1) la X
  tb : Tq Eb (.pointer o2) lb X
  oa : ∀ t, o1 = some ⟨t, 0, none⟩ → p + 6 ≤ t ∧ t < N
  ob : ∀ t, o2 = some ⟨t, 0, none⟩ → p + 6 ≤ t ∧ t < N
  bel : Below p W X
  ua : ∀ k, p ≤ k → Ea k
  ub : ∀ k, p ≤ k → Eb k
theorem Df.step {sm : Value} {W X Y : World} {p N : Nat} {Ea Eb : Nat → Prop} {o1 o2 : Option Addr} {la lb : List Tm.E} {r r' : Nat → R3} (h : Df sm W p N Ea Eb o1 o2 la lb r X) (d' : Dr p N r' Y) (ho : Only (fun k => p + 3 ≤ k ∧ k < p + 6 ∨ N ≤ k) X Y) : Df sm W p N Ea Eb o1 o2 la lb r' Y := by
  have hN := h.d.pN
  refine ⟨boxed_at h.b0 (ho.block _ h.b0.lt (fun e => by omega)), boxed_at h.b1 (ho.block _ h.b1.lt (fun e => by omega)), boxed_at h.b2 (ho.block _ h.b2.lt (fun e => by omega)), d', h.ta.keep9 ho (fun k hk => h.ua k (by omega)) (fun t e hk => ?_), h.tb.keep9 ho (fun k hk => h.ub k (by omega)) (fun t e hk => ?_), h.oa, h.ob, below_ge9 h.bel ho (fun k hk => by omega) (by have := h.d.sz; omega), h.ua, h.ub⟩
  · injection e with e
    have := h.oa t e
    omega
  · injection e with e
    have := h.ob t e
    omega
theorem Df.keep {sm : Value} {W X Y : World} {p N : Nat} {Ea Eb : Nat → Prop} {o1 o2 : Option Addr} {la lb : List Tm.E} {r : Nat → R3} (h : Df sm W p N Ea Eb o1 o2 la lb r X) (ho : Only (fun k => N ≤ k ∧ ¬ (cod p N).O X k) X Y) : Df sm W p N Ea Eb o1 o2 la lb r Y :=
  h.step (h.d.keep ho) (only_w ho (fun _k hk => .inr hk.1))
theorem Df.below {sm : Value} {W X Y : World} {p N : Nat} {Ea Eb : Nat → Prop} {o1 o2 : Option Addr} {la lb : List Tm.E} {r : Nat → R3} (h : Df sm W p N Ea Eb o1 o2 la lb r X) (hb : Below X.heap.size X Y) : Df sm W p N Ea Eb o1 o2 la lb r Y ∧ (cod p N).kb X Y := by
  have hv := h.d.co
  exact ⟨h.keep ⟨hb.os, hb.tape, hb.output, hb.size, fun k hk _ => hb.block k hk⟩, Co.kb_of hv hb⟩
set_option maxHeartbeats 4000000 in
set_option maxRecDepth 100000 in
theorem wlk_diff {exa exb : Nat → Prop} {oa ob : Option Addr} {la lb : List Tm.E} {W : World} (ha : Tq exa (.pointer oa) la W) (hb : Tq exb (.pointer ob) lb W) (hla : la.length ≤ 60) (hlb : lb.length ≤ 60) :
    Calls Try.prog 27 #[.pointer oa, .pointer ob, .func (.func 28) #[] #[]] W fun e w' => ∃ x1 m1 d1 x2 m2 d2 x3 m3 d3, e = .returned (.tuple #[.slice x1 m1 d1, .slice x2 m2 d2, .slice x3 m3 d3]) ∧ Hid (Rv (fun k => k < W.heap.size ∨ w'.heap.size ≤ k) x1 m1 d1 (sk (kof (fG lb) la)) w' ∧ Rv (fun k => k < W.heap.size ∨ w'.heap.size ≤ k) x2 m2 d2 (sk (kof (fG la) lb)) w' ∧ Rv (fun k => k < W.heap.size ∨ w'.heap.size ≤ k) x3 m3 d3 (sk (kof (fC lb) la)) w') ∧ Below W.heap.size W w' := by
  obtain ⟨i0, hi0, hz0, hz1, hz2⟩ := info_of8 info9_string
  obtain ⟨p, hp⟩ : ∃ p, p = W.heap.size := ⟨_, rfl⟩
  obtain ⟨W1, hW1⟩ : ∃ W1, W1 = ((((((W.alloc (.cells #[.pointer oa] 24)).alloc (.cells #[.pointer ob] 24)).alloc (.cells #[.func (.func 28) #[] #[]] 62)).alloc (.cells #[.slice none 0 0] 22)).alloc (.cells #[.slice none 0 0] 22)).alloc (.cells #[.slice none 0 0] 22)) := ⟨_, rfl⟩
  have hs1 : W1.heap.size = p + 6 := by rw [hW1]; simp only [World.size_alloc]; omega
  have hB1 : Below p W W1 := by rw [hW1, hp]; exact ((((((one_b8 W _).alloc (by simp only [World.size_alloc]; omega) _).alloc (by simp only [World.size_alloc]; omega) _).alloc (by simp only [World.size_alloc]; omega) _).alloc (by simp only [World.size_alloc]; omega) _).alloc (by simp only [World.size_alloc]; omega) _)
  have b0 : Boxed W1 (p + 0) 24 (.pointer oa) := by
    have := Boxed.new W 24 (.pointer oa)
    simp only [← hp] at this
    rw [hW1]
    exact (((((this.alloc _).alloc _).alloc _).alloc _).alloc _)
  have b1 : Boxed W1 (p + 1) 24 (.pointer ob) := by
    have := Boxed.new (W.alloc (.cells #[.pointer oa] 24)) 24 (.pointer ob)
    simp only [World.size_alloc, ← hp] at this
    rw [hW1]
    exact ((((this.alloc _).alloc _).alloc _).alloc _)
  have b2 : Boxed W1 (p + 2) 62 (.func (.func 28) #[] #[]) := by
    have := Boxed.new ((W.alloc (.cells #[.pointer oa] 24)).alloc (.cells #[.pointer ob] 24)) 62 (.func (.func 28) #[] #[])
    simp only [World.size_alloc, ← hp] at this
    rw [hW1]
    exact (((this.alloc _).alloc _).alloc _)
  have b3 : Boxed W1 (p + 3) 22 (.slice none 0 0) := by
    have := Boxed.new (((W.alloc (.cells #[.pointer oa] 24)).alloc (.cells #[.pointer ob] 24)).alloc (.cells #[.func (.func 28) #[] #[]] 62)) 22 (.slice none 0 0)
    simp only [World.size_alloc, ← hp] at this
    rw [hW1]
    exact ((this.alloc _).alloc _)
  have b4 : Boxed W1 (p + 4) 22 (.slice none 0 0) := by
    have := Boxed.new ((((W.alloc (.cells #[.pointer oa] 24)).alloc (.cells #[.pointer ob] 24)).alloc (.cells #[.func (.func 28) #[] #[]] 62)).alloc (.cells #[.slice none 0 0] 22)) 22 (.slice none 0 0)
    simp only [World.size_alloc, ← hp] at this
    rw [hW1]
    exact (this.alloc _)
  have b5 : Boxed W1 (p + 5) 22 (.slice none 0 0) := by
    have := Boxed.new (((((W.alloc (.cells #[.pointer oa] 24)).alloc (.cells #[.pointer ob] 24)).alloc (.cells #[.func (.func 28) #[] #[]] 62)).alloc (.cells #[.slice none 0 0] 22)).alloc (.cells #[.slice none 0 0] 22)) 22 (.slice none 0 0)
    simp only [World.size_alloc, ← hp] at this
    rw [hW1]
    exact this
  obtain ⟨Ea, hEa⟩ : ∃ Ea : Nat → Prop, Ea = fun k => exa k ∨ p ≤ k := ⟨_, rfl⟩
  obtain ⟨Eb, hEb⟩ : ∃ Eb : Nat → Prop, Eb = fun k => exb k ∨ p ≤ k := ⟨_, rfl⟩
  have hA1 : Tq Ea (.pointer oa) la W1 := (ha.up (E := Ea) (fun k hk e => by rw [hEa] at e; rcases e with e | e; exact e; omega) (fun k e => by rw [hEa]; exact .inl e)).below (by rw [← hp]; exact hB1)
  have hA2 : Tq Eb (.pointer ob) lb W1 := (hb.up (E := Eb) (fun k hk e => by rw [hEb] at e; rcases e with e | e; exact e; omega) (fun k e => by rw [hEb]; exact .inl e)).below (by rw [← hp]; exact hB1)
  have HUA : Hid (∀ k, p ≤ k → Ea k) := fun k hk => by rw [hEa]; exact .inr hk
  have HUB : Hid (∀ k, p ≤ k → Eb k) := fun k hk => by rw [hEb]; exact .inr hk
  refine (callsIn_wide (n := 9)).1 ?_
  refine callsIn_of_wp_marks Try.func27 rfl trivial ?_ rfl
  simp only [Try.ntmps27, List.size_toArray, List.length_cons, List.length_nil, Nat.reduceAdd, Nat.reduceSub, Array.replicate_succ, Array.replicate_zero, List.push_toArray, List.append_toArray, List.nil_append, List.cons_append]
  gi_wp2_with fail
  have c0 := b0.cell; have c1 := b1.cell; have f0 := b0.frozen; have f1 := b1.frozen
  rw [Nat.add_zero] at c0 f0
  rw [← hW1, ← hp]
  have HP := Lib.hid hp
  have HC1 : Hid (∀ w', Below W1.heap.size W1 w' → Calls Try.prog 50 #[.pointer oa] w' fun e w2 => ∃ o, e = .returned (.pointer o) ∧ Hid (Tq Ea (.pointer o) la w2 ∧ ∀ t, o = some ⟨t, 0, none⟩ → W1.heap.size ≤ t ∧ t < w2.heap.size) ∧ Below w'.heap.size w' w2) := fun w' hb => by
    refine (tq_copy9 (hA1.below hb) (fun k hk => HUA.out k (by have := hb.size; omega))).mono ?_
    rintro e w2 ⟨o, rfl, h1, h2⟩
    exact ⟨o, rfl, ⟨h1.out.1, fun t e => ⟨by have := (h1.out.2 t e).1; have := hb.size; omega, (h1.out.2 t e).2⟩⟩, h2⟩
  have HC2 : Hid (∀ w', Below W1.heap.size W1 w' → Calls Try.prog 50 #[.pointer ob] w' fun e w2 => ∃ o, e = .returned (.pointer o) ∧ Hid (Tq Eb (.pointer o) lb w2 ∧ ∀ t, o = some ⟨t, 0, none⟩ → W1.heap.size ≤ t ∧ t < w2.heap.size) ∧ Below w'.heap.size w' w2) := fun w' hb => by
    refine (tq_copy9 (hA2.below hb) (fun k hk => HUB.out k (by have := hb.size; omega))).mono ?_
    rintro e w2 ⟨o, rfl, h1, h2⟩
    exact ⟨o, rfl, ⟨h1.out.1, fun t e => ⟨by have := (h1.out.2 t e).1; have := hb.size; omega, (h1.out.2 t e).2⟩⟩, h2⟩
  clear hW1 hp
  refine wpIn_mono (Q := fun ex a wx => ex = .normal ∧ ∃ o1 o2 x16 x17 x18 x19, a = { tmps := #[.pointer oa, .pointer ob, .func (.func 28) #[] #[], .pointer (some ⟨p, 0, none⟩), .pointer (some ⟨p + 1, 0, none⟩), .pointer (some ⟨p + 2, 0, none⟩), .pointer (some ⟨p + 3, 0, none⟩), .pointer (some ⟨p + 4, 0, none⟩), .pointer (some ⟨p + 5, 0, none⟩), undef, undef, undef, undef, undef, undef, undef, x16, x17, x18, x19, undef, undef, undef, undef, undef, undef, undef, undef, undef, undef, undef, undef, undef, undef, undef, undef, undef, undef, undef, undef, undef, undef, undef, undef, undef, undef, undef, undef, undef, undef, undef, undef, undef, undef, undef, undef, undef, undef, undef, undef, undef, undef, undef, undef, undef, undef, undef, undef, undef, undef], defers := [] } ∧ Hid (Rg p Ea Eb la lb W1 o1 o2 wx)) ?_ ?_
  · refine (wpIn_wide (n := 9)).2 ?_
    have T1 := Lib.hid True.intro
    go_region_with (first
      | (go_at_call 50; clear T1; refine (HC1.out _ (below_dr8 W1)).mono ?_; rintro e w2 ⟨o1, rfl, HO1, hb2⟩; have hbw := (below_dr8 W1).trans (hb2.mono (Nat.le_refl _)); have d1 := (boxed_at b1 (hbw.block _ b1.lt)).cell; have d0 := (boxed_at b0 (hbw.block _ b0.lt)).cell)
      | (go_at_call 50; refine (HC2.out w2 hbw).mono ?_; rintro e w3 ⟨o2, rfl, HO2, hb3⟩; have hbx := hbw.trans (hb3.mono hbw.size); have e0 := boxed_at b0 (hbx.block _ b0.lt); have e1 := boxed_at b1 (hbx.block _ b1.lt); have k0 := e0.cell; have k1 := e1.cell; have g0 := e0.frozen; have g1 := e1.frozen; rw [Nat.add_zero] at k0 g0))
    all_goals
      refine ⟨rfl, o1, o2, _, _, _, _, rfl, ?_⟩
      exact rg9 e0 e1 (HO1.out.1.below hb3) HO2.out.1 (fun t e => ⟨by have := (HO1.out.2 t e).1; omega, Nat.lt_of_lt_of_le (HO1.out.2 t e).2 hb3.size⟩) (fun t e => ⟨by have := (HO2.out.2 t e).1; omega, (HO2.out.2 t e).2⟩) hbx HUA.out HUB.out
  · rintro ex1 act W2 ⟨rfl, o1, o2, x16, x17, x18, x19, rfl, HRG⟩
    have hg := HRG.out
    have hzg := hg.ho.size
    have hD0 : Df (.func (.func 28) #[] #[]) W p W2.heap.size Ea Eb o1 o2 la lb (fun _ => ⟨none, 0, []⟩) W2 := by
      have hbx : ∀ k, k ≠ p → k ≠ p + 1 → k < W1.heap.size → W2.heap[k]? = W1.heap[k]? := fun k h1 h2 h3 => hg.ho.block k h3 (fun e => by omega)
      have h3 := boxed_at b3 (hbx (p + 3) (by omega) (by omega) (by omega))
      have h4 := boxed_at b4 (hbx (p + 4) (by omega) (by omega) (by omega))
      have h5 := boxed_at b5 (hbx (p + 5) (by omega) (by omega) (by omega))
      refine ⟨hg.b0, hg.b1, boxed_at b2 (hbx (p + 2) (by omega) (by omega) (by omega)), ⟨fun i hi => ?_, fun i _ => World.ownsRow_nil _ _ _ _, fun i j k _ _ _ e => (by cases e), Nat.le_refl _, by omega⟩, hg.ta, hg.tb, hg.oa, hg.ob, below_ge9 hB1 hg.ho (fun k hk => by omega) (by omega), HUA.out, HUB.out⟩
      have : i = 0 ∨ i = 1 ∨ i = 2 := by omega
      rcases this with rfl | rfl | rfl
      · exact h3
      · exact h4
      · exact h5
    obtain ⟨N, hN⟩ : ∃ N, N = W2.heap.size := ⟨_, rfl⟩
    rw [← hN] at hD0
    have HFR := Lib.hid (tq_from9 (k := []) hg.ta (fun k hk => HUA.out k (by omega)))
    rw [from_nil9] at HFR
    have c0 := hD0.b0.cell
    have HP2 : Hid (p + 6 ≤ N) := hD0.d.pN
    have HN2 := Lib.hid hN
    clear HC1 HC2 hA1 hA2 hEa hEb b0 b1 b2 b3 b4 b5 c1 f0 f1 ha hb HRG hg hB1 hs1 hzg
    gi_wp2_with fail
    refine ⟨trivial, (callsIn_wide.2 HFR.out).mono ?_⟩
    rintro e W3 ⟨g, lb1, D, rfl, HS, hb3⟩
    obtain ⟨hen, hDD, hsq⟩ := HS.out
    have hD3 := (hD0.below hb3).1
    have hz3 := hb3.size
    clear HFR HS
    gi_wp2_with fail
    rw [← HN2.out] at hb3
    refine rangeX (n := 9) (w := W3) (α := Tm.E) (enc := en9) (L := la) (D := D) (w0 := W3) (fun t x => (((t.setIfInBounds 22 (.string (bstr x.1))).setIfInBounds 23 (.int .i64 x.2)).setIfInBounds 9 (.string (bstr x.1))).setIfInBounds 10 (.int .i64 x.2)) (cod p N) (gf := g) (lb := lb1) (by omega) rfl hen hsq (Below.refl _ _) ?_ (fun _ => rfl)
      (fun pre X => ∃ r, Df (.func (.func 28) #[] #[]) W p N Ea Eb o1 o2 la lb r X ∧ (r 0).ks = kof (fG lb) pre ∧ (r 1).ks = [] ∧ (r 2).ks = kof (fC lb) pre)
      (fun _ _ _ => False) (fun _ X h => by obtain ⟨r, h, -⟩ := h; exact h.d.co) (fun _ _ X h => h.elim) ?hI ?hIx ?h0 ?assign ?body ?done ?stop
    case hI =>
      rintro s X Y ⟨r, q1, q2⟩ ho
      exact ⟨r, q1.keep (only_w ho (fun k hk => ⟨by omega, hk.2⟩)), q2⟩
    case hIx => intro cd s X Y h; exact h.elim
    case h0 => exact ⟨_, hD3, rfl, rfl, rfl⟩
    case assign =>
      intro l x wx K hK
      simp only [en9]
      simp only [List.setIfInBounds_toArray, List.set_cons_succ, List.set_cons_zero] at hK
      gi_wp2
      exact hK
    case body =>
      rintro l pre x X hl hlX hnl ⟨r, hd, r0, r1, r2⟩ hpre
      have hjn : pre.length < 60 := by
        obtain ⟨t, rfl⟩ := hpre
        simp at hla; omega
      have HLN : Hid (∀ i, i < 3 → (r i).ks.length ≤ 60) := fun i hi => by
        have : i = 0 ∨ i = 1 ∨ i = 2 := by omega
        rcases this with rfl | rfl | rfl
        · rw [r0]; exact Nat.le_trans (kof_len _ _) (by omega)
        · rw [r1]; simp
        · rw [r2]; exact Nat.le_trans (kof_len _ _) (by omega)
      obtain ⟨S, hS⟩ : ∃ S, S = bstr x.1 := ⟨_, rfl⟩
      obtain ⟨i, hi⟩ : ∃ i, i = x.2 := ⟨_, rfl⟩
      obtain ⟨gi, hgi⟩ : ∃ gi, gi = (Tm.get lb x.1).1 := ⟨_, rfl⟩
      obtain ⟨gb, hgb⟩ : ∃ gb, gb = (Tm.get lb x.1).2 := ⟨_, rfl⟩
      have HGT := Lib.hid (tq_get9 (k := x.1) hd.tb)
      rw [← hS, ← hgi, ← hgb] at HGT
      rw [← hS, ← hi]
      have HXB : Hid (.string S = Value.string (bstr x.1)) := by show _ = _; rw [hS]
      have HST : Hid (∀ z, Below X.heap.size X z → Df (.func (.func 28) #[] #[]) W p N Ea Eb o1 o2 la lb r z ∧ (cod p N).kb X z) := fun z hb => hd.below hb
      have HSRC : Hid (∀ wz : World, Src Try.prog 1 22 (.slice (some ⟨wz.heap.size, 0, none⟩) 1 1) 1 [.string S] (wz.alloc (.cells #[.string S] 9))) := fun wz =>
        Src.ofSlice _ Try.underlying22 ⟨wz.heap.size, 0, none⟩ 1 1 [.string S] rfl (fun i u hu => by
          rw [add_p9, Lib.cell_of_heap (heap_alloc_new wz _), Nat.zero_add, ← Array.getElem?_toList]
          exact hu) (by simp [Value.oneCell'])
      have HKG : Hid (kof (fG lb) (pre ++ [x]) = kof (fG lb) pre ++ (if gb then [] else [x.1])) := by
        show _ = _
        rw [kof_add]
        congr 1
        unfold kof fG
        rw [hgb]
        cases hh : (Tm.get lb x.1).2 <;> simp [hh]
      have HKC : Hid (kof (fC lb) (pre ++ [x]) = kof (fC lb) pre ++ (if gb && !(i == gi) then [x.1] else [])) := by
        show _ = _
        rw [kof_add]
        congr 1
        unfold kof fC
        rw [hgb, hgi, hi, show (x.2 == (Tm.get lb x.1).1) = ((Tm.get lb x.1).1 == x.2) from Bool.beq_comm ..]
        cases hh : (Tm.get lb x.1).2 <;> cases hq : ((Tm.get lb x.1).1 == x.2) <;> simp [hh, hq]
      have HR0 := Lib.hid r0; have HR1 := Lib.hid r1; have HR2 := Lib.hid r2
      have c1 := hd.b1.cell
      clear hd hsq hen hDD hb3 hD3 hD0 hpre hl hlX hnl r0 r1 r2 hS hi hgi hgb hla hlb c0 hz3 hN
      simp only [List.setIfInBounds_toArray, List.set_cons_succ, List.set_cons_zero]
      gi_wp2_with fail
      refine ⟨trivial, (CallsIn.inRound l (callsIn_wide.2 HGT.out)).mono ?_⟩
      rintro e z ⟨rfl, hbz⟩
      obtain ⟨hdz, kbz⟩ := HST.out z hbz
      have HDZ := Lib.hid hdz; have HKZ := Lib.hid kbz
      have c2 := hdz.b2.cell
      have c3 := (hdz.d.bo 0 (by decide)).cell
      have f3 := (hdz.d.bo 0 (by decide)).frozen
      have c5 := (hdz.d.bo 2 (by decide)).cell
      have f5 := (hdz.d.bo 2 (by decide)).frozen
      clear HGT HST hbz hdz kbz c1
      cases gb with
      | false =>
        rw [Nat.add_zero] at c3 f3
        gi_wp2_with (gi_at_builtin; refine wpListIn_append_at _ rfl _ _ 22 rfl N 9 i0 (.string ⟨#[]⟩) 1 16 Try.underlying22 hi0 hz0 hz1 hz2 rfl _ (r 0).ks.length (sk (r 0).ks) rfl ((HDZ.out.d.ow 0 (by decide)).alloc _) _ 1 [.string S] rfl (HSRC.out _) (by have := HLN.out 0 (by decide); unfold maxLen; omega) (by have := HLN.out 0 (by decide); omega) (by have := HDZ.out.d.sz; simp; omega) ?_; intro v' w3 hown' hg3 hw3
                     obtain ⟨g', cap', rfl⟩ := ownsRow_succ hown'
                     obtain ⟨k1, k2, k3, k4⟩ := HDZ.out.d.push (i := 0) (x := x.1) (by decide) (by rw [HXB.out] at hown'; exact hown') hg3 hw3
                     have c4 := k1.cell
                     have f4 := k1.frozen
                     rw [Nat.add_zero] at c4 f4
                     have HK2 := Lib.hid k2; have HK3 := Lib.hid k3; have HK4 := Lib.hid k4
                     clear hw3 hown' hg3 k1 k2 k3 k4
                     go_frame)
        refine ⟨Co.kb_trans HKZ.out HK3.out, upd r 0 _, HDZ.out.step HK2.out (only_w HK4.out (fun k hk => by omega)), ?_, ?_, ?_⟩
        · show (r 0).ks ++ [x.1] = _
          rw [HKG.out, HR0.out]; rfl
        · exact HR1.out
        · show (r 2).ks = _
          rw [HKC.out, HR2.out]; simp
      | true =>
        have hnf : ∀ w, (binOp .neq 62 (.func (.func 28) #[] #[]) .nilFunc).run Try.prog w = .ok (.bool true) w := fun w => rfl
        rw [show p + 3 + 2 = p + 5 from rfl] at c5 f5
        by_cases hx : i = gi
        case pos =>
          have HSM : Hid (Calls Try.prog 28 #[.int .i64 i, .int .i64 gi] z fun e w' => e = .returned (.bool true) ∧ z = w') := by
            refine diffs_same.mono ?_
            rintro e w' ⟨rfl, rfl⟩
            exact ⟨by rw [hx, beq_self_eq_true], rfl⟩
          have HKC2 : Hid (kof (fC lb) (pre ++ [x]) = kof (fC lb) pre) := by
            show _ = _
            rw [HKC.out, hx]
            simp
          have HKG2 : Hid (kof (fG lb) (pre ++ [x]) = kof (fG lb) pre) := by
            show _ = _
            rw [HKG.out]
            simp
          clear hx HKC HKG
          gi_wp2_with fail
          refine ⟨trivial, (CallsIn.inRound l (callsIn_wide.2 HSM.out)).mono ?_⟩
          rintro e z2 ⟨rfl, rfl⟩
          gi_wp2
          refine ⟨HKZ.out, r, HDZ.out, ?_, HR1.out, ?_⟩
          · rw [HKG2.out]; exact HR0.out
          · rw [HKC2.out]; exact HR2.out
        case neg =>
          have HSM : Hid (Calls Try.prog 28 #[.int .i64 i, .int .i64 gi] z fun e w' => e = .returned (.bool false) ∧ z = w') := by
            refine diffs_same.mono ?_
            rintro e w' ⟨rfl, rfl⟩
            exact ⟨by rw [show (i == gi) = false by simpa using hx], rfl⟩
          have HKC2 : Hid (kof (fC lb) (pre ++ [x]) = kof (fC lb) pre ++ [x.1]) := by
            show _ = _
            rw [HKC.out, show (i == gi) = false by simpa using hx]
            simp
          have HKG2 : Hid (kof (fG lb) (pre ++ [x]) = kof (fG lb) pre) := by
            show _ = _
            rw [HKG.out]
            simp
          clear hx HKC HKG
          gi_wp2_with fail
          refine ⟨trivial, (CallsIn.inRound l (callsIn_wide.2 HSM.out)).mono ?_⟩
          rintro e z2 ⟨rfl, rfl⟩
          gi_wp2_with (gi_at_builtin; refine wpListIn_append_at _ rfl _ _ 22 rfl N 9 i0 (.string ⟨#[]⟩) 1 16 Try.underlying22 hi0 hz0 hz1 hz2 rfl _ (r 2).ks.length (sk (r 2).ks) rfl ((HDZ.out.d.ow 2 (by decide)).alloc _) _ 1 [.string S] rfl (HSRC.out _) (by have := HLN.out 2 (by decide); unfold maxLen; omega) (by have := HLN.out 2 (by decide); omega) (by have := HDZ.out.d.sz; simp; omega) ?_; intro v' w3 hown' hg3 hw3
                       obtain ⟨g', cap', rfl⟩ := ownsRow_succ hown'
                       obtain ⟨k1, k2, k3, k4⟩ := HDZ.out.d.push (i := 2) (x := x.1) (by decide) (by rw [HXB.out] at hown'; exact hown') hg3 hw3
                       have c4 := k1.cell
                       have f4 := k1.frozen
                       rw [show p + 3 + 2 = p + 5 from rfl] at c4 f4
                       have HK2 := Lib.hid k2; have HK3 := Lib.hid k3; have HK4 := Lib.hid k4
                       clear hw3 hown' hg3 k1 k2 k3 k4
                       go_frame)
          refine ⟨Co.kb_trans HKZ.out HK3.out, upd r 2 _, HDZ.out.step HK2.out (only_w HK4.out (fun k hk => by omega)), ?_, ?_, ?_⟩
          · show (r 0).ks = _
            rw [HKG2.out]; exact HR0.out
          · exact HR1.out
          · show (r 2).ks ++ [x.1] = _
            rw [HKC2.out, HR2.out]
    case done =>
      rintro Dn X hDn ⟨r, hd, r0, r1, r2⟩ hK hnD
      have HFR2 := Lib.hid (tq_from9 (k := []) hd.tb (fun k hk => HUB.out k (by have := hd.d.sz; have := HP2.out; omega)))
      rw [from_nil9] at HFR2
      have c1 := hd.b1.cell
      have HK := Lib.hid hK; have HNO := Lib.hid hnD; have HDD := Lib.hid hd
      have HDN : Hid (N ≤ Dn) := by show _ ≤ _; omega
      have HR0 := Lib.hid r0; have HR1 := Lib.hid r1; have HR2 := Lib.hid r2
      clear hsq hen hDD hb3 hD3 hD0 r0 r1 r2 hK hnD hd hDn c0 hz3 hN
      gi_wp2_with fail
      refine ⟨trivial, (callsIn_wide.2 HFR2.out).mono ?_⟩
      rintro e W4 ⟨g2, lb2, D2, rfl, HS2, hb4⟩
      obtain ⟨hen2, hDD2, hsq2⟩ := HS2.out
      obtain ⟨hd4, kb4⟩ := HDD.out.below hb4
      have hK4 : W4.heap[Dn]? = some (.deferred (some [])) := (hb4.block Dn (heap_lt HK.out)).trans HK.out
      have hnD4 : ¬ (cod p N).O W4 Dn := fun h => by
        rcases kb4.2 Dn h with h | h
        · exact HNO.out h
        · have := heap_lt HK.out; omega
      have hz4 : N ≤ W4.heap.size := hd4.d.sz
      have hK4' := hK4
      clear HFR2 HS2 c1 hb4 kb4 HK HNO HDD
      gi_wp2_with fail
      refine rangeX (n := 9) (w := W4) (α := Tm.E) (enc := en9) (L := lb) (D := D2) (w0 := W4) (fun t x => ((t.setIfInBounds 53 (.string (bstr x.1))).setIfInBounds 54 (.int .i64 x.2)).setIfInBounds 13 (.string (bstr x.1))) (cod p N) (gf := g2) (lb := lb2) (by omega) rfl hen2 hsq2 (Below.refl _ _) ?_ (fun _ => rfl)
        (fun pre X => ∃ r, Df (.func (.func 28) #[] #[]) W p N Ea Eb o1 o2 la lb r X ∧ (r 0).ks = kof (fG lb) la ∧ (r 1).ks = kof (fG la) pre ∧ (r 2).ks = kof (fC lb) la ∧ X.heap[Dn]? = some (.deferred (some [])) ∧ ¬ (cod p N).O X Dn)
        (fun _ _ _ => False) (fun _ X h => by obtain ⟨r, h, -⟩ := h; exact h.d.co) (fun _ _ X h => h.elim) ?hI2 ?hIx2 ?h02 ?assign2 ?body2 ?done2 ?stop2
      case hI2 =>
        rintro s X Y ⟨r, q1, q2, q3, q4, q5, q6⟩ ho
        have := heap_lt hK4
        have hsm := (cod p N).same q1.d.co ho (fun k hk => hk.2)
        exact ⟨r, q1.keep (only_w ho (fun k hk => ⟨by omega, hk.2⟩)), q2, q3, q4, (ho.block Dn (heap_lt q5) (fun e => by omega)).trans q5, fun h => q6 ((hsm.2 Dn).1 h)⟩
      case hIx2 => intro cd s X Y h; exact h.elim
      case h02 => exact ⟨r, hd4, HR0.out, HR1.out, HR2.out, hK4, hnD4⟩
      case assign2 =>
        intro l x wx K hK
        simp only [en9]
        simp only [List.setIfInBounds_toArray, List.set_cons_succ, List.set_cons_zero] at hK
        gi_wp2
        exact hK
      case body2 =>
        clear hd4 HR0 HR1 HR2 hK4 hnD4
        clear r
        rintro l pre x X hl hlX hnl ⟨r, hd, r0, r1, r2, hKX, hnX⟩ hpre
        have hjn : pre.length < 60 := by
          obtain ⟨t, rfl⟩ := hpre
          simp at hlb; omega
        have HLN : Hid (∀ i, i < 3 → (r i).ks.length ≤ 60) := fun i hi => by
          have : i = 0 ∨ i = 1 ∨ i = 2 := by omega
          rcases this with rfl | rfl | rfl
          · rw [r0]; exact Nat.le_trans (kof_len _ _) (by omega)
          · rw [r1]; exact Nat.le_trans (kof_len _ _) (by omega)
          · rw [r2]; exact Nat.le_trans (kof_len _ _) (by omega)
        obtain ⟨S, hS⟩ : ∃ S, S = bstr x.1 := ⟨_, rfl⟩
        obtain ⟨i, hi⟩ : ∃ i, i = x.2 := ⟨_, rfl⟩
        obtain ⟨gi, hgi⟩ : ∃ gi, gi = (Tm.get la x.1).1 := ⟨_, rfl⟩
        obtain ⟨gb, hgb⟩ : ∃ gb, gb = (Tm.get la x.1).2 := ⟨_, rfl⟩
        have HGT := Lib.hid (tq_get9 (k := x.1) hd.ta)
        rw [← hS, ← hgi, ← hgb] at HGT
        rw [← hS, ← hi]
        have HXB : Hid (.string S = Value.string (bstr x.1)) := by show _ = _; rw [hS]
        have HST : Hid (∀ z, Below X.heap.size X z → Df (.func (.func 28) #[] #[]) W p N Ea Eb o1 o2 la lb r z ∧ (cod p N).kb X z) := fun z hb => hd.below hb
        have HDK : Hid (∀ z, (cod p N).kb X z → z.heap[Dn]? = some (.deferred (some [])) ∧ ¬ (cod p N).O z Dn) := fun z hk => ⟨(hk.1.block Dn (heap_lt hKX) hnX).trans hKX, fun h => by
          rcases hk.2 Dn h with h | h
          · exact hnX h
          · have := heap_lt hKX; omega⟩
        have HSRC : Hid (∀ wz : World, Src Try.prog 1 22 (.slice (some ⟨wz.heap.size, 0, none⟩) 1 1) 1 [.string S] (wz.alloc (.cells #[.string S] 9))) := fun wz =>
          Src.ofSlice _ Try.underlying22 ⟨wz.heap.size, 0, none⟩ 1 1 [.string S] rfl (fun i u hu => by
            rw [add_p9, Lib.cell_of_heap (heap_alloc_new wz _), Nat.zero_add, ← Array.getElem?_toList]
            exact hu) (by simp [Value.oneCell'])
        have HKG : Hid (kof (fG la) (pre ++ [x]) = kof (fG la) pre ++ (if gb then [] else [x.1])) := by
          show _ = _
          rw [kof_add]
          congr 1
          unfold kof fG
          rw [hgb]
          cases hh : (Tm.get la x.1).2 <;> simp [hh]
        have HR0 := Lib.hid r0; have HR1 := Lib.hid r1; have HR2 := Lib.hid r2
        have c0 := hd.b0.cell
        clear hd hsq2 hen2 hDD2 hpre hl hlX hnl r0 r1 r2 hS hi hgi hgb hla hlb hz4 hKX hnX
        simp only [List.setIfInBounds_toArray, List.set_cons_succ, List.set_cons_zero]
        gi_wp2_with fail
        refine ⟨trivial, (CallsIn.inRound l (callsIn_wide.2 HGT.out)).mono ?_⟩
        rintro e z ⟨rfl, hbz⟩
        obtain ⟨hdz, kbz⟩ := HST.out z hbz
        have HDZ := Lib.hid hdz; have HKZ := Lib.hid kbz
        have c3 := (hdz.d.bo 1 (by decide)).cell
        have f3 := (hdz.d.bo 1 (by decide)).frozen
        rw [show p + 3 + 1 = p + 4 from rfl] at c3 f3
        clear HGT HST hbz hdz kbz c0
        cases gb with
        | false =>
          gi_wp2_with (gi_at_builtin; refine wpListIn_append_at _ rfl _ _ 22 rfl N 9 i0 (.string ⟨#[]⟩) 1 16 Try.underlying22 hi0 hz0 hz1 hz2 rfl _ (r 1).ks.length (sk (r 1).ks) rfl ((HDZ.out.d.ow 1 (by decide)).alloc _) _ 1 [.string S] rfl (HSRC.out _) (by have := HLN.out 1 (by decide); unfold maxLen; omega) (by have := HLN.out 1 (by decide); omega) (by have := HDZ.out.d.sz; simp; omega) ?_; intro v' w3 hown' hg3 hw3
                       obtain ⟨g', cap', rfl⟩ := ownsRow_succ hown'
                       obtain ⟨k1, k2, k3, k4⟩ := HDZ.out.d.push (i := 1) (x := x.1) (by decide) (by rw [HXB.out] at hown'; exact hown') hg3 hw3
                       have c4 := k1.cell
                       have f4 := k1.frozen
                       rw [show p + 3 + 1 = p + 4 from rfl] at c4 f4
                       have HK2 := Lib.hid k2; have HK3 := Lib.hid k3; have HK4 := Lib.hid k4
                       clear hw3 hown' hg3 k1 k2 k3 k4
                       go_frame)
          have hkb := Co.kb_trans HKZ.out HK3.out
          refine ⟨hkb, upd r 1 _, HDZ.out.step HK2.out (only_w HK4.out (fun k hk => by omega)), HR0.out, ?_, HR2.out, HDK.out _ hkb⟩
          show (r 1).ks ++ [x.1] = _
          rw [HKG.out, HR1.out]; rfl
        | true =>
          have HKG2 : Hid (kof (fG la) (pre ++ [x]) = kof (fG la) pre) := by
            show _ = _
            rw [HKG.out]
            simp
          clear HKG
          gi_wp2
          refine ⟨HKZ.out, r, HDZ.out, HR0.out, ?_, HR2.out, HDK.out _ HKZ.out⟩
          rw [HKG2.out]; exact HR1.out
      case done2 =>
        clear hd4 HR0 HR1 HR2 hK4 hnD4
        clear r
        rintro Dm X hDm ⟨r, hd, r0, r1, r2, hKX, hnX⟩ hK hnD
        have q0 := hd.d.bo 0 (by decide); have q1 := hd.d.bo 1 (by decide); have q2 := hd.d.bo 2 (by decide)
        rw [Nat.add_zero] at q0
        rw [show p + 3 + 1 = p + 4 from rfl] at q1
        rw [show p + 3 + 2 = p + 5 from rfl] at q2
        have c0 := q0.cell; have c1 := q1.cell; have c2 := q2.cell
        have f0 := q0.frozen; have f1 := q1.frozen; have f2 := q2.frozen
        have HQ : Hid (Df (.func (.func 28) #[] #[]) W p N Ea Eb o1 o2 la lb r X ∧ (r 0).ks = kof (fG lb) la ∧ (r 1).ks = kof (fG la) lb ∧ (r 2).ks = kof (fC lb) la ∧ X.heap[Dn]? = some (.deferred (some [])) ∧ X.heap[Dm]? = some (.deferred (some [])) ∧ Dn ≠ Dm ∧ N ≤ Dm) := ⟨hd, r0, r1, r2, hKX, hK, by have := heap_lt hK4'; omega, by omega⟩
        clear hsq2 hen2 hDD2 hla hlb hz4 hKX hnX hd hK hnD r0 r1 r2 q0 q1 q2 hDm
        gi_wp2_with fail
        refine (wpIn_wide (n := 9)).2 ?_
        go_region
        obtain ⟨X2, hX2⟩ : ∃ X2, X2 = ((X.setCell ⟨p + 3, 0, none⟩ (.slice (r 0).a (r 0).ks.length (r 0).c)).setCell ⟨p + 4, 0, none⟩ (.slice (r 1).a (r 1).ks.length (r 1).c)).setCell ⟨p + 5, 0, none⟩ (.slice (r 2).a (r 2).ks.length (r 2).c) := ⟨_, rfl⟩
        rw [← hX2]
        have hq := HQ.out.1
        have oX : Only (fun k => p + 3 ≤ k ∧ k < p + 6) X X2 := by
          rw [hX2]
          exact Only.setCell (p := fun k => p + 3 ≤ k ∧ k < p + 6) (q := ⟨p + 5, 0, none⟩) (Only.setCell (p := fun k => p + 3 ≤ k ∧ k < p + 6) (q := ⟨p + 4, 0, none⟩) (Only.setCell (p := fun k => p + 3 ≤ k ∧ k < p + 6) (q := ⟨p + 3, 0, none⟩) (Only.refl _ _) (.inl ⟨Nat.le_refl (p + 3), by show p + 3 < p + 6; omega⟩) _) (.inl ⟨by show p + 3 ≤ p + 4; omega, by show p + 4 < p + 6; omega⟩) _) (.inl ⟨by show p + 3 ≤ p + 5; omega, by show p + 5 < p + 6; omega⟩) _
        have t0 : Boxed X2 (p + 3) 22 (.slice (r 0).a (r 0).ks.length (r 0).c) := by
          rw [hX2]
          exact boxed_at (boxed_at ((hq.d.bo 0 (by decide)).set _) (Below.heap_setCell _ _ _ _ (by show p + 3 ≠ p + 4; omega))) (Below.heap_setCell _ _ _ _ (by show p + 3 ≠ p + 5; omega))
        have t1 : Boxed X2 (p + 4) 22 (.slice (r 1).a (r 1).ks.length (r 1).c) := by
          have u : Boxed (X.setCell ⟨p + 3, 0, none⟩ (.slice (r 0).a (r 0).ks.length (r 0).c)) (p + 4) 22 (.slice (r 1).a (r 1).ks.length (r 1).c) := boxed_at (hq.d.bo 1 (by decide)) (Below.heap_setCell _ _ _ _ (by show p + 4 ≠ p + 3; omega))
          rw [hX2]
          exact boxed_at (u.set _) (Below.heap_setCell _ _ _ _ (by show p + 4 ≠ p + 5; omega))
        have t2 : Boxed X2 (p + 5) 22 (.slice (r 2).a (r 2).ks.length (r 2).c) := by
          have u : Boxed (X.setCell ⟨p + 3, 0, none⟩ (.slice (r 0).a (r 0).ks.length (r 0).c)) (p + 5) 22 (.slice (r 2).a (r 2).ks.length (r 2).c) := boxed_at (hq.d.bo 2 (by decide)) (Below.heap_setCell _ _ _ _ (by show p + 5 ≠ p + 3; omega))
          have u2 : Boxed ((X.setCell ⟨p + 3, 0, none⟩ (.slice (r 0).a (r 0).ks.length (r 0).c)).setCell ⟨p + 4, 0, none⟩ (.slice (r 1).a (r 1).ks.length (r 1).c)) (p + 5) 22 (.slice (r 2).a (r 2).ks.length (r 2).c) := boxed_at u (Below.heap_setCell _ _ _ _ (by show p + 5 ≠ p + 4; omega))
          rw [hX2]
          exact u2.set _
        have HT := Lib.hid (And.intro oX (And.intro t0 (And.intro t1 t2)))
        clear oX t0 t1 t2 hq hX2 c0 c1 c2 f0 f1 f2
        obtain ⟨W5, hW5⟩ : ∃ W5, W5 = X2.drew.putObj Dm (.deferred none) := ⟨_, rfl⟩
        obtain ⟨W6, hW6⟩ : ∃ W6, W6 = W5.putObj Dn (.deferred none) := ⟨_, rfl⟩
        have HE : Hid (X2.drew.heap[Dm]? = some (.deferred (some [])) ∧ W5.heap[Dn]? = some (.deferred (some [])) ∧ (W6.cell? ⟨p + 3, 0, none⟩ = some (.slice (r 0).a (r 0).ks.length (r 0).c) ∧ W6.cell? ⟨p + 4, 0, none⟩ = some (.slice (r 1).a (r 1).ks.length (r 1).c) ∧ W6.cell? ⟨p + 5, 0, none⟩ = some (.slice (r 2).a (r 2).ks.length (r 2).c)) ∧
            (Rv (fun k => k < W.heap.size ∨ W6.heap.size ≤ k) (r 0).a (r 0).ks.length (r 0).c (sk (kof (fG lb) la)) W6 ∧ Rv (fun k => k < W.heap.size ∨ W6.heap.size ≤ k) (r 1).a (r 1).ks.length (r 1).c (sk (kof (fG la) lb)) W6 ∧ Rv (fun k => k < W.heap.size ∨ W6.heap.size ≤ k) (r 2).a (r 2).ks.length (r 2).c (sk (kof (fC lb) la)) W6) ∧ Below W.heap.size W W6) := by
          obtain ⟨hq, r0, r1, r2, hDn, hDm, hne, hNm⟩ := HQ.out
          obtain ⟨oX, t0, t1, t2⟩ := HT.out
          have hNn := HDN.out
          have hpN := hq.d.pN
          have d1 : X2.heap[Dm]? = some (.deferred (some [])) := (oX.block Dm (heap_lt hDm) (fun e => by omega)).trans hDm
          have d2 : X2.heap[Dn]? = some (.deferred (some [])) := (oX.block Dn (heap_lt hDn) (fun e => by omega)).trans hDn
          have d3 : W5.heap[Dn]? = some (.deferred (some [])) := by rw [hW5, World.putObj_heap_other hne]; exact d2
          have hh : ∀ k, k ≠ Dm → k ≠ Dn → W6.heap[k]? = X2.heap[k]? := fun k h1 h2 => by
            rw [hW6, World.putObj_heap_other h2, hW5, World.putObj_heap_other h1]
            rfl
          have hrow : ∀ i, i < 3 → W6.ownsRow N 9 1 (.slice (r i).a (r i).ks.length (r i).c) (r i).ks.length (sk (r i).ks) := fun i hi => by
            have h1 : X2.drew.ownsRow N 9 1 (.slice (r i).a (r i).ks.length (r i).c) (r i).ks.length (sk (r i).ks) := own_blk9 (hq.d.ow i hi) (fun k e => oX.block k (row_at9 (hq.d.ow i hi) e).2 (fun e2 => by have := (row_at9 (hq.d.ow i hi) e).1; omega))
            have h2 := ownsRow_putObj h1 (.deferred none) d1 rfl
            rw [← hW5] at h2
            have h3 := ownsRow_putObj h2 (.deferred none) d3 rfl
            rw [← hW6] at h3
            exact h3
          have hWN : W.heap.size ≤ N := by have := HP.out; omega
          have g0 := hrow 0 (by decide); have g1 := hrow 1 (by decide); have g2 := hrow 2 (by decide)
          rw [r0] at g0; rw [r1] at g1; rw [r2] at g2
          rw [r0, r1, r2]
          rw [r0] at t0; rw [r1] at t1; rw [r2] at t2
          refine ⟨d1, d3, ⟨(boxed_at t0 (hh _ (by omega) (by omega))).cell, (boxed_at t1 (hh _ (by omega) (by omega))).cell, (boxed_at t2 (hh _ (by omega) (by omega))).cell⟩, ⟨rv_own9 g0 hWN, rv_own9 g1 hWN, rv_own9 g2 hWN⟩, ?_⟩
          rw [← HP.out]
          have o1 := below_ge9 hq.bel oX (fun k hk => by omega) (by have := hq.d.sz; omega)
          have hs : W6.heap.size = X2.heap.size := by rw [hW6, hW5]; simp
          exact ⟨by rw [← o1.os, hW6, hW5]; rfl, by rw [← o1.tape, hW6, hW5]; rfl, by rw [← o1.output, hW6, hW5]; rfl, by rw [hs]; exact o1.size, fun k hk => (hh k (by omega) (by omega)).trans (o1.block k hk)⟩
        gi_wp2
        refine ⟨by simp, .inl ⟨_, _, rfl, run_takeDeferred HE.out.1, ?_⟩⟩
        rw [← hW5]
        refine ⟨by simp, .inl ⟨_, _, rfl, run_takeDeferred HE.out.2.1, ?_⟩⟩
        rw [← hW6]
        exact ⟨_, results_3t rfl _ _ (p + 3) (p + 4) (p + 5) _ _ _ _ _ _ _ _ _ rfl rfl rfl HE.out.2.2.1.1 HE.out.2.2.1.2.1 HE.out.2.2.1.2.2, _, _, _, _, _, _, _, _, _, rfl, HE.out.2.2.2.1, HE.out.2.2.2.2⟩
      case stop2 =>
        rintro Dm cd pre X hDm hpre h
        exact h.elim
      · intro X k hv hk
        refine hDD2 k (HUB.out k ?_)
        rcases hk with hk | ⟨q, hq, hk⟩
        · exact hk.1
        · have := ((hv.2 q hq).2 k hk).1
          have := HP2.out
          omega
    case stop =>
      rintro Dn cd pre X hDn hpre h
      exact h.elim
    · intro X k hv hk
      refine hDD k (HUA.out k ?_)
      rcases hk with hk | ⟨q, hq, hk⟩
      · exact hk.1
      · have := ((hv.2 q hq).2 k hk).1
        have := HP2.out
        omega
end Go.Proofs.Ytnjmfhdgemigcaa
/- Layer 9: Diff with no function; what is asked of Diff. -/
namespace Go.Proofs.Ytnjmfhdgemigcaa
open Go.RowKit Go.Shelf

attribute [local go_sem] Oper.semAt_some

set_option maxHeartbeats 4000000 in
set_option maxRecDepth 100000 in
theorem wlk_diffn {exa exb : Nat → Prop} {oa ob : Option Addr} {la lb : List Tm.E} {W : World} (ha : Tq exa (.pointer oa) la W) (hb : Tq exb (.pointer ob) lb W) (hl0 : lb = []) (hla : la.length ≤ 60) (hlb : lb.length ≤ 60) :
    Calls Try.prog 27 #[.pointer oa, .pointer ob, .nilFunc] W fun e w' => ∃ x1 m1 d1 x2 m2 d2 x3 m3 d3, e = .returned (.tuple #[.slice x1 m1 d1, .slice x2 m2 d2, .slice x3 m3 d3]) ∧ Hid (Rv (fun k => k < W.heap.size ∨ w'.heap.size ≤ k) x1 m1 d1 (sk (kof (fG lb) la)) w' ∧ Rv (fun k => k < W.heap.size ∨ w'.heap.size ≤ k) x2 m2 d2 (sk (kof (fG la) lb)) w' ∧ Rv (fun k => k < W.heap.size ∨ w'.heap.size ≤ k) x3 m3 d3 (sk (kof (fC lb) la)) w') ∧ Below W.heap.size W w' := by
  obtain ⟨i0, hi0, hz0, hz1, hz2⟩ := info_of8 info9_string
  obtain ⟨p, hp⟩ : ∃ p, p = W.heap.size := ⟨_, rfl⟩
  obtain ⟨W1, hW1⟩ : ∃ W1, W1 = ((((((W.alloc (.cells #[.pointer oa] 24)).alloc (.cells #[.pointer ob] 24)).alloc (.cells #[.nilFunc] 62)).alloc (.cells #[.slice none 0 0] 22)).alloc (.cells #[.slice none 0 0] 22)).alloc (.cells #[.slice none 0 0] 22)) := ⟨_, rfl⟩
  have hs1 : W1.heap.size = p + 6 := by rw [hW1]; simp only [World.size_alloc]; omega
  have hB1 : Below p W W1 := by rw [hW1, hp]; exact ((((((one_b8 W _).alloc (by simp only [World.size_alloc]; omega) _).alloc (by simp only [World.size_alloc]; omega) _).alloc (by simp only [World.size_alloc]; omega) _).alloc (by simp only [World.size_alloc]; omega) _).alloc (by simp only [World.size_alloc]; omega) _)
  have b0 : Boxed W1 (p + 0) 24 (.pointer oa) := by
    have := Boxed.new W 24 (.pointer oa)
    simp only [← hp] at this
    rw [hW1]
    exact (((((this.alloc _).alloc _).alloc _).alloc _).alloc _)
  have b1 : Boxed W1 (p + 1) 24 (.pointer ob) := by
    have := Boxed.new (W.alloc (.cells #[.pointer oa] 24)) 24 (.pointer ob)
    simp only [World.size_alloc, ← hp] at this
    rw [hW1]
    exact ((((this.alloc _).alloc _).alloc _).alloc _)
  have b2 : Boxed W1 (p + 2) 62 (.nilFunc) := by
    have := Boxed.new ((W.alloc (.cells #[.pointer oa] 24)).alloc (.cells #[.pointer ob] 24)) 62 (.nilFunc)
    simp only [World.size_alloc, ← hp] at this
    rw [hW1]
    exact (((this.alloc _).alloc _).alloc _)
  have b3 : Boxed W1 (p + 3) 22 (.slice none 0 0) := by
    have := Boxed.new (((W.alloc (.cells #[.pointer oa] 24)).alloc (.cells #[.pointer ob] 24)).alloc (.cells #[.nilFunc] 62)) 22 (.slice none 0 0)
    simp only [World.size_alloc, ← hp] at this
    rw [hW1]
    exact ((this.alloc _).alloc _)
  have b4 : Boxed W1 (p + 4) 22 (.slice none 0 0) := by
    have := Boxed.new ((((W.alloc (.cells #[.pointer oa] 24)).alloc (.cells #[.pointer ob] 24)).alloc (.cells #[.nilFunc] 62)).alloc (.cells #[.slice none 0 0] 22)) 22 (.slice none 0 0)
    simp only [World.size_alloc, ← hp] at this
    rw [hW1]
    exact (this.alloc _)
  have b5 : Boxed W1 (p + 5) 22 (.slice none 0 0) := by
    have := Boxed.new (((((W.alloc (.cells #[.pointer oa] 24)).alloc (.cells #[.pointer ob] 24)).alloc (.cells #[.nilFunc] 62)).alloc (.cells #[.slice none 0 0] 22)).alloc (.cells #[.slice none 0 0] 22)) 22 (.slice none 0 0)
    simp only [World.size_alloc, ← hp] at this
    rw [hW1]
    exact this
  obtain ⟨Ea, hEa⟩ : ∃ Ea : Nat → Prop, Ea = fun k => exa k ∨ p ≤ k := ⟨_, rfl⟩
  obtain ⟨Eb, hEb⟩ : ∃ Eb : Nat → Prop, Eb = fun k => exb k ∨ p ≤ k := ⟨_, rfl⟩
  have hA1 : Tq Ea (.pointer oa) la W1 := (ha.up (E := Ea) (fun k hk e => by rw [hEa] at e; rcases e with e | e; exact e; omega) (fun k e => by rw [hEa]; exact .inl e)).below (by rw [← hp]; exact hB1)
  have hA2 : Tq Eb (.pointer ob) lb W1 := (hb.up (E := Eb) (fun k hk e => by rw [hEb] at e; rcases e with e | e; exact e; omega) (fun k e => by rw [hEb]; exact .inl e)).below (by rw [← hp]; exact hB1)
  have HUA : Hid (∀ k, p ≤ k → Ea k) := fun k hk => by rw [hEa]; exact .inr hk
  have HUB : Hid (∀ k, p ≤ k → Eb k) := fun k hk => by rw [hEb]; exact .inr hk
  refine (callsIn_wide (n := 9)).1 ?_
  refine callsIn_of_wp_marks Try.func27 rfl trivial ?_ rfl
  simp only [Try.ntmps27, List.size_toArray, List.length_cons, List.length_nil, Nat.reduceAdd, Nat.reduceSub, Array.replicate_succ, Array.replicate_zero, List.push_toArray, List.append_toArray, List.nil_append, List.cons_append]
  gi_wp2_with fail
  have c0 := b0.cell; have c1 := b1.cell; have f0 := b0.frozen; have f1 := b1.frozen
  rw [Nat.add_zero] at c0 f0
  rw [← hW1, ← hp]
  have HP := Lib.hid hp
  have HC1 : Hid (∀ w', Below W1.heap.size W1 w' → Calls Try.prog 50 #[.pointer oa] w' fun e w2 => ∃ o, e = .returned (.pointer o) ∧ Hid (Tq Ea (.pointer o) la w2 ∧ ∀ t, o = some ⟨t, 0, none⟩ → W1.heap.size ≤ t ∧ t < w2.heap.size) ∧ Below w'.heap.size w' w2) := fun w' hb => by
    refine (tq_copy9 (hA1.below hb) (fun k hk => HUA.out k (by have := hb.size; omega))).mono ?_
    rintro e w2 ⟨o, rfl, h1, h2⟩
    exact ⟨o, rfl, ⟨h1.out.1, fun t e => ⟨by have := (h1.out.2 t e).1; have := hb.size; omega, (h1.out.2 t e).2⟩⟩, h2⟩
  have HC2 : Hid (∀ w', Below W1.heap.size W1 w' → Calls Try.prog 50 #[.pointer ob] w' fun e w2 => ∃ o, e = .returned (.pointer o) ∧ Hid (Tq Eb (.pointer o) lb w2 ∧ ∀ t, o = some ⟨t, 0, none⟩ → W1.heap.size ≤ t ∧ t < w2.heap.size) ∧ Below w'.heap.size w' w2) := fun w' hb => by
    refine (tq_copy9 (hA2.below hb) (fun k hk => HUB.out k (by have := hb.size; omega))).mono ?_
    rintro e w2 ⟨o, rfl, h1, h2⟩
    exact ⟨o, rfl, ⟨h1.out.1, fun t e => ⟨by have := (h1.out.2 t e).1; have := hb.size; omega, (h1.out.2 t e).2⟩⟩, h2⟩
  clear hW1 hp
  refine wpIn_mono (Q := fun ex a wx => ex = .normal ∧ ∃ o1 o2 x16 x17 x18 x19, a = { tmps := #[.pointer oa, .pointer ob, .nilFunc, .pointer (some ⟨p, 0, none⟩), .pointer (some ⟨p + 1, 0, none⟩), .pointer (some ⟨p + 2, 0, none⟩), .pointer (some ⟨p + 3, 0, none⟩), .pointer (some ⟨p + 4, 0, none⟩), .pointer (some ⟨p + 5, 0, none⟩), undef, undef, undef, undef, undef, undef, undef, x16, x17, x18, x19, undef, undef, undef, undef, undef, undef, undef, undef, undef, undef, undef, undef, undef, undef, undef, undef, undef, undef, undef, undef, undef, undef, undef, undef, undef, undef, undef, undef, undef, undef, undef, undef, undef, undef, undef, undef, undef, undef, undef, undef, undef, undef, undef, undef, undef, undef, undef, undef, undef, undef], defers := [] } ∧ Hid (Rg p Ea Eb la lb W1 o1 o2 wx)) ?_ ?_
  · refine (wpIn_wide (n := 9)).2 ?_
    have T1 := Lib.hid True.intro
    go_region_with (first
      | (go_at_call 50; clear T1; refine (HC1.out _ (below_dr8 W1)).mono ?_; rintro e w2 ⟨o1, rfl, HO1, hb2⟩; have hbw := (below_dr8 W1).trans (hb2.mono (Nat.le_refl _)); have d1 := (boxed_at b1 (hbw.block _ b1.lt)).cell; have d0 := (boxed_at b0 (hbw.block _ b0.lt)).cell)
      | (go_at_call 50; refine (HC2.out w2 hbw).mono ?_; rintro e w3 ⟨o2, rfl, HO2, hb3⟩; have hbx := hbw.trans (hb3.mono hbw.size); have e0 := boxed_at b0 (hbx.block _ b0.lt); have e1 := boxed_at b1 (hbx.block _ b1.lt); have k0 := e0.cell; have k1 := e1.cell; have g0 := e0.frozen; have g1 := e1.frozen; rw [Nat.add_zero] at k0 g0))
    all_goals
      refine ⟨rfl, o1, o2, _, _, _, _, rfl, ?_⟩
      exact rg9 e0 e1 (HO1.out.1.below hb3) HO2.out.1 (fun t e => ⟨by have := (HO1.out.2 t e).1; omega, Nat.lt_of_lt_of_le (HO1.out.2 t e).2 hb3.size⟩) (fun t e => ⟨by have := (HO2.out.2 t e).1; omega, (HO2.out.2 t e).2⟩) hbx HUA.out HUB.out
  · rintro ex1 act W2 ⟨rfl, o1, o2, x16, x17, x18, x19, rfl, HRG⟩
    have hg := HRG.out
    have hzg := hg.ho.size
    have hD0 : Df (.nilFunc) W p W2.heap.size Ea Eb o1 o2 la lb (fun _ => ⟨none, 0, []⟩) W2 := by
      have hbx : ∀ k, k ≠ p → k ≠ p + 1 → k < W1.heap.size → W2.heap[k]? = W1.heap[k]? := fun k h1 h2 h3 => hg.ho.block k h3 (fun e => by omega)
      have h3 := boxed_at b3 (hbx (p + 3) (by omega) (by omega) (by omega))
      have h4 := boxed_at b4 (hbx (p + 4) (by omega) (by omega) (by omega))
      have h5 := boxed_at b5 (hbx (p + 5) (by omega) (by omega) (by omega))
      refine ⟨hg.b0, hg.b1, boxed_at b2 (hbx (p + 2) (by omega) (by omega) (by omega)), ⟨fun i hi => ?_, fun i _ => World.ownsRow_nil _ _ _ _, fun i j k _ _ _ e => (by cases e), Nat.le_refl _, by omega⟩, hg.ta, hg.tb, hg.oa, hg.ob, below_ge9 hB1 hg.ho (fun k hk => by omega) (by omega), HUA.out, HUB.out⟩
      have : i = 0 ∨ i = 1 ∨ i = 2 := by omega
      rcases this with rfl | rfl | rfl
      · exact h3
      · exact h4
      · exact h5
    obtain ⟨N, hN⟩ : ∃ N, N = W2.heap.size := ⟨_, rfl⟩
    rw [← hN] at hD0
    have HFR := Lib.hid (tq_from9 (k := []) hg.ta (fun k hk => HUA.out k (by omega)))
    rw [from_nil9] at HFR
    have c0 := hD0.b0.cell
    have HP2 : Hid (p + 6 ≤ N) := hD0.d.pN
    have HN2 := Lib.hid hN
    clear HC1 HC2 hA1 hA2 hEa hEb b0 b1 b2 b3 b4 b5 c1 f0 f1 ha hb HRG hg hB1 hs1 hzg
    gi_wp2_with fail
    refine ⟨trivial, (callsIn_wide.2 HFR.out).mono ?_⟩
    rintro e W3 ⟨g, lb1, D, rfl, HS, hb3⟩
    obtain ⟨hen, hDD, hsq⟩ := HS.out
    have hD3 := (hD0.below hb3).1
    have hz3 := hb3.size
    clear HFR HS
    gi_wp2_with fail
    rw [← HN2.out] at hb3
    refine rangeX (n := 9) (w := W3) (α := Tm.E) (enc := en9) (L := la) (D := D) (w0 := W3) (fun t x => (((t.setIfInBounds 22 (.string (bstr x.1))).setIfInBounds 23 (.int .i64 x.2)).setIfInBounds 9 (.string (bstr x.1))).setIfInBounds 10 (.int .i64 x.2)) (cod p N) (gf := g) (lb := lb1) (by omega) rfl hen hsq (Below.refl _ _) ?_ (fun _ => rfl)
      (fun pre X => ∃ r, Df (.nilFunc) W p N Ea Eb o1 o2 la lb r X ∧ (r 0).ks = kof (fG lb) pre ∧ (r 1).ks = [] ∧ (r 2).ks = kof (fC lb) pre)
      (fun _ _ _ => False) (fun _ X h => by obtain ⟨r, h, -⟩ := h; exact h.d.co) (fun _ _ X h => h.elim) ?hI ?hIx ?h0 ?assign ?body ?done ?stop
    case hI =>
      rintro s X Y ⟨r, q1, q2⟩ ho
      exact ⟨r, q1.keep (only_w ho (fun k hk => ⟨by omega, hk.2⟩)), q2⟩
    case hIx => intro cd s X Y h; exact h.elim
    case h0 => exact ⟨_, hD3, rfl, rfl, rfl⟩
    case assign =>
      intro l x wx K hK
      simp only [en9]
      simp only [List.setIfInBounds_toArray, List.set_cons_succ, List.set_cons_zero] at hK
      gi_wp2
      exact hK
    case body =>
      rintro l pre x X hl hlX hnl ⟨r, hd, r0, r1, r2⟩ hpre
      have hjn : pre.length < 60 := by
        obtain ⟨t, rfl⟩ := hpre
        simp at hla; omega
      have HLN : Hid (∀ i, i < 3 → (r i).ks.length ≤ 60) := fun i hi => by
        have : i = 0 ∨ i = 1 ∨ i = 2 := by omega
        rcases this with rfl | rfl | rfl
        · rw [r0]; exact Nat.le_trans (kof_len _ _) (by omega)
        · rw [r1]; simp
        · rw [r2]; exact Nat.le_trans (kof_len _ _) (by omega)
      obtain ⟨S, hS⟩ : ∃ S, S = bstr x.1 := ⟨_, rfl⟩
      obtain ⟨i, hi⟩ : ∃ i, i = x.2 := ⟨_, rfl⟩
      obtain ⟨gi, hgi⟩ : ∃ gi, gi = (Tm.get lb x.1).1 := ⟨_, rfl⟩
      obtain ⟨gb, hgb⟩ : ∃ gb, gb = (Tm.get lb x.1).2 := ⟨_, rfl⟩
      have HGF : Hid (gb = false) := by show _ = _; rw [hgb, hl0]; rfl
      have HGT := Lib.hid (tq_get9 (k := x.1) hd.tb)
      rw [← hS, ← hgi, ← hgb] at HGT
      rw [← hS, ← hi]
      have HXB : Hid (.string S = Value.string (bstr x.1)) := by show _ = _; rw [hS]
      have HST : Hid (∀ z, Below X.heap.size X z → Df (.nilFunc) W p N Ea Eb o1 o2 la lb r z ∧ (cod p N).kb X z) := fun z hb => hd.below hb
      have HSRC : Hid (∀ wz : World, Src Try.prog 1 22 (.slice (some ⟨wz.heap.size, 0, none⟩) 1 1) 1 [.string S] (wz.alloc (.cells #[.string S] 9))) := fun wz =>
        Src.ofSlice _ Try.underlying22 ⟨wz.heap.size, 0, none⟩ 1 1 [.string S] rfl (fun i u hu => by
          rw [add_p9, Lib.cell_of_heap (heap_alloc_new wz _), Nat.zero_add, ← Array.getElem?_toList]
          exact hu) (by simp [Value.oneCell'])
      have HKG : Hid (kof (fG lb) (pre ++ [x]) = kof (fG lb) pre ++ (if gb then [] else [x.1])) := by
        show _ = _
        rw [kof_add]
        congr 1
        unfold kof fG
        rw [hgb]
        cases hh : (Tm.get lb x.1).2 <;> simp [hh]
      have HKC : Hid (kof (fC lb) (pre ++ [x]) = kof (fC lb) pre ++ (if gb && !(i == gi) then [x.1] else [])) := by
        show _ = _
        rw [kof_add]
        congr 1
        unfold kof fC
        rw [hgb, hgi, hi, show (x.2 == (Tm.get lb x.1).1) = ((Tm.get lb x.1).1 == x.2) from Bool.beq_comm ..]
        cases hh : (Tm.get lb x.1).2 <;> cases hq : ((Tm.get lb x.1).1 == x.2) <;> simp [hh, hq]
      have HR0 := Lib.hid r0; have HR1 := Lib.hid r1; have HR2 := Lib.hid r2
      have c1 := hd.b1.cell
      clear hd hsq hen hDD hb3 hD3 hD0 hpre hl hlX hnl r0 r1 r2 hS hi hgi hgb hla hlb c0 hz3 hN
      simp only [List.setIfInBounds_toArray, List.set_cons_succ, List.set_cons_zero]
      gi_wp2_with fail
      refine ⟨trivial, (CallsIn.inRound l (callsIn_wide.2 HGT.out)).mono ?_⟩
      rintro e z ⟨rfl, hbz⟩
      obtain ⟨hdz, kbz⟩ := HST.out z hbz
      have HDZ := Lib.hid hdz; have HKZ := Lib.hid kbz
      have c2 := hdz.b2.cell
      have c3 := (hdz.d.bo 0 (by decide)).cell
      have f3 := (hdz.d.bo 0 (by decide)).frozen
      have c5 := (hdz.d.bo 2 (by decide)).cell
      have f5 := (hdz.d.bo 2 (by decide)).frozen
      clear HGT HST hbz hdz kbz c1
      cases gb with
      | false =>
        rw [Nat.add_zero] at c3 f3
        gi_wp2_with (gi_at_builtin; refine wpListIn_append_at _ rfl _ _ 22 rfl N 9 i0 (.string ⟨#[]⟩) 1 16 Try.underlying22 hi0 hz0 hz1 hz2 rfl _ (r 0).ks.length (sk (r 0).ks) rfl ((HDZ.out.d.ow 0 (by decide)).alloc _) _ 1 [.string S] rfl (HSRC.out _) (by have := HLN.out 0 (by decide); unfold maxLen; omega) (by have := HLN.out 0 (by decide); omega) (by have := HDZ.out.d.sz; simp; omega) ?_; intro v' w3 hown' hg3 hw3
                     obtain ⟨g', cap', rfl⟩ := ownsRow_succ hown'
                     obtain ⟨k1, k2, k3, k4⟩ := HDZ.out.d.push (i := 0) (x := x.1) (by decide) (by rw [HXB.out] at hown'; exact hown') hg3 hw3
                     have c4 := k1.cell
                     have f4 := k1.frozen
                     rw [Nat.add_zero] at c4 f4
                     have HK2 := Lib.hid k2; have HK3 := Lib.hid k3; have HK4 := Lib.hid k4
                     clear hw3 hown' hg3 k1 k2 k3 k4
                     go_frame)
        refine ⟨Co.kb_trans HKZ.out HK3.out, upd r 0 _, HDZ.out.step HK2.out (only_w HK4.out (fun k hk => by omega)), ?_, ?_, ?_⟩
        · show (r 0).ks ++ [x.1] = _
          rw [HKG.out, HR0.out]; rfl
        · exact HR1.out
        · show (r 2).ks = _
          rw [HKC.out, HR2.out]; simp
      | true =>
        exact absurd HGF.out (by simp)
    case done =>
      rintro Dn X hDn ⟨r, hd, r0, r1, r2⟩ hK hnD
      have HFR2 := Lib.hid (tq_from9 (k := []) hd.tb (fun k hk => HUB.out k (by have := hd.d.sz; have := HP2.out; omega)))
      rw [from_nil9] at HFR2
      have c1 := hd.b1.cell
      have HK := Lib.hid hK; have HNO := Lib.hid hnD; have HDD := Lib.hid hd
      have HDN : Hid (N ≤ Dn) := by show _ ≤ _; omega
      have HR0 := Lib.hid r0; have HR1 := Lib.hid r1; have HR2 := Lib.hid r2
      clear hsq hen hDD hb3 hD3 hD0 r0 r1 r2 hK hnD hd hDn c0 hz3 hN
      gi_wp2_with fail
      refine ⟨trivial, (callsIn_wide.2 HFR2.out).mono ?_⟩
      rintro e W4 ⟨g2, lb2, D2, rfl, HS2, hb4⟩
      obtain ⟨hen2, hDD2, hsq2⟩ := HS2.out
      obtain ⟨hd4, kb4⟩ := HDD.out.below hb4
      have hK4 : W4.heap[Dn]? = some (.deferred (some [])) := (hb4.block Dn (heap_lt HK.out)).trans HK.out
      have hnD4 : ¬ (cod p N).O W4 Dn := fun h => by
        rcases kb4.2 Dn h with h | h
        · exact HNO.out h
        · have := heap_lt HK.out; omega
      have hz4 : N ≤ W4.heap.size := hd4.d.sz
      have hK4' := hK4
      clear HFR2 HS2 c1 hb4 kb4 HK HNO HDD
      gi_wp2_with fail
      refine rangeX (n := 9) (w := W4) (α := Tm.E) (enc := en9) (L := lb) (D := D2) (w0 := W4) (fun t x => ((t.setIfInBounds 53 (.string (bstr x.1))).setIfInBounds 54 (.int .i64 x.2)).setIfInBounds 13 (.string (bstr x.1))) (cod p N) (gf := g2) (lb := lb2) (by omega) rfl hen2 hsq2 (Below.refl _ _) ?_ (fun _ => rfl)
        (fun pre X => ∃ r, Df (.nilFunc) W p N Ea Eb o1 o2 la lb r X ∧ (r 0).ks = kof (fG lb) la ∧ (r 1).ks = kof (fG la) pre ∧ (r 2).ks = kof (fC lb) la ∧ X.heap[Dn]? = some (.deferred (some [])) ∧ ¬ (cod p N).O X Dn)
        (fun _ _ _ => False) (fun _ X h => by obtain ⟨r, h, -⟩ := h; exact h.d.co) (fun _ _ X h => h.elim) ?hI2 ?hIx2 ?h02 ?assign2 ?body2 ?done2 ?stop2
      case hI2 =>
        rintro s X Y ⟨r, q1, q2, q3, q4, q5, q6⟩ ho
        have := heap_lt hK4
        have hsm := (cod p N).same q1.d.co ho (fun k hk => hk.2)
        exact ⟨r, q1.keep (only_w ho (fun k hk => ⟨by omega, hk.2⟩)), q2, q3, q4, (ho.block Dn (heap_lt q5) (fun e => by omega)).trans q5, fun h => q6 ((hsm.2 Dn).1 h)⟩
      case hIx2 => intro cd s X Y h; exact h.elim
      case h02 => exact ⟨r, hd4, HR0.out, HR1.out, HR2.out, hK4, hnD4⟩
      case assign2 =>
        intro l x wx K hK
        simp only [en9]
        simp only [List.setIfInBounds_toArray, List.set_cons_succ, List.set_cons_zero] at hK
        gi_wp2
        exact hK
      case body2 =>
        clear hd4 HR0 HR1 HR2 hK4 hnD4
        clear r
        rintro l pre x X hl hlX hnl ⟨r, hd, r0, r1, r2, hKX, hnX⟩ hpre
        have hjn : pre.length < 60 := by
          obtain ⟨t, rfl⟩ := hpre
          simp at hlb; omega
        have HLN : Hid (∀ i, i < 3 → (r i).ks.length ≤ 60) := fun i hi => by
          have : i = 0 ∨ i = 1 ∨ i = 2 := by omega
          rcases this with rfl | rfl | rfl
          · rw [r0]; exact Nat.le_trans (kof_len _ _) (by omega)
          · rw [r1]; exact Nat.le_trans (kof_len _ _) (by omega)
          · rw [r2]; exact Nat.le_trans (kof_len _ _) (by omega)
        obtain ⟨S, hS⟩ : ∃ S, S = bstr x.1 := ⟨_, rfl⟩
        obtain ⟨i, hi⟩ : ∃ i, i = x.2 := ⟨_, rfl⟩
        obtain ⟨gi, hgi⟩ : ∃ gi, gi = (Tm.get la x.1).1 := ⟨_, rfl⟩
        obtain ⟨gb, hgb⟩ : ∃ gb, gb = (Tm.get la x.1).2 := ⟨_, rfl⟩
        have HGT := Lib.hid (tq_get9 (k := x.1) hd.ta)
        rw [← hS, ← hgi, ← hgb] at HGT
        rw [← hS, ← hi]
        have HXB : Hid (.string S = Value.string (bstr x.1)) := by show _ = _; rw [hS]
        have HST : Hid (∀ z, Below X.heap.size X z → Df (.nilFunc) W p N Ea Eb o1 o2 la lb r z ∧ (cod p N).kb X z) := fun z hb => hd.below hb
        have HDK : Hid (∀ z, (cod p N).kb X z → z.heap[Dn]? = some (.deferred (some [])) ∧ ¬ (cod p N).O z Dn) := fun z hk => ⟨(hk.1.block Dn (heap_lt hKX) hnX).trans hKX, fun h => by
          rcases hk.2 Dn h with h | h
          · exact hnX h
          · have := heap_lt hKX; omega⟩
        have HSRC : Hid (∀ wz : World, Src Try.prog 1 22 (.slice (some ⟨wz.heap.size, 0, none⟩) 1 1) 1 [.string S] (wz.alloc (.cells #[.string S] 9))) := fun wz =>
          Src.ofSlice _ Try.underlying22 ⟨wz.heap.size, 0, none⟩ 1 1 [.string S] rfl (fun i u hu => by
            rw [add_p9, Lib.cell_of_heap (heap_alloc_new wz _), Nat.zero_add, ← Array.getElem?_toList]
            exact hu) (by simp [Value.oneCell'])
        have HKG : Hid (kof (fG la) (pre ++ [x]) = kof (fG la) pre ++ (if gb then [] else [x.1])) := by
          show _ = _
          rw [kof_add]
          congr 1
          unfold kof fG
          rw [hgb]
          cases hh : (Tm.get la x.1).2 <;> simp [hh]
        have HR0 := Lib.hid r0; have HR1 := Lib.hid r1; have HR2 := Lib.hid r2
        have c0 := hd.b0.cell
        clear hd hsq2 hen2 hDD2 hpre hl hlX hnl r0 r1 r2 hS hi hgi hgb hla hlb hz4 hKX hnX
        simp only [List.setIfInBounds_toArray, List.set_cons_succ, List.set_cons_zero]
        gi_wp2_with fail
        refine ⟨trivial, (CallsIn.inRound l (callsIn_wide.2 HGT.out)).mono ?_⟩
        rintro e z ⟨rfl, hbz⟩
        obtain ⟨hdz, kbz⟩ := HST.out z hbz
        have HDZ := Lib.hid hdz; have HKZ := Lib.hid kbz
        have c3 := (hdz.d.bo 1 (by decide)).cell
        have f3 := (hdz.d.bo 1 (by decide)).frozen
        rw [show p + 3 + 1 = p + 4 from rfl] at c3 f3
        clear HGT HST hbz hdz kbz c0
        cases gb with
        | false =>
          gi_wp2_with (gi_at_builtin; refine wpListIn_append_at _ rfl _ _ 22 rfl N 9 i0 (.string ⟨#[]⟩) 1 16 Try.underlying22 hi0 hz0 hz1 hz2 rfl _ (r 1).ks.length (sk (r 1).ks) rfl ((HDZ.out.d.ow 1 (by decide)).alloc _) _ 1 [.string S] rfl (HSRC.out _) (by have := HLN.out 1 (by decide); unfold maxLen; omega) (by have := HLN.out 1 (by decide); omega) (by have := HDZ.out.d.sz; simp; omega) ?_; intro v' w3 hown' hg3 hw3
                       obtain ⟨g', cap', rfl⟩ := ownsRow_succ hown'
                       obtain ⟨k1, k2, k3, k4⟩ := HDZ.out.d.push (i := 1) (x := x.1) (by decide) (by rw [HXB.out] at hown'; exact hown') hg3 hw3
                       have c4 := k1.cell
                       have f4 := k1.frozen
                       rw [show p + 3 + 1 = p + 4 from rfl] at c4 f4
                       have HK2 := Lib.hid k2; have HK3 := Lib.hid k3; have HK4 := Lib.hid k4
                       clear hw3 hown' hg3 k1 k2 k3 k4
                       go_frame)
          have hkb := Co.kb_trans HKZ.out HK3.out
          refine ⟨hkb, upd r 1 _, HDZ.out.step HK2.out (only_w HK4.out (fun k hk => by omega)), HR0.out, ?_, HR2.out, HDK.out _ hkb⟩
          show (r 1).ks ++ [x.1] = _
          rw [HKG.out, HR1.out]; rfl
        | true =>
          have HKG2 : Hid (kof (fG la) (pre ++ [x]) = kof (fG la) pre) := by
            show _ = _
            rw [HKG.out]
            simp
          clear HKG
          gi_wp2
          refine ⟨HKZ.out, r, HDZ.out, HR0.out, ?_, HR2.out, HDK.out _ HKZ.out⟩
          rw [HKG2.out]; exact HR1.out
      case done2 =>
        clear hd4 HR0 HR1 HR2 hK4 hnD4
        clear r
        rintro Dm X hDm ⟨r, hd, r0, r1, r2, hKX, hnX⟩ hK hnD
        have q0 := hd.d.bo 0 (by decide); have q1 := hd.d.bo 1 (by decide); have q2 := hd.d.bo 2 (by decide)
        rw [Nat.add_zero] at q0
        rw [show p + 3 + 1 = p + 4 from rfl] at q1
        rw [show p + 3 + 2 = p + 5 from rfl] at q2
        have c0 := q0.cell; have c1 := q1.cell; have c2 := q2.cell
        have f0 := q0.frozen; have f1 := q1.frozen; have f2 := q2.frozen
        have HQ : Hid (Df (.nilFunc) W p N Ea Eb o1 o2 la lb r X ∧ (r 0).ks = kof (fG lb) la ∧ (r 1).ks = kof (fG la) lb ∧ (r 2).ks = kof (fC lb) la ∧ X.heap[Dn]? = some (.deferred (some [])) ∧ X.heap[Dm]? = some (.deferred (some [])) ∧ Dn ≠ Dm ∧ N ≤ Dm) := ⟨hd, r0, r1, r2, hKX, hK, by have := heap_lt hK4'; omega, by omega⟩
        clear hsq2 hen2 hDD2 hla hlb hz4 hKX hnX hd hK hnD r0 r1 r2 q0 q1 q2 hDm
        gi_wp2_with fail
        refine (wpIn_wide (n := 9)).2 ?_
        go_region
        obtain ⟨X2, hX2⟩ : ∃ X2, X2 = ((X.setCell ⟨p + 3, 0, none⟩ (.slice (r 0).a (r 0).ks.length (r 0).c)).setCell ⟨p + 4, 0, none⟩ (.slice (r 1).a (r 1).ks.length (r 1).c)).setCell ⟨p + 5, 0, none⟩ (.slice (r 2).a (r 2).ks.length (r 2).c) := ⟨_, rfl⟩
        rw [← hX2]
        have hq := HQ.out.1
        have oX : Only (fun k => p + 3 ≤ k ∧ k < p + 6) X X2 := by
          rw [hX2]
          exact Only.setCell (p := fun k => p + 3 ≤ k ∧ k < p + 6) (q := ⟨p + 5, 0, none⟩) (Only.setCell (p := fun k => p + 3 ≤ k ∧ k < p + 6) (q := ⟨p + 4, 0, none⟩) (Only.setCell (p := fun k => p + 3 ≤ k ∧ k < p + 6) (q := ⟨p + 3, 0, none⟩) (Only.refl _ _) (.inl ⟨Nat.le_refl (p + 3), by show p + 3 < p + 6; omega⟩) _) (.inl ⟨by show p + 3 ≤ p + 4; omega, by show p + 4 < p + 6; omega⟩) _) (.inl ⟨by show p + 3 ≤ p + 5; omega, by show p + 5 < p + 6; omega⟩) _
        have t0 : Boxed X2 (p + 3) 22 (.slice (r 0).a (r 0).ks.length (r 0).c) := by
          rw [hX2]
          exact boxed_at (boxed_at ((hq.d.bo 0 (by decide)).set _) (Below.heap_setCell _ _ _ _ (by show p + 3 ≠ p + 4; omega))) (Below.heap_setCell _ _ _ _ (by show p + 3 ≠ p + 5; omega))
        have t1 : Boxed X2 (p + 4) 22 (.slice (r 1).a (r 1).ks.length (r 1).c) := by
          have u : Boxed (X.setCell ⟨p + 3, 0, none⟩ (.slice (r 0).a (r 0).ks.length (r 0).c)) (p + 4) 22 (.slice (r 1).a (r 1).ks.length (r 1).c) := boxed_at (hq.d.bo 1 (by decide)) (Below.heap_setCell _ _ _ _ (by show p + 4 ≠ p + 3; omega))
          rw [hX2]
          exact boxed_at (u.set _) (Below.heap_setCell _ _ _ _ (by show p + 4 ≠ p + 5; omega))
        have t2 : Boxed X2 (p + 5) 22 (.slice (r 2).a (r 2).ks.length (r 2).c) := by
          have u : Boxed (X.setCell ⟨p + 3, 0, none⟩ (.slice (r 0).a (r 0).ks.length (r 0).c)) (p + 5) 22 (.slice (r 2).a (r 2).ks.length (r 2).c) := boxed_at (hq.d.bo 2 (by decide)) (Below.heap_setCell _ _ _ _ (by show p + 5 ≠ p + 3; omega))
          have u2 : Boxed ((X.setCell ⟨p + 3, 0, none⟩ (.slice (r 0).a (r 0).ks.length (r 0).c)).setCell ⟨p + 4, 0, none⟩ (.slice (r 1).a (r 1).ks.length (r 1).c)) (p + 5) 22 (.slice (r 2).a (r 2).ks.length (r 2).c) := boxed_at u (Below.heap_setCell _ _ _ _ (by show p + 5 ≠ p + 4; omega))
          rw [hX2]
          exact u2.set _
        have HT := Lib.hid (And.intro oX (And.intro t0 (And.intro t1 t2)))
        clear oX t0 t1 t2 hq hX2 c0 c1 c2 f0 f1 f2
        obtain ⟨W5, hW5⟩ : ∃ W5, W5 = X2.drew.putObj Dm (.deferred none) := ⟨_, rfl⟩
        obtain ⟨W6, hW6⟩ : ∃ W6, W6 = W5.putObj Dn (.deferred none) := ⟨_, rfl⟩
        have HE : Hid (X2.drew.heap[Dm]? = some (.deferred (some [])) ∧ W5.heap[Dn]? = some (.deferred (some [])) ∧ (W6.cell? ⟨p + 3, 0, none⟩ = some (.slice (r 0).a (r 0).ks.length (r 0).c) ∧ W6.cell? ⟨p + 4, 0, none⟩ = some (.slice (r 1).a (r 1).ks.length (r 1).c) ∧ W6.cell? ⟨p + 5, 0, none⟩ = some (.slice (r 2).a (r 2).ks.length (r 2).c)) ∧
            (Rv (fun k => k < W.heap.size ∨ W6.heap.size ≤ k) (r 0).a (r 0).ks.length (r 0).c (sk (kof (fG lb) la)) W6 ∧ Rv (fun k => k < W.heap.size ∨ W6.heap.size ≤ k) (r 1).a (r 1).ks.length (r 1).c (sk (kof (fG la) lb)) W6 ∧ Rv (fun k => k < W.heap.size ∨ W6.heap.size ≤ k) (r 2).a (r 2).ks.length (r 2).c (sk (kof (fC lb) la)) W6) ∧ Below W.heap.size W W6) := by
          obtain ⟨hq, r0, r1, r2, hDn, hDm, hne, hNm⟩ := HQ.out
          obtain ⟨oX, t0, t1, t2⟩ := HT.out
          have hNn := HDN.out
          have hpN := hq.d.pN
          have d1 : X2.heap[Dm]? = some (.deferred (some [])) := (oX.block Dm (heap_lt hDm) (fun e => by omega)).trans hDm
          have d2 : X2.heap[Dn]? = some (.deferred (some [])) := (oX.block Dn (heap_lt hDn) (fun e => by omega)).trans hDn
          have d3 : W5.heap[Dn]? = some (.deferred (some [])) := by rw [hW5, World.putObj_heap_other hne]; exact d2
          have hh : ∀ k, k ≠ Dm → k ≠ Dn → W6.heap[k]? = X2.heap[k]? := fun k h1 h2 => by
            rw [hW6, World.putObj_heap_other h2, hW5, World.putObj_heap_other h1]
            rfl
          have hrow : ∀ i, i < 3 → W6.ownsRow N 9 1 (.slice (r i).a (r i).ks.length (r i).c) (r i).ks.length (sk (r i).ks) := fun i hi => by
            have h1 : X2.drew.ownsRow N 9 1 (.slice (r i).a (r i).ks.length (r i).c) (r i).ks.length (sk (r i).ks) := own_blk9 (hq.d.ow i hi) (fun k e => oX.block k (row_at9 (hq.d.ow i hi) e).2 (fun e2 => by have := (row_at9 (hq.d.ow i hi) e).1; omega))
            have h2 := ownsRow_putObj h1 (.deferred none) d1 rfl
            rw [← hW5] at h2
            have h3 := ownsRow_putObj h2 (.deferred none) d3 rfl
            rw [← hW6] at h3
            exact h3
          have hWN : W.heap.size ≤ N := by have := HP.out; omega
          have g0 := hrow 0 (by decide); have g1 := hrow 1 (by decide); have g2 := hrow 2 (by decide)
          rw [r0] at g0; rw [r1] at g1; rw [r2] at g2
          rw [r0, r1, r2]
          rw [r0] at t0; rw [r1] at t1; rw [r2] at t2
          refine ⟨d1, d3, ⟨(boxed_at t0 (hh _ (by omega) (by omega))).cell, (boxed_at t1 (hh _ (by omega) (by omega))).cell, (boxed_at t2 (hh _ (by omega) (by omega))).cell⟩, ⟨rv_own9 g0 hWN, rv_own9 g1 hWN, rv_own9 g2 hWN⟩, ?_⟩
          rw [← HP.out]
          have o1 := below_ge9 hq.bel oX (fun k hk => by omega) (by have := hq.d.sz; omega)
          have hs : W6.heap.size = X2.heap.size := by rw [hW6, hW5]; simp
          exact ⟨by rw [← o1.os, hW6, hW5]; rfl, by rw [← o1.tape, hW6, hW5]; rfl, by rw [← o1.output, hW6, hW5]; rfl, by rw [hs]; exact o1.size, fun k hk => (hh k (by omega) (by omega)).trans (o1.block k hk)⟩
        gi_wp2
        refine ⟨by simp, .inl ⟨_, _, rfl, run_takeDeferred HE.out.1, ?_⟩⟩
        rw [← hW5]
        refine ⟨by simp, .inl ⟨_, _, rfl, run_takeDeferred HE.out.2.1, ?_⟩⟩
        rw [← hW6]
        exact ⟨_, results_3t rfl _ _ (p + 3) (p + 4) (p + 5) _ _ _ _ _ _ _ _ _ rfl rfl rfl HE.out.2.2.1.1 HE.out.2.2.1.2.1 HE.out.2.2.1.2.2, _, _, _, _, _, _, _, _, _, rfl, HE.out.2.2.2.1, HE.out.2.2.2.2⟩
      case stop2 =>
        rintro Dm cd pre X hDm hpre h
        exact h.elim
      · intro X k hv hk
        refine hDD2 k (HUB.out k ?_)
        rcases hk with hk | ⟨q, hq, hk⟩
        · exact hk.1
        · have := ((hv.2 q hq).2 k hk).1
          have := HP2.out
          omega
    case stop =>
      rintro Dn cd pre X hDn hpre h
      exact h.elim
    · intro X k hv hk
      refine hDD k (HUA.out k ?_)
      rcases hk with hk | ⟨q, hq, hk⟩
      · exact hk.1
      · have := ((hv.2 q hq).2 k hk).1
        have := HP2.out
        omega
theorem difCon : DifCon := fun exa exb oa ob la lb sm W ha hb hs hla hlb => by
  rcases hs with rfl | ⟨rfl, h0⟩
  · exact wlk_diff ha hb hla hlb
  · exact wlk_diffn ha hb h0 hla hlb
end Go.Proofs.Ytnjmfhdgemigcaa
