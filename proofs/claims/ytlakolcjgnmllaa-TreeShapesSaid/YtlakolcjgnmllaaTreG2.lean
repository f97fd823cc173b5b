/- taken: the first ones of a walk. -/
import Derived.OwnWalkIn
import Derived.Test.YtlakolcjgnmllaaTreE7
import Derived.Test.YtlakolcjgnmllaaTreG1
namespace Go.Proofs.Ytlakolcjgnmllaa
open Go.RowKit Go.Shelf

attribute [local go_sem] Oper.semAt_some

theorem info2g : (Try.prog.info? 52).map (fun i => (i.zero, i.size, i.bytes)) = some (some (.agg #[.string ⟨#[]⟩, .int .i64 0]), 2, 24) := by kernel_rfl
/-- behind some pairs: the list in the box behind p -/
structure Tk (p : Nat) (most : Int) (W : World) (pre : List Tm.E) (wx : World) : Prop where
  bm : Boxed wx p 3 (.int .i64 most)
  bo : ∃ a c, Boxed wx (p + 1) 26 (.slice a pre.length c) ∧ wx.ownsRow (p + 1) 52 2 (.slice a pre.length c) pre.length (pcs pre)
  bel : Below p W wx
  sz : p + 2 ≤ wx.heap.size
theorem grown_block8 {w w' : World} {row : Option Nat} (hg : w.grownBy w' row) (hr : ∀ r, row = some r → ∃ o : Obj, w.heap[r]? = some o ∧ o.isCells = false) {k : Nat} {o : Obj} (h : w.heap[k]? = some o) (ho : o.isCells = true) : w'.heap[k]? = some o := by
  rw [hg.block k (heap_lt h) (fun e => ?_)]
  · exact h
  · obtain ⟨o', h1, h2⟩ := hr k e.symm
    rw [h] at h1
    injection h1 with h1
    subst h1
    rw [ho] at h2
    cases h2
theorem own_grown8 {w w' : World} {B : Nat} {E : TypeId} {sz n : Nat} {v : Value} {xs : List Value} {row : Option Nat} (h : w.ownsRow B E sz v n xs) (hg : w.grownBy w' row) (hr : ∀ r, row = some r → ∃ o : Obj, w.heap[r]? = some o ∧ o.isCells = false) : w'.ownsRow B E sz v n xs := by
  obtain ⟨h1, h2⟩ := h
  refine ⟨h1, ?_⟩
  rcases h2 with h2 | ⟨g, cap, cur, hv, hB, hg2, rest⟩
  · exact .inl h2
  · exact .inr ⟨g, cap, cur, hv, hB, grown_block8 hg hr hg2 rfl, rest⟩
theorem Tk.own {p : Nat} {most : Int} {W : World} {B : Nat} (hB : p ≤ B) : OwnFrom B (Tk p most W) := fun s X Y row h hg hr => by
  have hr' := fun r e => (hr r e).2
  obtain ⟨a, c, h1, h2⟩ := h.bo
  exact ⟨grown_block8 hg hr' h.bm rfl, ⟨a, c, grown_block8 hg hr' h1 rfl, own_grown8 h2 hg hr'⟩, h.bel.grown hg (by have := h.sz; omega) (fun k e => Nat.le_trans hB (hr k e).1), by have := h.sz; have := hg.size; omega⟩
theorem only_putObj8 {ex : Nat → Prop} {B : Nat} (W : World) (l : Nat) (o o' : Obj) (hl : B ≤ l) (_ : W.heap[l]? = some o) : Only (Kx ex B) W (W.putObj l o') :=
  ⟨rfl, rfl, rfl, by simp, fun k _ hk => World.putObj_heap_other (fun e => hk (.inr (by omega)))⟩
theorem only_trans8 {p : Nat → Prop} {A B C : World} (h : Only p A B) (k : Only p B C) : Only p A C := h.trans k
theorem only_below8 {ex : Nat → Prop} {B p : Nat} {w w' : World} (h : Below p w w') (hB : B ≤ p) : Only (Kx ex B) w w' :=
  ⟨h.os, h.tape, h.output, h.size, fun k _ hk => h.block k (by unfold Kx at hk; omega)⟩
set_option maxHeartbeats 4000000 in
set_option maxRecDepth 100000 in
theorem tre_taken {ex : Nat → Prop} {B : Nat} {v : Value} {L : List Tm.E} {most : Nat} {W : World} (hs : Sq ex B v L W) (hB : B ≤ W.heap.size) (hm1 : 1 ≤ most) (hm2 : most ≤ 10000) (hex : ∀ k, W.heap.size ≤ k → ¬ ex k) :
    Calls Try.prog 20 #[v, .int .i64 (most : Int)] W fun e w' => ∃ u, e = .returned u ∧ Ps ex u (L.take most) w' ∧ Below W.heap.size W w' := by
  obtain ⟨g, lb, rfl, hen, hsq⟩ := hs
  obtain ⟨i0, hi0, hz0, hz1, hz2⟩ := info_of8 info2g
  have hm1I : ¬ (most : Int) ≤ 0 := by omega
  have hm2I : (most : Int) ≤ 10000 := by omega
  have hnf : ∀ w, (binOp .eql 44 (.func (.func g) #[] lb) .nilFunc).run Try.prog w = .ok (.bool false) w := fun w => rfl
  refine (callsIn_wide (n := 9)).1 ?_
  refine callsIn_of_wp_marks Try.func20 rfl trivial ?_ rfl
  simp only [Try.ntmps20, List.size_toArray, List.length_cons, List.length_nil, Nat.reduceAdd, Nat.reduceSub, Array.replicate_succ, Array.replicate_zero, List.push_toArray, List.append_toArray, List.nil_append, List.cons_append]
  gi_wp2_with fail
  obtain ⟨p, hp⟩ : ∃ p, p = W.heap.size := ⟨_, rfl⟩
  obtain ⟨W1, hW1⟩ : ∃ W1, W1 = (W.alloc (.cells #[.int .i64 (most : Int)] 3)).alloc (.cells #[.slice none 0 0] 26) := ⟨_, rfl⟩
  have hs1 : W1.heap.size = p + 2 := by rw [hW1, hp]; simp
  have hB1 : Below p W W1 := by rw [hW1, hp]; exact (one_b8 _ _).alloc (by simp) _
  have hT1 : Tk p (most : Int) W [] W1 := by
    refine ⟨?_, ⟨none, 0, ?_, rfl, .inl ⟨rfl, rfl⟩⟩, hB1, by omega⟩
    · rw [hW1, hp]; exact (Boxed.new W _ _).alloc _
    · have := Boxed.new (W.alloc (.cells #[.int .i64 (most : Int)] 3)) 26 (.slice none 0 0)
      rw [World.size_alloc, ← hW1, ← hp] at this
      exact this
  have HP := Lib.hid hp; have HS1 := Lib.hid hs1; have HEX := Lib.hid hex
  rw [← hW1, ← hp]
  clear hW1 hex
  refine wpIn_rangeFunc_ownG (F := Fence.wide) (n := 9) (P := Try.prog) (w := W1) (α := Tm.E) (encs := en8) (Kp := Only (Kx ex B)) (S := fun xs => xs = L) (Sp := fun pre => pre <+: L) (N := L.length) (w0 := W) rfl (by omega) (gf := g) (lb := lb) rfl trivial hen (hsq 7) (fun h k => h.trans k) (fun X l o o' hl h _ _ => only_putObj8 X l o o' (by omega) h) (by rw [← hp]; exact hB1) (fun _ => rfl)
    (fun pre wx => Tk p (most : Int) W pre wx ∧ pre.length < most)
    (fun cd pre wx => cd = .exit 0 ∧ Tk p (most : Int) W pre wx ∧ pre.length = most)
    (OwnFrom.and (Tk.own (by omega)) (fun _ _ _ _ h _ _ => h))
    (fun cd => OwnFrom.and (fun _ _ _ _ h _ _ => h) (OwnFrom.and (Tk.own (by omega)) (fun _ _ _ _ h _ _ => h)))
    ⟨hT1, by show 0 < most; omega⟩
    (fun x => { tmps := #[.func (.func g) #[] lb, .int .i64 (most : Int), undef, .pointer (some ⟨p, 0, none⟩), .slice none 0 0, .pointer (some ⟨p + 1, 0, none⟩), .string (bstr x.1), .int .i64 x.2, .func (.func g) #[] lb, .bool false, .bool false, .int .i64 (most : Int), .bool false, .bool false, .func (.func g) #[] lb, .string (bstr x.1), .int .i64 x.2,
      undef, undef, undef, undef, undef, undef, undef, undef, undef, undef, undef], defers := [] }) ?assign ?body ?done ?stop
  case assign =>
    intro l x wx K hK
    clear hp hs1
    simp only [en8]
    gi_wp2
    exact hK
  case body =>
    rintro l pre x wx ⟨hT, hlt⟩ hlen
    obtain ⟨n, hn⟩ : ∃ n, n = pre.length := ⟨_, rfl⟩
    obtain ⟨a, c, hbo, hrow⟩ := hT.bo
    have hbm := hT.bm
    have HTB := Lib.hid hT.bel
    have hsz := hT.sz
    rw [← hn] at hbo hrow hlt
    have hlt2 : n < 10000 := by omega
    have co := hbo.cell
    have fo := hbo.frozen
    have HBO := Lib.hid hbo; have HBM := Lib.hid hbm; have HR := Lib.hid hrow; have HN := Lib.hid hn
    obtain ⟨sx, hsx⟩ : ∃ sx, sx = bstr x.1 := ⟨_, rfl⟩
    obtain ⟨ix, hix⟩ : ∃ ix, ix = x.2 := ⟨_, rfl⟩
    have HPC : Hid (pc1 x = [.string sx, .int .i64 ix]) := by show _ = _; rw [hsx, hix]; rfl
    rw [← hsx, ← hix]
    have HNEW : Hid (∀ (wz : World) (j : Nat) (u : Value), [Value.string sx, .int .i64 ix][j]? = some u → (wz.alloc (.cells #[.string sx, .int .i64 ix] 52)).cell? ((⟨wz.heap.size, 0, none⟩ : Addr).add j) = some u) := fun wz j u hu => by
      rw [add_p8, Lib.cell_of_heap (heap_alloc_new wz _), Nat.zero_add, ← Array.getElem?_toList]
      exact hu
    have HSTEP : Hid (∀ (g' cap' : Nat) (w4 : World), Boxed w4 (p + 1) 26 (.slice (some ⟨g', 0, none⟩) (n + 1) cap') → w4.ownsRow (p + 1) 52 2 (.slice (some ⟨g', 0, none⟩) (n + 1) cap') (n + 1) (pcs pre ++ [.string sx, .int .i64 ix]) → Below (p + 1) wx w4 → Tk p (most : Int) W (pre ++ [x]) w4) := fun g' cap' w4 h1 h2 h3 => by
      refine ⟨(h3.block p (by omega)).trans hbm, ⟨some ⟨g', 0, none⟩, cap', ?_, ?_⟩, hT.bel.trans (h3.mono (by omega)), by have := h3.size; omega⟩
      · rw [List.length_append, List.length_singleton, ← hn]; exact h1
      · rw [List.length_append, List.length_singleton, ← hn, pcs_append, show pcs [x] = [.string sx, .int .i64 ix] by rw [hsx, hix]; rfl]; exact h2
    clear hsx hix hT hbo hbm hn hlen hB1 hT1 hs1 hp hsq hen hrow
    by_cases hq : n + 1 < most
    case pos =>
      have hqI : ¬ (most : Int) ≤ (n : Int) + 1 := by omega
      gi_wp2_with (gi_at_builtin; refine wpListIn_append_own _ rfl _ _ 26 rfl (p + 1) 52 i0 _ 2 24 Try.underlying26 hi0 hz0 hz1 hz2 rfl (by decide) _ _ _ rfl (HR.out.alloc _) ⟨wx.heap.size, 0, none⟩ 1 1 [.string sx, .int .i64 ix] rfl rfl (HNEW.out _) (by simp [Value.oneCell']) (by unfold maxLen; omega) (by omega) (by simp; omega) ?_; intro v' w3 hown' hg3 hnil3
                   obtain ⟨g', cap', rfl⟩ := ownsRow_succ hown'
                   obtain ⟨k1, k2, k3, k4, k5⟩ := Boxed.appended HBO.out (by decide) HR.out (n₀ := p + 1) (by omega) (Nat.le_refl _) hown' hg3
                   have c3 := k1.cell
                   have f3 := k1.frozen
                   have c4 := k2.cell
                   have k6 : Boxed (w3.setCell ⟨p + 1, 0, none⟩ (.slice (some ⟨g', 0, none⟩) (n + 1) cap')) p 3 (.int .i64 (most : Int)) := (k5.block p (by omega)).trans HBM.out
                   have c5 := k6.cell
                   have HK2 := Lib.hid k2; have HK3 := Lib.hid k3; have HK4 := Lib.hid k4; have HK5 := Lib.hid k5; have HK6 := Lib.hid k6
                   clear hnil3 hown' hg3 k1 k2 k3 k4 k5 k6
                   go_frame)
      refine ⟨HK4.out.from _, only_below8 HK5.out (by have := HP.out; omega), HSTEP.out _ _ _ HK2.out HK3.out HK5.out, ?_⟩
      rw [List.length_append, List.length_singleton, ← HN.out]
      exact hq
    case neg =>
      have hqI : (most : Int) ≤ (n : Int) + 1 := by omega
      gi_wp2_with (gi_at_builtin; refine wpListIn_append_own _ rfl _ _ 26 rfl (p + 1) 52 i0 _ 2 24 Try.underlying26 hi0 hz0 hz1 hz2 rfl (by decide) _ _ _ rfl (HR.out.alloc _) ⟨wx.heap.size, 0, none⟩ 1 1 [.string sx, .int .i64 ix] rfl rfl (HNEW.out _) (by simp [Value.oneCell']) (by unfold maxLen; omega) (by omega) (by simp; omega) ?_; intro v' w3 hown' hg3 hnil3
                   obtain ⟨g', cap', rfl⟩ := ownsRow_succ hown'
                   obtain ⟨k1, k2, k3, k4, k5⟩ := Boxed.appended HBO.out (by decide) HR.out (n₀ := p + 1) (by omega) (Nat.le_refl _) hown' hg3
                   have c3 := k1.cell
                   have f3 := k1.frozen
                   have c4 := k2.cell
                   have k6 : Boxed (w3.setCell ⟨p + 1, 0, none⟩ (.slice (some ⟨g', 0, none⟩) (n + 1) cap')) p 3 (.int .i64 (most : Int)) := (k5.block p (by omega)).trans HBM.out
                   have c5 := k6.cell
                   have HK2 := Lib.hid k2; have HK3 := Lib.hid k3; have HK4 := Lib.hid k4; have HK5 := Lib.hid k5; have HK6 := Lib.hid k6
                   clear hnil3 hown' hg3 k1 k2 k3 k4 k5 k6
                   go_frame)
      refine ⟨HK4.out.from _, rfl, HSTEP.out _ _ _ HK2.out HK3.out HK5.out, ?_⟩
      rw [List.length_append, List.length_singleton, ← HN.out]
      omega
  case done =>
    rintro D ys wx hDl hys ⟨hT, hlt⟩ hK
    subst hys
    obtain ⟨a, c, hbo, hrow⟩ := hT.bo
    obtain ⟨n, hn⟩ : ∃ n, n = ys.length := ⟨_, rfl⟩
    have HPS : Hid (∀ w', w'.ownsRow (p + 1) 52 2 (.slice a n c) ys.length (pcs ys) → Ps ex (.slice a n c) (ys.take most) w') := fun w' hw => by
      rw [List.take_of_length_le (by omega)]
      exact Ps.of_own hw (fun k hk => HEX.out k (by have := HP.out; omega))
    have HR := Lib.hid hrow; have HTB := Lib.hid hT.bel; have HK := Lib.hid hK
    rw [← hn] at HR hbo
    have co := hbo.cell
    have HDL : Hid (p ≤ D) := by show _ ≤ _; omega
    have HYN : Hid (n = ys.length) := hn
    clear hrow hT hbo hK hlt hn hB1 hT1 hs1 hp hsq hen hDl
    gi_wp2
    refine ⟨by simp, .inl ⟨_, _, rfl, run_takeDeferred HK.out, ?_⟩⟩
    refine ⟨.slice a n c, (results_tmp (fn := Try.f20) rfl _ _ _ : _ = Result.ok (Array.getD _ 4 undef) _), .slice a n c, rfl, HPS.out _ ?_, ?_⟩
    · rw [← HYN.out]
      exact ownsRow_putObj HR.out _ HK.out rfl
    · rw [← HP.out]
      exact HTB.out.grown (grownBy_putObj' _ _ _) (by have := HP.out; have := HTB.out.size; omega) (fun k e => by cases e; exact HDL.out)
  case stop =>
    rintro D cd pre wx hDl hpre ⟨rfl, hT, hlt⟩ hK
    obtain ⟨a, c, hbo, hrow⟩ := hT.bo
    obtain ⟨n, hn⟩ : ∃ n, n = pre.length := ⟨_, rfl⟩
    have HPS : Hid (∀ w', w'.ownsRow (p + 1) 52 2 (.slice a n c) pre.length (pcs pre) → Ps ex (.slice a n c) (L.take most) w') := fun w' hw => by
      obtain ⟨m, rfl⟩ := hpre
      rw [← hlt, List.take_left]
      exact Ps.of_own hw (fun k hk => HEX.out k (by have := HP.out; omega))
    have HR := Lib.hid hrow; have HTB := Lib.hid hT.bel; have HK := Lib.hid hK
    rw [← hn] at HR hbo
    have co := hbo.cell
    have HDL : Hid (p ≤ D) := by show _ ≤ _; omega
    have HYN : Hid (n = pre.length) := hn
    clear hrow hT hbo hK hlt hn hB1 hT1 hs1 hp hsq hen hDl hpre
    gi_wp2
    refine ⟨by simp, .inl ⟨_, _, rfl, run_takeDeferred HK.out, ?_⟩⟩
    refine ⟨.slice a n c, (results_tmp (fn := Try.f20) rfl _ _ _ : _ = Result.ok (Array.getD _ 4 undef) _), .slice a n c, rfl, HPS.out _ ?_, ?_⟩
    · rw [← HYN.out]
      exact ownsRow_putObj HR.out _ HK.out rfl
    · rw [← HP.out]
      exact HTB.out.grown (grownBy_putObj' _ _ _) (by have := HP.out; have := HTB.out.size; omega) (fun k e => by cases e; exact HDL.out)
end Go.Proofs.Ytlakolcjgnmllaa
