/- The reference of layer 4: Safe, Fits. -/
import Derived.Test.YtfnnhhhkdfgefaaGreatDoorCastRef1
namespace Go.Proofs.YtfnnhhhkdfgefaaGreatDoor
open Go.RowKit

/-- two types in blocks of their own -/
structure Ty2 (w : World) (k s l t : Int) (w' : World) : Prop where
  a : Tx w.heap.size k s w'
  b : Tx (w.heap.size + 1) l t w'
  bel : Below w.heap.size w w'
theorem Ty2.new (w : World) (k s l t : Int) (u : TypeId) : Ty2 w k s l t ((w.alloc (.cells #[.int .i64 k, .int .i64 s] u)).alloc (.cells #[.int .i64 l, .int .i64 t] u)) := by
  refine ⟨(Tx.new w k s u).keep (one _ _), ?_, two w _ _⟩
  have h := Tx.new (w.alloc (.cells #[.int .i64 k, .int .i64 s] u)) l t u
  rw [show (w.alloc (.cells #[.int .i64 k, .int .i64 s] u)).heap.size = w.heap.size + 1 by simp] at h
  exact h
theorem Ty2.keep {w w1 w2 : World} {k s l t : Int} (h : Ty2 w k s l t w1) (hb : Below w1.heap.size w1 w2) : Ty2 w k s l t w2 :=
  ⟨h.a.keep hb, h.b.keep hb, h.bel.trans (hb.mono h.bel.size)⟩

theorem safe_no1 {k s l t : Int} (h : Vm.typeB k s = false) : Vm.safe k s l t = false := by unfold Vm.safe; rw [h]; rfl
theorem safe_no2 {k s l t : Int} (h : Vm.typeB l t = false) : Vm.safe k s l t = false := by unfold Vm.safe; rw [h]; simp
theorem eqT_self (k s : Int) : eqT k s k s = true := by simp [eqT]
theorem eqT_k {k s l t : Int} (h : k ≠ l) : eqT k s l t = false := by simp [eqT, h]
theorem eqT_s {k s l t : Int} (h : s ≠ t) : eqT k s l t = false := by simp [eqT, h]

set_option maxHeartbeats 4000000 in
theorem ref4_safe (k s l t : Int) (w : World) : Calls Tryz.prog 12 #[.agg #[.int .i64 k, .int .i64 s], .agg #[.int .i64 l, .int .i64 t]] w (Says (Vm.safe k s l t) w) := by
  have H1 := Lib.hid (ref3_type k s)
  have H2 := Lib.hid (ref3_type l t)
  have W0 := Lib.hid (Ty2.new w k s l t 26)
  cases h1 : Vm.typeB k s
  · rw [safe_no1 h1]
    rw [h1] at H1
    go_enter Tryz.func12, Tryz.ntmps12
    go_wp2_with fail
    refine (H1.out _).mono ?_
    rintro e w1 ⟨rfl, hb⟩
    have W1 := Lib.hid (W0.out.keep hb)
    clear hb W0 H1 H2
    go_wp2
    go_ret
    exact Says.mk rfl W1.out.bel
  cases h2 : Vm.typeB l t
  · rw [safe_no2 h2]
    rw [h1] at H1
    rw [h2] at H2
    go_enter Tryz.func12, Tryz.ntmps12
    go_wp2_with fail
    refine (H1.out _).mono ?_
    rintro e w1 ⟨rfl, hb⟩
    have W1 := Lib.hid (W0.out.keep hb)
    have f0 := W1.out.b.c0; have f1 := W1.out.b.c1
    clear hb W0 H1
    go_wp2_with fail
    refine (H2.out _).mono ?_
    rintro e w2 ⟨rfl, hb⟩
    have W2 := Lib.hid (W1.out.keep hb)
    clear hb W1 H2 f0 f1
    go_wp2
    go_ret
    exact Says.mk rfl W2.out.bel
  rw [h1] at H1
  rw [h2] at H2
  have HS : Hid (Vm.safe k s l t = decide ((k = l ∧ s = t) ∨ (k = 1 ∧ (l = 2 ∨ l = 4)) ∨ (k = 2 ∧ (l = 4 ∨ (l = 3 ∧ t = 0))) ∨ (k = 3 ∧ (l = 4 ∨ l = 2 ∨ (l = 3 ∧ t ≤ s))) ∨ (k = 4 ∧ l = 5))) := by
    show _ = _
    unfold Vm.safe; rw [h1, h2]; rfl
  obtain ⟨PL, hPL⟩ : ∃ PL, PL = Vm.safe k s l t := ⟨_, rfl⟩
  rw [← hPL] at HS ⊢
  clear hPL
  have heq := typ_eql k s l t
  by_cases he : k = l ∧ s = t
  · obtain ⟨rfl, rfl⟩ := he
    rw [eqT_self] at heq
    have hP : Hid (PL = true) := by show _ = _; rw [HS.out]; simp
    clear HS h1 h2
    go_enter Tryz.func12, Tryz.ntmps12
    go_wp2_with fail
    refine (H1.out _).mono ?_
    rintro e w1 ⟨rfl, hb⟩
    have W1 := Lib.hid (W0.out.keep hb)
    have f0 := W1.out.b.c0; have f1 := W1.out.b.c1
    clear hb W0 H1
    go_wp2_with fail
    refine (H2.out _).mono ?_
    rintro e w2 ⟨rfl, hb⟩
    have W2 := Lib.hid (W1.out.keep hb)
    clear hb W1 H2 f0 f1
    have e0 := W2.out.a.c0; have e1 := W2.out.a.c1; have f0 := W2.out.b.c0; have f1 := W2.out.b.c1
    go_wp2
    go_ret
    exact Says.mk hP.out.symm W2.out.bel
  have hq : eqT k s l t = false := by
    by_cases hk : k = l
    · exact eqT_s fun h => he ⟨hk, h⟩
    · exact eqT_k hk
  rw [hq] at heq
  have HH := Lib.hid he
  clear hq he
  rcases Vm.typeB_cases h1 with ⟨rfl, rfl⟩ | ⟨rfl, rfl⟩ | ⟨rfl, -⟩ | ⟨rfl, rfl⟩ | ⟨rfl, rfl⟩
  all_goals
    rcases Vm.typeB_cases h2 with ⟨rfl, rfl⟩ | ⟨rfl, rfl⟩ | ⟨rfl, -⟩ | ⟨rfl, rfl⟩ | ⟨rfl, rfl⟩
  all_goals clear h1 h2
  all_goals first
    | exact absurd ⟨rfl, rfl⟩ HH.out
    | (go_enter Tryz.func12, Tryz.ntmps12
       go_wp2_with fail
       refine (H1.out _).mono ?_
       rintro e w1 ⟨rfl, hb⟩
       have W1 := Lib.hid (W0.out.keep hb)
       have f0 := W1.out.b.c0; have f1 := W1.out.b.c1
       clear hb W0 H1
       go_wp2_with fail
       refine (H2.out _).mono ?_
       rintro e w2 ⟨rfl, hb⟩
       have W2 := Lib.hid (W1.out.keep hb)
       clear hb W1 H2 f0 f1
       have e0 := W2.out.a.c0; have e1 := W2.out.a.c1; have f0 := W2.out.b.c0; have f1 := W2.out.b.c1
       go_wp2
       go_ret
       refine Says.mk ?_ W2.out.bel
       rw [HS.out]
       first | rfl | (simp; done) | (rw [Bool.eq_iff_iff]; simp; done) | (rw [Bool.eq_iff_iff]; simp; omega))

theorem max2 (x y M : Int) (h : (if y > x then y else x) = M) (W : World) : (Builtin.max_ #[3, 3] 3 #[.int .i64 x, .int .i64 y]).run Tryz.prog W = .ok (.int .i64 M) W := by
  rw [← h]
  simp [Builtin.max_, Builtin.max2]

/-- two types in blocks of their own, and the answer's -/
structure Ty3 (w : World) (k s l t : Int) (w' : World) : Prop where
  a : Tx w.heap.size k s w'
  b : Tx (w.heap.size + 1) l t w'
  r : Tx (w.heap.size + 1 + 1) 0 0 w'
  rf : ∀ o, w'.frozen? ⟨w.heap.size + 1 + 1, o, none⟩ = false
  bel : Below w.heap.size w w'
theorem Ty3.new (w : World) (k s l t : Int) (u : TypeId) : Ty3 w k s l t (((w.alloc (.cells #[.int .i64 k, .int .i64 s] u)).alloc (.cells #[.int .i64 l, .int .i64 t] u)).alloc (.cells #[.int .i64 0, .int .i64 0] u)) := by
  have h := Ty2.new w k s l t u
  have hr := Tx.new ((w.alloc (.cells #[.int .i64 k, .int .i64 s] u)).alloc (.cells #[.int .i64 l, .int .i64 t] u)) 0 0 u
  rw [show ((w.alloc (.cells #[.int .i64 k, .int .i64 s] u)).alloc (.cells #[.int .i64 l, .int .i64 t] u)).heap.size = w.heap.size + 1 + 1 by simp] at hr
  have hf : ∀ o, (((w.alloc (.cells #[.int .i64 k, .int .i64 s] u)).alloc (.cells #[.int .i64 l, .int .i64 t] u)).alloc (.cells #[.int .i64 0, .int .i64 0] u)).frozen? ⟨((w.alloc (.cells #[.int .i64 k, .int .i64 s] u)).alloc (.cells #[.int .i64 l, .int .i64 t] u)).heap.size, o, none⟩ = false := by
    generalize (w.alloc (.cells #[.int .i64 k, .int .i64 s] u)).alloc (.cells #[.int .i64 l, .int .i64 t] u) = W
    intro o; simp
  rw [show ((w.alloc (.cells #[.int .i64 k, .int .i64 s] u)).alloc (.cells #[.int .i64 l, .int .i64 t] u)).heap.size = w.heap.size + 1 + 1 by simp] at hf
  refine ⟨h.a.keep (one _ _), h.b.keep (one _ _), hr, hf, three w _ _ _⟩
theorem Ty3.keep {w w1 w2 : World} {k s l t : Int} (h : Ty3 w k s l t w1) (hb : Below w1.heap.size w1 w2) : Ty3 w k s l t w2 :=
  ⟨h.a.keep hb, h.b.keep hb, h.r.keep hb, fun o => (hb.frozen (p := ⟨w.heap.size + 1 + 1, o, none⟩) h.r.lt).trans (h.rf o), h.bel.trans (hb.mono h.bel.size)⟩

set_option maxHeartbeats 4000000 in
theorem ref4_fits (k s l t : Int) (w : World) : Calls Tryz.prog 14 #[.agg #[.int .i64 k, .int .i64 s], .agg #[.int .i64 l, .int .i64 t]] w (TypB (Vm.fits k s l t) w) := by
  have H1 := Lib.hid (ref3_type k s)
  have H2 := Lib.hid (ref3_type l t)
  have W0 := Lib.hid (Ty3.new w k s l t 26)
  cases h1 : Vm.typeB k s
  · have hP : Hid (Vm.fits k s l t = ((0, 0), false)) := by show _ = _; unfold Vm.fits; rw [h1]; rfl
    rw [h1] at H1
    go_enter Tryz.func14, Tryz.ntmps14
    go_wp2_with fail
    refine (H1.out _).mono ?_
    rintro e w1 ⟨rfl, hb⟩
    have W1 := Lib.hid (W0.out.keep hb)
    clear hb W0 H1
    clear H2
    have r0 := W1.out.r.c0; have r1 := W1.out.r.c1; have rf := W1.out.rf; have rl := W1.out.r.lt
    go_wp2
    refine bodyPost_ret (v := .tuple #[.agg #[.int .i64 0, .int .i64 0], .bool false]) (by simp [results, Tryz.results14, go_sem, r0, r1]) rfl (TypB.mk hP.out ?_)
    exact set2 W1.out.bel (by omega) _ _
  cases h2 : Vm.typeB l t
  · have hP : Hid (Vm.fits k s l t = ((0, 0), false)) := by show _ = _; unfold Vm.fits; rw [h1, h2]; rfl
    rw [h1] at H1
    rw [h2] at H2
    go_enter Tryz.func14, Tryz.ntmps14
    go_wp2_with fail
    refine (H1.out _).mono ?_
    rintro e w1 ⟨rfl, hb⟩
    have W1 := Lib.hid (W0.out.keep hb)
    clear hb W0 H1
    have f0 := W1.out.b.c0; have f1 := W1.out.b.c1
    go_wp2_with fail
    refine (H2.out _).mono ?_
    rintro e w2 ⟨rfl, hb⟩
    have W2 := Lib.hid (W1.out.keep hb)
    clear hb W1 H2 f0 f1
    have r0 := W2.out.r.c0; have r1 := W2.out.r.c1; have rf := W2.out.rf; have rl := W2.out.r.lt
    go_wp2
    refine bodyPost_ret (v := .tuple #[.agg #[.int .i64 0, .int .i64 0], .bool false]) (by simp [results, Tryz.results14, go_sem, r0, r1]) rfl (TypB.mk hP.out ?_)
    exact set2 W2.out.bel (by omega) _ _
  rw [h1] at H1
  rw [h2] at H2
  have HS : Hid (Vm.fits k s l t = if k = l ∧ s = t then ((k, s), true) else if Vm.isNum k && Vm.isNum l then ((3, max s t), true) else ((0, 0), false)) := by
    show _ = _
    unfold Vm.fits; rw [h1, h2]; rfl
  obtain ⟨PL, hPL⟩ : ∃ PL, PL = Vm.fits k s l t := ⟨_, rfl⟩
  rw [← hPL] at HS ⊢
  clear hPL
  have heq := typ_eql k s l t
  by_cases he : k = l ∧ s = t
  · have hP : Hid (PL = ((k, s), true)) := by show _ = _; rw [HS.out, if_pos he]
    obtain ⟨rfl, rfl⟩ := he
    rw [eqT_self] at heq
    clear HS h1 h2
    go_enter Tryz.func14, Tryz.ntmps14
    go_wp2_with fail
    refine (H1.out _).mono ?_
    rintro e w1 ⟨rfl, hb⟩
    have W1 := Lib.hid (W0.out.keep hb)
    clear hb W0 H1
    have f0 := W1.out.b.c0; have f1 := W1.out.b.c1
    go_wp2_with fail
    refine (H2.out _).mono ?_
    rintro e w2 ⟨rfl, hb⟩
    have W2 := Lib.hid (W1.out.keep hb)
    clear hb W1 H2 f0 f1
    have e0 := W2.out.a.c0; have e1 := W2.out.a.c1; have f0 := W2.out.b.c0; have f1 := W2.out.b.c1
    have r0 := W2.out.r.c0; have r1 := W2.out.r.c1; have rf := W2.out.rf; have rl := W2.out.r.lt
    go_wp2
    refine bodyPost_ret (v := .tuple #[.agg #[.int .i64 k, .int .i64 s], .bool true]) (by simp [results, Tryz.results14, go_sem, r0, r1]) rfl (TypB.mk hP.out ?_)
    exact set2 W2.out.bel (by omega) _ _
  have hq : eqT k s l t = false := by
    by_cases hk : k = l
    · exact eqT_s fun h => he ⟨hk, h⟩
    · exact eqT_k hk
  rw [hq] at heq
  have HP : Hid (PL = if Vm.isNum k && Vm.isNum l then ((3, max s t), true) else ((0, 0), false)) := by show _ = _; rw [HS.out, if_neg he]
  have HH := Lib.hid he
  obtain ⟨M, hM⟩ : ∃ M : Int, (if t > s then t else s) = M := ⟨_, rfl⟩
  have HM : Hid (M = max s t) := by show _ = _; rw [← hM, Int.max_def]; split <;> split <;> omega
  have hmx := max2 s t M hM
  clear hq he HS
  rcases Vm.typeB_cases h1 with ⟨rfl, rfl⟩ | ⟨rfl, rfl⟩ | ⟨rfl, -⟩ | ⟨rfl, rfl⟩ | ⟨rfl, rfl⟩
  all_goals
    rcases Vm.typeB_cases h2 with ⟨rfl, rfl⟩ | ⟨rfl, rfl⟩ | ⟨rfl, -⟩ | ⟨rfl, rfl⟩ | ⟨rfl, rfl⟩
  all_goals clear h1 h2
  all_goals first
    | exact absurd ⟨rfl, rfl⟩ HH.out
    | skip
  all_goals
    go_enter Tryz.func14, Tryz.ntmps14
    go_wp2_with fail
    refine (H1.out _).mono ?_
    rintro e w1 ⟨rfl, hb⟩
    have W1 := Lib.hid (W0.out.keep hb)
    clear hb W0 H1
    have f0 := W1.out.b.c0; have f1 := W1.out.b.c1
    go_wp2_with fail
    refine (H2.out _).mono ?_
    rintro e w2 ⟨rfl, hb⟩
    have W2 := Lib.hid (W1.out.keep hb)
    clear hb W1 H2 f0 f1
    have e0 := W2.out.a.c0; have e1 := W2.out.a.c1; have f0 := W2.out.b.c0; have f1 := W2.out.b.c1
    have r0 := W2.out.r.c0; have r1 := W2.out.r.c1; have rf := W2.out.rf; have rl := W2.out.r.lt
    go_wp2
    first
    | (refine bodyPost_ret (v := .tuple #[.agg #[.int .i64 3, .int .i64 M], .bool true]) (by simp [results, Tryz.results14, go_sem, r0, r1]; done) rfl (TypB.mk (by rw [HP.out, HM.out]; rfl) ?_)
       exact set2 W2.out.bel (by omega) _ _)
    | (refine bodyPost_ret (v := .tuple #[.agg #[.int .i64 0, .int .i64 0], .bool false]) (by simp [results, Tryz.results14, go_sem, r0, r1]; done) rfl (TypB.mk (by rw [HP.out]; rfl) ?_)
       exact set2 W2.out.bel (by omega) _ _)
end Go.Proofs.YtfnnhhhkdfgefaaGreatDoor
