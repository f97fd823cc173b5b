/- Package value: Bool, Not, And, Or, Truth, RightType, Right, valid, class. -/
import Derived.Test.YtmipomglbccjbaaDoorValFrame
import Derived.Test.YtmipomglbccjbaaDoorValR7
import Derived.Test.YtmipomglbccjbaaDoorDecA2
import Derived.Deep.RegionHeld3
namespace Go.Proofs.YtmipomglbccjbaaDoor
open Go.RowKit

theorem below_d1 (w : World) : Below w.heap.size w w.drew := ⟨rfl, rfl, rfl, Nat.le_refl _, fun _ _ => rfl⟩
theorem one_a (w : World) (o : Obj) : Below w.heap.size w (w.alloc o) := (Below.refl _ _).alloc (Nat.le_refl _) _
theorem ad_then {w w4 : World} {o : Obj} (h : Below (w.alloc o).drew.heap.size (w.alloc o).drew w4) : Below w.heap.size w w4 :=
  ((one_a w o).trans ((below_d1 (w.alloc o)).mono (by simp))).trans (h.mono (by simp [World.drew]))
theorem val_false (w : World) : Calls Tryd.prog 57 #[.bool false] w fun e w' => e = .returned (.agg #[.int .i64 1, .int .i64 0, .int .i64 0, .string ⟨#[]⟩]) ∧ Below w.heap.size w w' := by
  go_enter Tryd.func57, Tryd.ntmps57
  go_wp2
  refine bodyPost_ret (v := .agg #[.int .i64 1, .int .i64 0, .int .i64 0, .string ⟨#[]⟩]) (by simp [results, Tryd.results57, go_sem]) rfl ⟨rfl, ?_⟩
  exact one_a w _
theorem val_true (w : World) : Calls Tryd.prog 57 #[.bool true] w fun e w' => e = .returned (.agg #[.int .i64 1, .int .i64 1, .int .i64 0, .string ⟨#[]⟩]) ∧ Below w.heap.size w w' := by
  go_enter Tryd.func57, Tryd.ntmps57
  go_wp2
  refine bodyPost_ret (v := .agg #[.int .i64 1, .int .i64 1, .int .i64 0, .string ⟨#[]⟩]) (by simp [results, Tryd.results57, go_sem]) rfl ⟨rfl, ?_⟩
  exact one_a w _
theorem val_bool (b : Bool) (w : World) : Calls Tryd.prog 57 #[.bool b] w (Val ⟨1, if b then 1 else 0, 0, ⟨#[]⟩⟩ w) := by
  cases b
  · exact val_false w
  · exact val_true w
/-- a value in the block that the call made first -/
abbrev OneC (w : World) (ak an ac : Int) (as' : ByteArray) (w' : World) : Prop :=
  w'.cell? ⟨w.heap.size, 0, none⟩ = some (.int .i64 ak) ∧ w'.cell? ⟨w.heap.size, 1, none⟩ = some (.int .i64 an) ∧ w'.cell? ⟨w.heap.size, 2, none⟩ = some (.int .i64 ac) ∧ w'.cell? ⟨w.heap.size, 3, none⟩ = some (.string as') ∧
  Hid (Below w.heap.size w w' ∧ w.heap.size < w'.heap.size)
theorem OneC.bel {w w0 : World} {ak an ac : Int} {as' : ByteArray} (h : OneC w ak an ac as' w0) : Below w.heap.size w w0 := h.2.2.2.2.1
theorem OneC.keep {w w0 w1 : World} {ak an ac : Int} {as' : ByteArray} (h : OneC w ak an ac as' w0) (hb : Below w0.heap.size w0 w1) : OneC w ak an ac as' w1 := by
  obtain ⟨h0, h1, h2, h3, ⟨hl, hs⟩⟩ := h
  exact ⟨(hb.cell (p := ⟨w.heap.size, 0, none⟩) hs).trans h0, (hb.cell (p := ⟨w.heap.size, 1, none⟩) hs).trans h1, (hb.cell (p := ⟨w.heap.size, 2, none⟩) hs).trans h2, (hb.cell (p := ⟨w.heap.size, 3, none⟩) hs).trans h3,
    ⟨hl.trans (hb.mono hl.size), by have := hb.size; omega⟩⟩
theorem OneC.start (w : World) (ak an ac : Int) (as' : ByteArray) (t : TypeId) : OneC w ak an ac as' (w.alloc (.cells #[.int .i64 ak, .int .i64 an, .int .i64 ac, .string as'] t)) := by
  have a := Bx.new w ak an ac as' t
  exact ⟨a.c0, a.c1, a.c2, a.c3, ⟨one_a w _, a.lt⟩⟩
set_option maxRecDepth 100000 in
set_option maxHeartbeats 4000000 in
theorem right1_t (n sc : Int) (s : ByteArray) (w : World) (h0 : eqB 1 n sc s 1 0 0 ⟨#[]⟩ = true) : Calls Tryd.prog 49 #[.agg #[.int .i64 1, .int .i64 n, .int .i64 sc, .string s]] w (Says true w) := by
  have e0 := val_eql 1 n sc s 1 0 0 ⟨#[]⟩
  simp only [h0] at e0
  clear h0
  go_enter Tryd.func49, Tryd.ntmps49
  go_upto_region 5 with (fail)
  go_region_with (go_at_call 57; refine (val_false _).mono ?_; rintro e w4 ⟨rfl, hb⟩; have HB := Lib.hid hb; obtain ⟨hc, hf⟩ := bcell3 hb; clear hb)
  all_goals
    go_wp2
    go_ret
    exact Says.mk rfl (ad_then HB.out)
set_option maxRecDepth 100000 in
set_option maxHeartbeats 4000000 in
theorem right1_f (n sc : Int) (s : ByteArray) (w : World) (b : Bool) (h0 : eqB 1 n sc s 1 0 0 ⟨#[]⟩ = false) (h1 : eqB 1 n sc s 1 1 0 ⟨#[]⟩ = b) : Calls Tryd.prog 49 #[.agg #[.int .i64 1, .int .i64 n, .int .i64 sc, .string s]] w (Says b w) := by
  obtain ⟨G, hG⟩ : ∃ G : Bool → Int, ∀ b, G b = if b then 1 else 0 := ⟨_, fun _ => rfl⟩
  have VB : Hid (∀ (b : Bool) (W : World), Calls Tryd.prog 57 #[.bool b] W fun e w' => e = .returned (.agg #[.int .i64 1, .int .i64 (G b), .int .i64 0, .string ⟨#[]⟩]) ∧ Below W.heap.size W w') := by
    show ∀ (b : Bool) (W : World), Calls Tryd.prog 57 #[.bool b] W fun e w' => e = .returned (.agg #[.int .i64 1, .int .i64 (G b), .int .i64 0, .string ⟨#[]⟩]) ∧ Below W.heap.size W w'
    intro b W
    rw [hG]
    exact val_bool b W
  have e0 := val_eql 1 n sc s 1 (G false) 0 ⟨#[]⟩
  have e1 := val_eql 1 n sc s 1 (G true) 0 ⟨#[]⟩
  have g0 : eqB 1 n sc s 1 (G false) 0 ⟨#[]⟩ = false := by rw [show G false = 0 by rw [hG]; rfl]; exact h0
  have g1 : eqB 1 n sc s 1 (G true) 0 ⟨#[]⟩ = b := by rw [show G true = 1 by rw [hG]; rfl]; exact h1
  simp only [g0] at e0
  simp only [g1] at e1
  clear h0 h1 g0 g1 hG
  have T0 := Lib.hid (OneC.start w 1 n sc s 36)
  go_enter Tryd.func49, Tryd.ntmps49
  go_upto_region 5 with (fail)
  have S0 := Lib.hid (T0.out.keep (below_d1 _))
  go_region_held3 (fun w' => w'.cell? ⟨w.heap.size, 0, none⟩ = some (.int .i64 1) ∧ w'.cell? ⟨w.heap.size, 1, none⟩ = some (.int .i64 n) ∧ w'.cell? ⟨w.heap.size, 2, none⟩ = some (.int .i64 sc) ∧ w'.cell? ⟨w.heap.size, 3, none⟩ = some (.string s) ∧
    Hid (Below w.heap.size w w' ∧ w.heap.size < w'.heap.size)) (first | exact S0.out | exact OneC.keep (by assumption) hb) (first | (go_at_call 57; refine (VB.out _ _).mono ?_; rintro e w4 ⟨rfl, hb⟩))
  all_goals
    go_wp2
    go_ret
    refine Says.mk (by first | rfl | simp) ?_
    exact OneC.bel (by assumption)
theorem val_right1 (n sc : Int) (s : ByteArray) (w : World) : Calls Tryd.prog 49 #[.agg #[.int .i64 1, .int .i64 n, .int .i64 sc, .string s]] w (Says (Vm.rightB ⟨1, n, sc, s⟩) w) := by
  have hr : Vm.rightB ⟨1, n, sc, s⟩ = (eqB 1 n sc s 1 0 0 ⟨#[]⟩ || eqB 1 n sc s 1 1 0 ⟨#[]⟩) := by
    rw [eqB_nil, eqB_nil]
    show ((decide (n = 0) || decide (n = 1)) && decide (sc = 0) && decide (s.size = 0)) = _
    cases decide (n = 0) <;> cases decide (n = 1) <;> cases decide (sc = 0) <;> cases decide (s.size = 0) <;> rfl
  rw [hr]
  cases h0 : eqB 1 n sc s 1 0 0 ⟨#[]⟩
  · exact right1_f n sc s w _ h0 (by simp)
  · exact right1_t n sc s w h0
theorem val_right0 (n sc : Int) (s : ByteArray) (w : World) : Calls Tryd.prog 49 #[.agg #[.int .i64 0, .int .i64 n, .int .i64 sc, .string s]] w (Says (Vm.rightB ⟨0, n, sc, s⟩) w) := by
  have he := val_eql 0 n sc s 0 0 0 ⟨#[]⟩
  have hr : Vm.rightB ⟨0, n, sc, s⟩ = eqB 0 n sc s 0 0 0 ⟨#[]⟩ := by
    rw [eqB_nil]; simp [Vm.rightB, Bool.and_assoc]
  rw [hr]
  clear hr
  go_enter Tryd.func49, Tryd.ntmps49
  go_wp2
  go_ret
  exact Says.mk rfl (one_a w _)
theorem val_right2 (n sc : Int) (s : ByteArray) (w : World) : Calls Tryd.prog 49 #[.agg #[.int .i64 2, .int .i64 n, .int .i64 sc, .string s]] w (Says (Vm.rightB ⟨2, n, sc, s⟩) w) := by
  have he := val_eql 2 n sc s 2 n 0 ⟨#[]⟩
  have hr : Vm.rightB ⟨2, n, sc, s⟩ = eqB 2 n sc s 2 n 0 ⟨#[]⟩ := by
    rw [eqB_nil]; simp [Vm.rightB]
  rw [hr]
  clear hr
  go_enter Tryd.func49, Tryd.ntmps49
  go_wp2
  go_ret
  exact Says.mk rfl (one_a w _)
theorem val_right3 (n sc : Int) (s : ByteArray) (w : World) : Calls Tryd.prog 49 #[.agg #[.int .i64 3, .int .i64 n, .int .i64 sc, .string s]] w (Says (Vm.rightB ⟨3, n, sc, s⟩) w) := by
  have he := val_eql 3 n sc s 3 n sc ⟨#[]⟩
  have hr : Vm.rightB ⟨3, n, sc, s⟩ = (eqB 3 n sc s 3 n sc ⟨#[]⟩ && scB sc) := by
    rw [eqB_nil]; simp [Vm.rightB, Bool.and_comm]
  rw [hr]
  clear hr
  revert he
  generalize eqB 3 n sc s 3 n sc ⟨#[]⟩ = b
  intro he
  cases b
  · go_enter Tryd.func49, Tryd.ntmps49
    go_wp2
    go_ret
    exact Says.mk rfl (one_a w _)
  · go_enter Tryd.func49, Tryd.ntmps49
    go_wp2_with fail
    refine (dec_right sc _).mono ?_
    rintro e w1 ⟨rfl, rfl⟩
    go_wp2
    go_ret
    exact Says.mk rfl (one_a w _)
theorem val_right5 (n sc : Int) (s : ByteArray) (w : World) (hz : s.size ≤ maxLen) : Calls Tryd.prog 49 #[.agg #[.int .i64 5, .int .i64 n, .int .i64 sc, .string s]] w (Says (Vm.rightB ⟨5, n, sc, s⟩) w) := by
  unfold maxLen at hz
  have he := val_eql 5 n sc s 5 0 0 s
  have hr : Vm.rightB ⟨5, n, sc, s⟩ = (eqB 5 n sc s 5 0 0 s && decide ((s.size : Int) ≤ 200)) := by
    have e1 : decide ((s.size : Int) ≤ 200) = decide (s.size ≤ 200) := by rw [Bool.eq_iff_iff]; simp; omega
    rw [e1]
    unfold eqB; simp [Vm.rightB, beq_dec]
  rw [hr]
  clear hr
  revert he
  generalize eqB 5 n sc s 5 0 0 s = b
  intro he
  cases b
  all_goals
    cases hl : decide ((s.size : Int) ≤ 200)
    all_goals
      go_enter Tryd.func49, Tryd.ntmps49
      go_wp2
      go_ret
      exact Says.mk rfl (one_a w _)
theorem val_right4 (n sc : Int) (s : ByteArray) (w : World) (he : EnvV w) (hz : s.size ≤ maxLen) : Calls Tryd.prog 49 #[.agg #[.int .i64 4, .int .i64 n, .int .i64 sc, .string s]] w (Says (Vm.rightB ⟨4, n, sc, s⟩) w) := by
  unfold maxLen at hz
  have hq := val_eql 4 n sc s 4 0 0 s
  have hr : Vm.rightB ⟨4, n, sc, s⟩ = ((eqB 4 n sc s 4 0 0 s && decide ((s.size : Int) ≤ 200)) && Lib.validD s.data.toList) := by
    have e1 : decide ((s.size : Int) ≤ 200) = decide (s.size ≤ 200) := by rw [Bool.eq_iff_iff]; simp; omega
    rw [e1]
    unfold eqB; simp [Vm.rightB, beq_dec]
  rw [hr]
  clear hr
  have HU := Lib.hid (fun (W : World) (h : EnvV W) => Tryd.utf8_ValidString s W (by omega) h.tabs)
  have HE := Lib.hid (he.keep (one_a w (.cells #[.int .i64 4, .int .i64 n, .int .i64 sc, .string s] 36)))
  clear he
  revert hq HU
  generalize eqB 4 n sc s 4 0 0 s = b
  generalize Lib.validD s.data.toList = v
  intro hq HU
  cases b
  · go_enter Tryd.func49, Tryd.ntmps49
    go_wp2
    go_ret
    exact Says.mk rfl (one_a w _)
  · cases hl : decide ((s.size : Int) ≤ 200)
    · go_enter Tryd.func49, Tryd.ntmps49
      go_wp2
      go_ret
      exact Says.mk rfl (one_a w _)
    · go_enter Tryd.func49, Tryd.ntmps49
      go_wp2_with fail
      refine (HU.out _ HE.out).mono ?_
      rintro e w1 ⟨rfl, hb⟩
      have HB := Lib.hid hb
      clear hb
      go_wp2
      go_ret
      exact Says.mk rfl ((one_a w _).trans (HB.out.mono (by simp)))
theorem val_rightX (k n sc : Int) (s : ByteArray) (w : World) (hk : ¬ (0 ≤ k ∧ k ≤ 5)) : Calls Tryd.prog 49 #[.agg #[.int .i64 k, .int .i64 n, .int .i64 sc, .string s]] w (Says (Vm.rightB ⟨k, n, sc, s⟩) w) := by
  have hr : Vm.rightB ⟨k, n, sc, s⟩ = false := by
    unfold Vm.rightB
    rw [if_neg (by show k ≠ 0; omega), if_neg (by show k ≠ 1; omega), if_neg (by show k ≠ 2; omega), if_neg (by show k ≠ 3; omega), if_neg (by show k ≠ 4; omega), if_neg (by show k ≠ 5; omega)]
  rw [hr]
  clear hr
  have q0 : (k == 0) = false := by rw [beq_eq_false_iff_ne]; omega
  have q1 : (k == 1) = false := by rw [beq_eq_false_iff_ne]; omega
  have q2 : (k == 2) = false := by rw [beq_eq_false_iff_ne]; omega
  have q3 : (k == 3) = false := by rw [beq_eq_false_iff_ne]; omega
  have q4 : (k == 4) = false := by rw [beq_eq_false_iff_ne]; omega
  have q5 : (k == 5) = false := by rw [beq_eq_false_iff_ne]; omega
  clear hk
  go_enter Tryd.func49, Tryd.ntmps49
  go_wp2
  go_ret
  exact Says.mk rfl (one_a w _)
theorem val_right (k n sc : Int) (s : ByteArray) (w : World) (he : EnvV w) (hz : s.size ≤ maxLen) : Calls Tryd.prog 49 #[.agg #[.int .i64 k, .int .i64 n, .int .i64 sc, .string s]] w (Says (Vm.rightB ⟨k, n, sc, s⟩) w) := by
  by_cases hk : 0 ≤ k ∧ k ≤ 5
  · rcases (show k = 0 ∨ k = 1 ∨ k = 2 ∨ k = 3 ∨ k = 4 ∨ k = 5 by omega) with rfl | rfl | rfl | rfl | rfl | rfl
    · exact val_right0 n sc s w
    · exact val_right1 n sc s w
    · exact val_right2 n sc s w
    · exact val_right3 n sc s w
    · exact val_right4 n sc s w he hz
    · exact val_right5 n sc s w hz
  · exact val_rightX k n sc s w hk
end Go.Proofs.YtmipomglbccjbaaDoor
