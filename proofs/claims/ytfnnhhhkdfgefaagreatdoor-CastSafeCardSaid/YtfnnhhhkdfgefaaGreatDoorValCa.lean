/- Package value: Bool, Not, And, Or, Truth, RightType, Right, valid, class. -/
import Derived.Test.YtfnnhhhkdfgefaaGreatDoorValFrame
import Derived.Test.YtfnnhhhkdfgefaaGreatDoorValR7
import Derived.Test.YtfnnhhhkdfgefaaGreatDoorDecAm
import Derived.Deep.RegionHeld3
import Derived.Test.YtfnnhhhkdfgefaaGreatDoorValMm
import Derived.Test.YtfnnhhhkdfgefaaGreatDoorValR13
namespace Go.Proofs.YtfnnhhhkdfgefaaGreatDoor
open Go.RowKit

theorem below_d1 (w : World) : Below w.heap.size w w.drew := ⟨rfl, rfl, rfl, Nat.le_refl _, fun _ _ => rfl⟩
theorem one_a (w : World) (o : Obj) : Below w.heap.size w (w.alloc o) := (Below.refl _ _).alloc (Nat.le_refl _) _
theorem ad_then {w w4 : World} {o : Obj} (h : Below (w.alloc o).drew.heap.size (w.alloc o).drew w4) : Below w.heap.size w w4 :=
  ((one_a w o).trans ((below_d1 (w.alloc o)).mono (by simp))).trans (h.mono (by simp [World.drew]))
theorem val_false (w : World) : Calls Tryz.prog 33 #[.bool false] w fun e w' => e = .returned (.agg #[.int .i64 1, .int .i64 0, .int .i64 0, .string ⟨#[]⟩]) ∧ Below w.heap.size w w' := by
  go_enter Tryz.func33, Tryz.ntmps33
  go_wp2
  refine bodyPost_ret (v := .agg #[.int .i64 1, .int .i64 0, .int .i64 0, .string ⟨#[]⟩]) (by simp [results, Tryz.results33, go_sem]) rfl ⟨rfl, ?_⟩
  exact one_a w _
theorem val_true (w : World) : Calls Tryz.prog 33 #[.bool true] w fun e w' => e = .returned (.agg #[.int .i64 1, .int .i64 1, .int .i64 0, .string ⟨#[]⟩]) ∧ Below w.heap.size w w' := by
  go_enter Tryz.func33, Tryz.ntmps33
  go_wp2
  refine bodyPost_ret (v := .agg #[.int .i64 1, .int .i64 1, .int .i64 0, .string ⟨#[]⟩]) (by simp [results, Tryz.results33, go_sem]) rfl ⟨rfl, ?_⟩
  exact one_a w _
theorem val_bool (b : Bool) (w : World) : Calls Tryz.prog 33 #[.bool b] w (Val ⟨1, if b then 1 else 0, 0, ⟨#[]⟩⟩ w) := by
  cases b
  · exact val_false w
  · exact val_true w
theorem val_rtype (k sc : Int) (w : World) : Calls Tryz.prog 16 #[.agg #[.int .i64 k, .int .i64 sc]] w (Says (Vm.typeB k sc) w) := by
  by_cases hk : k = 1 ∨ k = 2 ∨ k = 4 ∨ k = 5
  · have hr : Vm.typeB k sc = (sc == 0) := by unfold Vm.typeB; rw [if_pos hk, beq_dec]
    rw [hr]
    clear hr
    rcases hk with rfl | rfl | rfl | rfl
    all_goals
      go_enter Tryz.func16, Tryz.ntmps16
      go_wp2
      go_ret
      exact Says.mk rfl (one_a w _)
  · by_cases h3 : k = 3
    · subst h3
      have hr : Vm.typeB 3 sc = scB sc := by unfold Vm.typeB; rw [if_neg hk, if_pos rfl]
      rw [hr]
      clear hr
      go_enter Tryz.func16, Tryz.ntmps16
      go_wp2_with fail
      refine (dec_right sc _).mono ?_
      rintro e w1 ⟨rfl, rfl⟩
      go_wp2
      go_ret
      exact Says.mk rfl (one_a w _)
    · have hr : Vm.typeB k sc = false := by unfold Vm.typeB; rw [if_neg hk, if_neg h3]
      rw [hr]
      clear hr
      have q3 : (k == 3) = false := by rw [beq_eq_false_iff_ne]; omega
      by_cases hlo : 1 ≤ k
      · have q1 : decide ((1 : Int) ≤ k) = true := by simpa using hlo
        have q5 : decide (k ≤ (5 : Int)) = false := by simp; omega
        clear hk h3 hlo
        go_enter Tryz.func16, Tryz.ntmps16
        go_wp2
        go_ret
        exact Says.mk rfl (one_a w _)
      · have q1 : decide ((1 : Int) ≤ k) = false := by simpa using hlo
        clear hk h3 hlo
        go_enter Tryz.func16, Tryz.ntmps16
        go_wp2
        go_ret
        exact Says.mk rfl (one_a w _)
/-- a value in the block that the call made first -/
abbrev OneC (w : World) (ak an ac : Int) (as' : ByteArray) (w' : World) : Prop :=
  w'.cell? ⟨w.heap.size, 0, none⟩ = some (.int .i64 ak) ∧ w'.cell? ⟨w.heap.size, 1, none⟩ = some (.int .i64 an) ∧ w'.cell? ⟨w.heap.size, 2, none⟩ = some (.int .i64 ac) ∧ w'.cell? ⟨w.heap.size, 3, none⟩ = some (.string as') ∧
  Hid (Below w.heap.size w w' ∧ w.heap.size < w'.heap.size)
theorem OneC.bel {w w0 : World} {ak an ac : Int} {as' : ByteArray} (h : OneC w ak an ac as' w0) : Below w.heap.size w w0 := h.2.2.2.2.1
theorem OneC.keep {w w0 w1 : World} {ak an ac : Int} {as' : ByteArray} (h : OneC w ak an ac as' w0) (hb : Below w0.heap.size w0 w1) : OneC w ak an ac as' w1 := by
  obtain ⟨h0, h1, h2, h3, ⟨hl, hs⟩⟩ := h
  exact ⟨(hb.cell (p := ⟨w.heap.size, 0, none⟩) hs).trans h0, (hb.cell (p := ⟨w.heap.size, 1, none⟩) hs).trans h1, (hb.cell (p := ⟨w.heap.size, 2, none⟩) hs).trans h2, (hb.cell (p := ⟨w.heap.size, 3, none⟩) hs).trans h3,
    ⟨hl.trans (hb.mono hl.size), by have := hb.size; omega⟩⟩
theorem OneC.start (w : World) (ak an ac : Int) (as' : ByteArray) (t : TypeId) : OneC w ak an ac as' (w.alloc (.cells #[.int .i64 ak, .int .i64 an, .int .i64 ac, .string as'] t)) := by
  have a := Bx.new w ak an ac as' t
  exact ⟨a.c0, a.c1, a.c2, a.c3, ⟨one_a w _, a.lt⟩⟩
set_option maxRecDepth 100000 in
set_option maxHeartbeats 4000000 in
theorem right1_t (n sc : Int) (s : ByteArray) (w : World) (h0 : eqB 1 n sc s 1 0 0 ⟨#[]⟩ = true) : Calls Tryz.prog 17 #[.agg #[.int .i64 1, .int .i64 n, .int .i64 sc, .string s]] w (Says true w) := by
  have e0 := val_eql 1 n sc s 1 0 0 ⟨#[]⟩
  simp only [h0] at e0
  clear h0
  go_enter Tryz.func17, Tryz.ntmps17
  go_upto_region 5 with (fail)
  go_region_with (go_at_call 33; refine (val_false _).mono ?_; rintro e w4 ⟨rfl, hb⟩; have HB := Lib.hid hb; obtain ⟨hc, hf⟩ := bcell3 hb; clear hb)
  all_goals
    go_wp2
    go_ret
    exact Says.mk rfl (ad_then HB.out)
set_option maxRecDepth 100000 in
set_option maxHeartbeats 4000000 in
theorem right1_f (n sc : Int) (s : ByteArray) (w : World) (b : Bool) (h0 : eqB 1 n sc s 1 0 0 ⟨#[]⟩ = false) (h1 : eqB 1 n sc s 1 1 0 ⟨#[]⟩ = b) : Calls Tryz.prog 17 #[.agg #[.int .i64 1, .int .i64 n, .int .i64 sc, .string s]] w (Says b w) := by
  obtain ⟨G, hG⟩ : ∃ G : Bool → Int, ∀ b, G b = if b then 1 else 0 := ⟨_, fun _ => rfl⟩
  have VB : Hid (∀ (b : Bool) (W : World), Calls Tryz.prog 33 #[.bool b] W fun e w' => e = .returned (.agg #[.int .i64 1, .int .i64 (G b), .int .i64 0, .string ⟨#[]⟩]) ∧ Below W.heap.size W w') := by
    show ∀ (b : Bool) (W : World), Calls Tryz.prog 33 #[.bool b] W fun e w' => e = .returned (.agg #[.int .i64 1, .int .i64 (G b), .int .i64 0, .string ⟨#[]⟩]) ∧ Below W.heap.size W w'
    intro b W
    rw [hG]
    exact val_bool b W
  have e0 := val_eql 1 n sc s 1 (G false) 0 ⟨#[]⟩
  have e1 := val_eql 1 n sc s 1 (G true) 0 ⟨#[]⟩
  have g0 : eqB 1 n sc s 1 (G false) 0 ⟨#[]⟩ = false := by rw [show G false = 0 by rw [hG]; rfl]; exact h0
  have g1 : eqB 1 n sc s 1 (G true) 0 ⟨#[]⟩ = b := by rw [show G true = 1 by rw [hG]; rfl]; exact h1
  simp only [g0] at e0
  simp only [g1] at e1
  clear h0 h1 g0 g1 hG
  have T0 := Lib.hid (OneC.start w 1 n sc s 24)
  go_enter Tryz.func17, Tryz.ntmps17
  go_upto_region 5 with (fail)
  have S0 := Lib.hid (T0.out.keep (below_d1 _))
  go_region_held3 (fun w' => w'.cell? ⟨w.heap.size, 0, none⟩ = some (.int .i64 1) ∧ w'.cell? ⟨w.heap.size, 1, none⟩ = some (.int .i64 n) ∧ w'.cell? ⟨w.heap.size, 2, none⟩ = some (.int .i64 sc) ∧ w'.cell? ⟨w.heap.size, 3, none⟩ = some (.string s) ∧
    Hid (Below w.heap.size w w' ∧ w.heap.size < w'.heap.size)) (first | exact S0.out | exact OneC.keep (by assumption) hb) (first | (go_at_call 33; refine (VB.out _ _).mono ?_; rintro e w4 ⟨rfl, hb⟩))
  all_goals
    go_wp2
    go_ret
    refine Says.mk (by first | rfl | simp) ?_
    exact OneC.bel (by assumption)
theorem val_right1 (n sc : Int) (s : ByteArray) (w : World) : Calls Tryz.prog 17 #[.agg #[.int .i64 1, .int .i64 n, .int .i64 sc, .string s]] w (Says (Vm.rightB ⟨1, n, sc, s⟩) w) := by
  have hr : Vm.rightB ⟨1, n, sc, s⟩ = (eqB 1 n sc s 1 0 0 ⟨#[]⟩ || eqB 1 n sc s 1 1 0 ⟨#[]⟩) := by
    rw [eqB_nil, eqB_nil]
    show ((decide (n = 0) || decide (n = 1)) && decide (sc = 0) && decide (s.size = 0)) = _
    cases decide (n = 0) <;> cases decide (n = 1) <;> cases decide (sc = 0) <;> cases decide (s.size = 0) <;> rfl
  rw [hr]
  cases h0 : eqB 1 n sc s 1 0 0 ⟨#[]⟩
  · exact right1_f n sc s w _ h0 (by simp)
  · exact right1_t n sc s w h0
theorem val_right0 (n sc : Int) (s : ByteArray) (w : World) : Calls Tryz.prog 17 #[.agg #[.int .i64 0, .int .i64 n, .int .i64 sc, .string s]] w (Says (Vm.rightB ⟨0, n, sc, s⟩) w) := by
  have he := val_eql 0 n sc s 0 0 0 ⟨#[]⟩
  have hr : Vm.rightB ⟨0, n, sc, s⟩ = eqB 0 n sc s 0 0 0 ⟨#[]⟩ := by
    rw [eqB_nil]; simp [Vm.rightB, Bool.and_assoc]
  rw [hr]
  clear hr
  go_enter Tryz.func17, Tryz.ntmps17
  go_wp2
  go_ret
  exact Says.mk rfl (one_a w _)
theorem val_right2 (n sc : Int) (s : ByteArray) (w : World) : Calls Tryz.prog 17 #[.agg #[.int .i64 2, .int .i64 n, .int .i64 sc, .string s]] w (Says (Vm.rightB ⟨2, n, sc, s⟩) w) := by
  have he := val_eql 2 n sc s 2 n 0 ⟨#[]⟩
  have hr : Vm.rightB ⟨2, n, sc, s⟩ = eqB 2 n sc s 2 n 0 ⟨#[]⟩ := by
    rw [eqB_nil]; simp [Vm.rightB]
  rw [hr]
  clear hr
  go_enter Tryz.func17, Tryz.ntmps17
  go_wp2
  go_ret
  exact Says.mk rfl (one_a w _)
theorem val_right3 (n sc : Int) (s : ByteArray) (w : World) : Calls Tryz.prog 17 #[.agg #[.int .i64 3, .int .i64 n, .int .i64 sc, .string s]] w (Says (Vm.rightB ⟨3, n, sc, s⟩) w) := by
  have he := val_eql 3 n sc s 3 n sc ⟨#[]⟩
  have hr : Vm.rightB ⟨3, n, sc, s⟩ = (eqB 3 n sc s 3 n sc ⟨#[]⟩ && scB sc) := by
    rw [eqB_nil]; simp [Vm.rightB, Bool.and_comm]
  rw [hr]
  clear hr
  revert he
  generalize eqB 3 n sc s 3 n sc ⟨#[]⟩ = b
  intro he
  cases b
  · go_enter Tryz.func17, Tryz.ntmps17
    go_wp2
    go_ret
    exact Says.mk rfl (one_a w _)
  · go_enter Tryz.func17, Tryz.ntmps17
    go_wp2_with fail
    refine (dec_right sc _).mono ?_
    rintro e w1 ⟨rfl, rfl⟩
    go_wp2
    go_ret
    exact Says.mk rfl (one_a w _)
theorem val_right5 (n sc : Int) (s : ByteArray) (w : World) (hz : s.size ≤ maxLen) : Calls Tryz.prog 17 #[.agg #[.int .i64 5, .int .i64 n, .int .i64 sc, .string s]] w (Says (Vm.rightB ⟨5, n, sc, s⟩) w) := by
  unfold maxLen at hz
  have he := val_eql 5 n sc s 5 0 0 s
  have hr : Vm.rightB ⟨5, n, sc, s⟩ = (eqB 5 n sc s 5 0 0 s && decide ((s.size : Int) ≤ 200)) := by
    have e1 : decide ((s.size : Int) ≤ 200) = decide (s.size ≤ 200) := by rw [Bool.eq_iff_iff]; simp; omega
    rw [e1]
    unfold eqB; simp [Vm.rightB, beq_dec]
  rw [hr]
  clear hr
  revert he
  generalize eqB 5 n sc s 5 0 0 s = b
  intro he
  cases b
  all_goals
    cases hl : decide ((s.size : Int) ≤ 200)
    all_goals
      go_enter Tryz.func17, Tryz.ntmps17
      go_wp2
      go_ret
      exact Says.mk rfl (one_a w _)
theorem val_right4 (n sc : Int) (s : ByteArray) (w : World) (he : EnvV w) (hz : s.size ≤ maxLen) : Calls Tryz.prog 17 #[.agg #[.int .i64 4, .int .i64 n, .int .i64 sc, .string s]] w (Says (Vm.rightB ⟨4, n, sc, s⟩) w) := by
  unfold maxLen at hz
  have hq := val_eql 4 n sc s 4 0 0 s
  have hr : Vm.rightB ⟨4, n, sc, s⟩ = ((eqB 4 n sc s 4 0 0 s && decide ((s.size : Int) ≤ 200)) && Lib.validD s.data.toList) := by
    have e1 : decide ((s.size : Int) ≤ 200) = decide (s.size ≤ 200) := by rw [Bool.eq_iff_iff]; simp; omega
    rw [e1]
    unfold eqB; simp [Vm.rightB, beq_dec]
  rw [hr]
  clear hr
  have HU := Lib.hid (fun (W : World) (h : EnvV W) => Tryz.utf8_ValidString s W (by omega) h.tabs)
  have HE := Lib.hid (he.keep (one_a w (.cells #[.int .i64 4, .int .i64 n, .int .i64 sc, .string s] 24)))
  clear he
  revert hq HU
  generalize eqB 4 n sc s 4 0 0 s = b
  generalize Lib.validD s.data.toList = v
  intro hq HU
  cases b
  · go_enter Tryz.func17, Tryz.ntmps17
    go_wp2
    go_ret
    exact Says.mk rfl (one_a w _)
  · cases hl : decide ((s.size : Int) ≤ 200)
    · go_enter Tryz.func17, Tryz.ntmps17
      go_wp2
      go_ret
      exact Says.mk rfl (one_a w _)
    · go_enter Tryz.func17, Tryz.ntmps17
      go_wp2_with fail
      refine (HU.out _ HE.out).mono ?_
      rintro e w1 ⟨rfl, hb⟩
      have HB := Lib.hid hb
      clear hb
      go_wp2
      go_ret
      exact Says.mk rfl ((one_a w _).trans (HB.out.mono (by simp)))
theorem val_rightX (k n sc : Int) (s : ByteArray) (w : World) (hk : ¬ (0 ≤ k ∧ k ≤ 5)) : Calls Tryz.prog 17 #[.agg #[.int .i64 k, .int .i64 n, .int .i64 sc, .string s]] w (Says (Vm.rightB ⟨k, n, sc, s⟩) w) := by
  have hr : Vm.rightB ⟨k, n, sc, s⟩ = false := by
    unfold Vm.rightB
    rw [if_neg (by show k ≠ 0; omega), if_neg (by show k ≠ 1; omega), if_neg (by show k ≠ 2; omega), if_neg (by show k ≠ 3; omega), if_neg (by show k ≠ 4; omega), if_neg (by show k ≠ 5; omega)]
  rw [hr]
  clear hr
  have q0 : (k == 0) = false := by rw [beq_eq_false_iff_ne]; omega
  have q1 : (k == 1) = false := by rw [beq_eq_false_iff_ne]; omega
  have q2 : (k == 2) = false := by rw [beq_eq_false_iff_ne]; omega
  have q3 : (k == 3) = false := by rw [beq_eq_false_iff_ne]; omega
  have q4 : (k == 4) = false := by rw [beq_eq_false_iff_ne]; omega
  have q5 : (k == 5) = false := by rw [beq_eq_false_iff_ne]; omega
  clear hk
  go_enter Tryz.func17, Tryz.ntmps17
  go_wp2
  go_ret
  exact Says.mk rfl (one_a w _)
theorem val_right (k n sc : Int) (s : ByteArray) (w : World) (he : EnvV w) (hz : s.size ≤ maxLen) : Calls Tryz.prog 17 #[.agg #[.int .i64 k, .int .i64 n, .int .i64 sc, .string s]] w (Says (Vm.rightB ⟨k, n, sc, s⟩) w) := by
  by_cases hk : 0 ≤ k ∧ k ≤ 5
  · rcases (show k = 0 ∨ k = 1 ∨ k = 2 ∨ k = 3 ∨ k = 4 ∨ k = 5 by omega) with rfl | rfl | rfl | rfl | rfl | rfl
    · exact val_right0 n sc s w
    · exact val_right1 n sc s w
    · exact val_right2 n sc s w
    · exact val_right3 n sc s w
    · exact val_right4 n sc s w he hz
    · exact val_right5 n sc s w hz
  · exact val_rightX k n sc s w hk
theorem val_valid (k n sc : Int) (s : ByteArray) (w : World) (he : EnvV w) (hz : s.size ≤ maxLen) : Calls Tryz.prog 29 #[.agg #[.int .i64 k, .int .i64 n, .int .i64 sc, .string s]] w (Val (Vm.plain ⟨k, n, sc, s⟩) w) := by
  have HR := Lib.hid (fun (W : World) (h : EnvV W) => val_right k n sc s W h hz)
  have HE := Lib.hid (he.keep (two w (.cells #[.int .i64 k, .int .i64 n, .int .i64 sc, .string s] 24) (.cells #[.int .i64 0, .int .i64 0, .int .i64 0, .string ⟨#[]⟩] 24)))
  unfold Vm.plain
  revert HR
  generalize Vm.rightB ⟨k, n, sc, s⟩ = b
  intro HR
  clear hz he
  cases b
  · show Calls _ _ _ _ (Val Vm.nil w)
    go_enter Tryz.func29, Tryz.ntmps29
    go_wp2_with fail
    refine (HR.out _ HE.out).mono ?_
    rintro e w1 ⟨rfl, hb⟩
    have HB := Lib.hid hb
    obtain ⟨hc, hf⟩ := bcell3 hb
    have hlt : w.heap.size + 1 < w1.heap.size := by have := hb.size; simp at this; omega
    clear hb HR HE
    go_wp2
    refine bodyPost_ret (v := .agg #[.int .i64 0, .int .i64 0, .int .i64 0, .string ⟨#[]⟩]) (by simp [results, Tryz.results29, go_sem, hc]) rfl ⟨rfl, ?_⟩
    exact set4 ((two w _ _).trans (HB.out.mono (by simp; omega))) (Nat.le_succ _) _ _ _ _
  · show Calls _ _ _ _ (Val ⟨k, n, sc, s⟩ w)
    go_enter Tryz.func29, Tryz.ntmps29
    go_wp2_with fail
    refine (HR.out _ HE.out).mono ?_
    rintro e w1 ⟨rfl, hb⟩
    have HB := Lib.hid hb
    obtain ⟨hc, hf⟩ := bcell3 hb
    have hlt : w.heap.size + 1 < w1.heap.size := by have := hb.size; simp at this; omega
    clear hb HR HE
    go_wp2
    refine bodyPost_ret (v := .agg #[.int .i64 k, .int .i64 n, .int .i64 sc, .string s]) (by simp [results, Tryz.results29, go_sem, hc]) rfl ⟨rfl, ?_⟩
    exact set4 ((two w _ _).trans (HB.out.mono (by simp; omega))) (Nat.le_succ _) _ _ _ _
/-- the kind by which a value is compared -/
def cls (k : Int) : Int := if k = 3 then 2 else k
theorem val_class (k n sc : Int) (s : ByteArray) (w : World) : Calls Tryz.prog 30 #[.agg #[.int .i64 k, .int .i64 n, .int .i64 sc, .string s]] w (Num (cls k) w) := by
  by_cases h : k = 3
  · subst h
    rw [show cls 3 = 2 by decide]
    go_enter Tryz.func30, Tryz.ntmps30
    go_wp2
    go_ret
    exact ⟨rfl, one_a w _⟩
  · have hm : cls k = k := by unfold cls; rw [if_neg h]
    have q : (k == 3) = false := by rw [beq_eq_false_iff_ne]; exact h
    rw [hm]
    clear hm h
    go_enter Tryz.func30, Tryz.ntmps30
    go_wp2
    go_ret
    exact ⟨rfl, one_a w _⟩
end Go.Proofs.YtfnnhhhkdfgefaaGreatDoor
/- Package value: compareInClass, Compare, Order, Of. -/
namespace Go.Proofs.YtfnnhhhkdfgefaaGreatDoor
open Go.RowKit

/-- two values in the blocks that the call made first -/
abbrev PairC (w : World) (ak an ac : Int) (as' : ByteArray) (bk bn bc : Int) (bs : ByteArray) (w' : World) : Prop :=
  w'.cell? ⟨w.heap.size, 0, none⟩ = some (.int .i64 ak) ∧ w'.cell? ⟨w.heap.size, 1, none⟩ = some (.int .i64 an) ∧ w'.cell? ⟨w.heap.size, 2, none⟩ = some (.int .i64 ac) ∧ w'.cell? ⟨w.heap.size, 3, none⟩ = some (.string as') ∧
  w'.cell? ⟨w.heap.size + 1, 0, none⟩ = some (.int .i64 bk) ∧ w'.cell? ⟨w.heap.size + 1, 1, none⟩ = some (.int .i64 bn) ∧ w'.cell? ⟨w.heap.size + 1, 2, none⟩ = some (.int .i64 bc) ∧ w'.cell? ⟨w.heap.size + 1, 3, none⟩ = some (.string bs) ∧
  Hid (Below w.heap.size w w' ∧ w.heap.size + 1 < w'.heap.size)
theorem PairC.bel {w w0 : World} {ak an ac : Int} {as' : ByteArray} {bk bn bc : Int} {bs : ByteArray} (h : PairC w ak an ac as' bk bn bc bs w0) : Below w.heap.size w w0 := h.2.2.2.2.2.2.2.2.1
theorem PairC.lt {w w0 : World} {ak an ac : Int} {as' : ByteArray} {bk bn bc : Int} {bs : ByteArray} (h : PairC w ak an ac as' bk bn bc bs w0) : w.heap.size + 1 < w0.heap.size := h.2.2.2.2.2.2.2.2.2
theorem PairC.keep {w w0 w1 : World} {ak an ac : Int} {as' : ByteArray} {bk bn bc : Int} {bs : ByteArray} (h : PairC w ak an ac as' bk bn bc bs w0) (hb : Below w0.heap.size w0 w1) : PairC w ak an ac as' bk bn bc bs w1 := by
  obtain ⟨h0, h1, h2, h3, g0, g1, g2, g3, ⟨hl, hs⟩⟩ := h
  have lt0 : w.heap.size < w0.heap.size := by omega
  exact ⟨(hb.cell (p := ⟨w.heap.size, 0, none⟩) lt0).trans h0, (hb.cell (p := ⟨w.heap.size, 1, none⟩) lt0).trans h1, (hb.cell (p := ⟨w.heap.size, 2, none⟩) lt0).trans h2, (hb.cell (p := ⟨w.heap.size, 3, none⟩) lt0).trans h3,
    (hb.cell (p := ⟨w.heap.size + 1, 0, none⟩) hs).trans g0, (hb.cell (p := ⟨w.heap.size + 1, 1, none⟩) hs).trans g1, (hb.cell (p := ⟨w.heap.size + 1, 2, none⟩) hs).trans g2, (hb.cell (p := ⟨w.heap.size + 1, 3, none⟩) hs).trans g3,
    ⟨hl.trans (hb.mono hl.size), by have := hb.size; omega⟩⟩
theorem PairC.start (w : World) (ak an ac : Int) (as' : ByteArray) (bk bn bc : Int) (bs : ByteArray) (t t' : TypeId) :
    PairC w ak an ac as' bk bn bc bs ((w.alloc (.cells #[.int .i64 ak, .int .i64 an, .int .i64 ac, .string as'] t)).alloc (.cells #[.int .i64 bk, .int .i64 bn, .int .i64 bc, .string bs] t')) := by
  have a := (Bx.new w ak an ac as' t).alloc (.cells #[.int .i64 bk, .int .i64 bn, .int .i64 bc, .string bs] t')
  have b := Bx.new (w.alloc (.cells #[.int .i64 ak, .int .i64 an, .int .i64 ac, .string as'] t)) bk bn bc bs t'
  rw [show (w.alloc (.cells #[.int .i64 ak, .int .i64 an, .int .i64 ac, .string as'] t)).heap.size = w.heap.size + 1 by simp] at b
  exact ⟨a.c0, a.c1, a.c2, a.c3, b.c0, b.c1, b.c2, b.c3, ⟨two w _ _, by simp⟩⟩
set_option maxRecDepth 100000 in
set_option maxHeartbeats 4000000 in
theorem val_cic (ak an ac : Int) (as' : ByteArray) (bk bn bc : Int) (bs : ByteArray) (w : World) (ha : i64 an) (hb : i64 bn) :
    Calls Tryz.prog 31 #[.agg #[.int .i64 ak, .int .i64 an, .int .i64 ac, .string as'], .agg #[.int .i64 bk, .int .i64 bn, .int .i64 bc, .string bs]] w (Num (or2 (compM an ac bn bc) (Lib.compareBytes as'.data.toList bs.data.toList)) w) := by
  have DC := Lib.hid (dec_compare an ac bn bc · ha hb)
  have SC := Lib.hid (Tryz.strings_Compare as' bs)
  clear ha hb
  revert DC SC
  generalize compM an ac bn bc = x
  generalize Lib.compareBytes as'.data.toList bs.data.toList = y
  intro DC SC
  have T0 := Lib.hid (PairC.start w ak an ac as' bk bn bc bs 24 24)
  go_enter Tryz.func31, Tryz.ntmps31
  go_upto_region 1 with (fail)
  have S0 := Lib.hid (T0.out.keep (below_d1 _))
  go_region_held3 (fun w' => w'.cell? ⟨w.heap.size, 0, none⟩ = some (.int .i64 ak) ∧ w'.cell? ⟨w.heap.size, 1, none⟩ = some (.int .i64 an) ∧ w'.cell? ⟨w.heap.size, 2, none⟩ = some (.int .i64 ac) ∧ w'.cell? ⟨w.heap.size, 3, none⟩ = some (.string as') ∧
    w'.cell? ⟨w.heap.size + 1, 0, none⟩ = some (.int .i64 bk) ∧ w'.cell? ⟨w.heap.size + 1, 1, none⟩ = some (.int .i64 bn) ∧ w'.cell? ⟨w.heap.size + 1, 2, none⟩ = some (.int .i64 bc) ∧ w'.cell? ⟨w.heap.size + 1, 3, none⟩ = some (.string bs) ∧
    Hid (Below w.heap.size w w' ∧ w.heap.size + 1 < w'.heap.size)) (first | exact S0.out | exact PairC.keep (by assumption) hb | assumption | exact PairC.keep (by assumption) (one_a _ _)) (first
    | (go_at_call 45; refine (DC.out _).mono ?_; rintro e w4 ⟨rfl, hb⟩)
    | (go_at_call 46; refine (SC.out _).mono ?_; rintro e w5 ⟨rfl, rfl⟩)
    | (go_at_call 44; refine (cmp_or2 _ x y _ (by first | exact (cells2 _ _ (by simp) _ _ _).1 | exact (cells2d _ _ (by simp) _ _ _).1) (by first | exact (cells2 _ _ (by simp) _ _ _).2 | exact (cells2d _ _ (by simp) _ _ _).2)).mono ?_; rintro e w6 ⟨rfl, rfl⟩))
  all_goals
    go_wp2
    go_ret
    exact ⟨rfl, by first | exact PairC.bel (by assumption) | exact PairC.bel (PairC.keep (by assumption) (one_a _ _))⟩
end Go.Proofs.YtfnnhhhkdfgefaaGreatDoor
/- Package value: Compare, Order. -/
namespace Go.Proofs.YtfnnhhhkdfgefaaGreatDoor
open Go.RowKit

theorem or2_r (x : Int) : or2 x 0 = x := by unfold or2; split <;> simp_all
theorem or2_l (y : Int) : or2 0 y = y := rfl
theorem cb_nil : Lib.compareBytes [] [] = 0 := rfl
theorem ci00 : Lib.compareInt 0 0 = 0 := by decide
theorem cmb (n m : Int) : compM n 0 m 0 = Lib.compareInt n m := by
  rw [comp_int _ _ _ _ (by decide) (by decide)]
  simp [icmp, Lib.compareInt]
theorem comp_math (a b : Vm.Cl) (ha : Vm.rightB a = true) (hb : Vm.rightB b = true) :
    Vm.comp a b = if a.k = 0 ∨ cls a.k ≠ cls b.k then (0, false) else (or2 (compM a.n a.sc b.n b.sc) (Lib.compareBytes a.s.data.toList b.s.data.toList), true) := by
  rcases Vm.right_cases ha with rfl | ⟨n, hn1, rfl⟩ | ⟨n, rfl⟩ | ⟨n, s, hs, rfl⟩ | ⟨s, hs, hv, rfl⟩ | ⟨s, hs, rfl⟩ <;>
  rcases Vm.right_cases hb with rfl | ⟨n', hn1', rfl⟩ | ⟨n', rfl⟩ | ⟨n', s', hs', rfl⟩ | ⟨s', hs', hv', rfl⟩ | ⟨s', hs', rfl⟩ <;>
  simp [Vm.comp, Vm.isNum, cls, Vm.nil, or2_r, or2_l, cb_nil, ci00, cmb]
theorem kinds (a : Vm.Cl) (ha : Vm.rightB a = true) : 0 ≤ a.k ∧ a.k ≤ 5 := by
  rcases Vm.right_cases ha with rfl | ⟨n, hn1, rfl⟩ | ⟨n, rfl⟩ | ⟨n, s, hs, rfl⟩ | ⟨s, hs, hv, rfl⟩ | ⟨s, hs, rfl⟩ <;> simp [Vm.nil]
/-- two values in blocks that can be written -/
structure Tw (w : World) (ak an ac : Int) (as' : ByteArray) (bk bn bc : Int) (bs : ByteArray) (W : World) : Prop where
  a : Fx w.heap.size ak an ac as' W
  b : Fx (w.heap.size + 1) bk bn bc bs W
  bel : Below w.heap.size w W
theorem Tw.keep {w W W' : World} {ak an ac : Int} {as' : ByteArray} {bk bn bc : Int} {bs : ByteArray} (h : Tw w ak an ac as' bk bn bc bs W) (hb : Below W.heap.size W W') : Tw w ak an ac as' bk bn bc bs W' :=
  ⟨h.a.keep hb, h.b.keep hb, h.bel.trans (hb.mono h.bel.size)⟩
theorem Tw.new (w : World) (ak an ac : Int) (as' : ByteArray) (bk bn bc : Int) (bs : ByteArray) (t t' : TypeId) :
    Tw w ak an ac as' bk bn bc bs ((w.alloc (.cells #[.int .i64 ak, .int .i64 an, .int .i64 ac, .string as'] t)).alloc (.cells #[.int .i64 bk, .int .i64 bn, .int .i64 bc, .string bs] t')) := by
  have b := Fx.new (w.alloc (.cells #[.int .i64 ak, .int .i64 an, .int .i64 ac, .string as'] t)) bk bn bc bs t'
  rw [show (w.alloc (.cells #[.int .i64 ak, .int .i64 an, .int .i64 ac, .string as'] t)).heap.size = w.heap.size + 1 by simp] at b
  exact ⟨(Fx.new w ak an ac as' t).keep (one_a _ _), b, two w _ _⟩
theorem Tw.put {w W : World} {ak an ac : Int} {as' : ByteArray} {bk bn bc : Int} {bs : ByteArray} (h : Tw w ak an ac as' bk bn bc bs W) (pk pn pc : Int) (ps : ByteArray) (qk qn qc : Int) (qs : ByteArray) :
    Tw w pk pn pc ps qk qn qc qs ((((((((W.setCell ⟨w.heap.size, 0, none⟩ (.int .i64 pk)).setCell ⟨w.heap.size, 1, none⟩ (.int .i64 pn)).setCell ⟨w.heap.size, 2, none⟩ (.int .i64 pc)).setCell ⟨w.heap.size, 3, none⟩ (.string ps)).setCell ⟨w.heap.size + 1, 0, none⟩ (.int .i64 qk)).setCell ⟨w.heap.size + 1, 1, none⟩ (.int .i64 qn)).setCell ⟨w.heap.size + 1, 2, none⟩ (.int .i64 qc)).setCell ⟨w.heap.size + 1, 3, none⟩ (.string qs)) :=
  ⟨(h.a.set pk pn pc ps).far (by omega) _ _ _ _, (h.b.far (by omega) _ _ _ _).set qk qn qc qs, set4 (set4 h.bel (Nat.le_refl _) _ _ _ _) (Nat.le_succ _) _ _ _ _⟩
theorem Tw.pair {w W : World} {ak an ac : Int} {as' : ByteArray} {bk bn bc : Int} {bs : ByteArray} (h : Tw w ak an ac as' bk bn bc bs W) : PairC w ak an ac as' bk bn bc bs W :=
  ⟨h.a.bx.c0, h.a.bx.c1, h.a.bx.c2, h.a.bx.c3, h.b.bx.c0, h.b.bx.c1, h.b.bx.c2, h.b.bx.c3, ⟨h.bel, h.b.bx.lt⟩⟩
set_option maxRecDepth 100000 in
set_option maxHeartbeats 4000000 in
theorem val_compare (a b : Vm.Cl) (w : World) (he : EnvV w) (ha : i64 a.n) (hb : i64 b.n) (hza : a.s.size ≤ maxLen) (hzb : b.s.size ≤ maxLen) :
    Calls Tryz.prog 15 #[.agg #[.int .i64 a.k, .int .i64 a.n, .int .i64 a.sc, .string a.s], .agg #[.int .i64 b.k, .int .i64 b.n, .int .i64 b.sc, .string b.s]] w (NumB (Vm.comp (Vm.plain a) (Vm.plain b)) w) := by
  have HM := Lib.hid (comp_math (Vm.plain a) (Vm.plain b) (Vm.plain_right a) (Vm.plain_right b))
  have IA := Lib.hid (Vm.plain_i64 ha); have IB := Lib.hid (Vm.plain_i64 hb)
  have ZA := Lib.hid hza; have ZB := Lib.hid hzb; have HE := Lib.hid he
  clear ha hb hza hzb he
  obtain ⟨ak, an, ac, as'⟩ := a
  obtain ⟨bk, bn, bc, bs⟩ := b
  dsimp only at HM IA IB ZA ZB ⊢
  obtain ⟨G, hG⟩ : ∃ G : Int → Int → Int → ByteArray → Vm.Cl, ∀ k n sc s, G k n sc s = Vm.plain ⟨k, n, sc, s⟩ := ⟨_, fun _ _ _ _ => rfl⟩
  rw [← hG, ← hG] at HM
  rw [← hG] at IA IB
  rw [← hG, ← hG]
  have VV : Hid (∀ (k n sc : Int) (s : ByteArray) (W : World), EnvV W → s.size ≤ maxLen → Calls Tryz.prog 29 #[.agg #[.int .i64 k, .int .i64 n, .int .i64 sc, .string s]] W fun e w' => e = .returned (.agg #[.int .i64 (G k n sc s).k, .int .i64 (G k n sc s).n, .int .i64 (G k n sc s).sc, .string (G k n sc s).s]) ∧ Below W.heap.size W w') := by
    show ∀ (k n sc : Int) (s : ByteArray) (W : World), EnvV W → s.size ≤ maxLen → Calls Tryz.prog 29 #[.agg #[.int .i64 k, .int .i64 n, .int .i64 sc, .string s]] W fun e w' => e = .returned (.agg #[.int .i64 (G k n sc s).k, .int .i64 (G k n sc s).n, .int .i64 (G k n sc s).sc, .string (G k n sc s).s]) ∧ Below W.heap.size W w'
    intro k n sc s W h1 h2
    rw [hG]
    exact val_valid k n sc s W h1 h2
  clear hG
  have T0 := Lib.hid ((Tw.new w ak an ac as' bk bn bc bs 24 24).keep (below_d1 _))
  go_enter Tryz.func15, Tryz.ntmps15
  go_upto_region 1 with (fail)
  go_cut [6] (fun _ wx => Hid (Tw w (G ak an ac as').k (G ak an ac as').n (G ak an ac as').sc (G ak an ac as').s (G bk bn bc bs).k (G bk bn bc bs).n (G bk bn bc bs).sc (G bk bn bc bs).s wx))
  case first =>
    go_region_with (go_at_call 29; refine (VV.out _ _ _ _ _ (HE.out.keep T0.out.bel) (by first | exact ZA.out | exact ZB.out)).mono ?_; rintro e w4 ⟨rfl, hb⟩; replace T0 := Lib.hid (T0.out.keep hb); clear hb; have x0 := T0.out.a.bx.c0; have x1 := T0.out.a.bx.c1; have x2 := T0.out.a.bx.c2; have x3 := T0.out.a.bx.c3; have y0 := T0.out.b.bx.c0; have y1 := T0.out.b.bx.c1; have y2 := T0.out.b.bx.c2; have y3 := T0.out.b.bx.c3; have z0 := T0.out.a.fz; have z1 := T0.out.b.fz)
    all_goals
      go_wp2_with fail
      go_meet
      exact T0.out.put _ _ _ _ _ _ _ _
  case rest =>
    have TC := hcut
    clear hcut VV T0
    obtain ⟨P, hP⟩ : ∃ P, P = G ak an ac as' := ⟨_, rfl⟩
    obtain ⟨Q, hQ⟩ : ∃ Q, Q = G bk bn bc bs := ⟨_, rfl⟩
    rw [← hP, ← hQ] at HM TC
    rw [← hP] at IA
    rw [← hQ] at IB
    have HPQ := Lib.hid (show Vm.comp (G ak an ac as') (G bk bn bc bs) = Vm.comp P Q by rw [hP, hQ])
    clear hP hQ
    obtain ⟨pk, pn, pc, ps⟩ := P
    obtain ⟨qk, qn, qc, qs⟩ := Q
    dsimp only at HM IA IB TC
    have CI := Lib.hid (val_cic pk pn pc ps qk qn qc qs · IA.out IB.out)
    clear IA IB ZA ZB HE
    by_cases h0 : pk = 0
    · have hm : Vm.comp ⟨pk, pn, pc, ps⟩ ⟨qk, qn, qc, qs⟩ = (0, false) := by rw [HM.out, if_pos (.inl h0)]
      have HN := Lib.hid hm
      have q0 : (pk == 0) = true := by simpa using h0
      clear hm HM h0 CI
      have x0 := TC.out.a.bx.c0
      go_upto_region 2 with (fail)
      go_quiet (fail)
      go_wp2
      go_ret2
      exact NumB.mk (HPQ.out.trans HN.out) (by first | exact TC.out.bel | exact below_drew TC.out.bel | exact below_n TC.out.bel _)
    · have q0 : (pk == 0) = false := by simpa using h0
      go_upto_region 2 with (fail)
      have S0 := Lib.hid (TC.out.pair.keep (below_d1 _))
      go_region_held3 (fun w' => w'.cell? ⟨w.heap.size, 0, none⟩ = some (.int .i64 pk) ∧ w'.cell? ⟨w.heap.size, 1, none⟩ = some (.int .i64 pn) ∧ w'.cell? ⟨w.heap.size, 2, none⟩ = some (.int .i64 pc) ∧ w'.cell? ⟨w.heap.size, 3, none⟩ = some (.string ps) ∧
    w'.cell? ⟨w.heap.size + 1, 0, none⟩ = some (.int .i64 qk) ∧ w'.cell? ⟨w.heap.size + 1, 1, none⟩ = some (.int .i64 qn) ∧ w'.cell? ⟨w.heap.size + 1, 2, none⟩ = some (.int .i64 qc) ∧ w'.cell? ⟨w.heap.size + 1, 3, none⟩ = some (.string qs) ∧
    Hid (Below w.heap.size w w' ∧ w.heap.size + 1 < w'.heap.size)) (first | exact S0.out | exact PairC.keep (by assumption) hb | assumption | exact PairC.keep (by assumption) (one_a _ _)) (first
        | (go_at_call 30; refine (val_class _ _ _ _ _).mono ?_; rintro e w5 ⟨rfl, hb⟩))
      all_goals
        rename_i w5 T5
        have T6 : PairC w pk pn pc ps qk qn qc qs w5 := T5
        clear T5
        by_cases h1 : cls pk = cls qk
        · have q1 : (cls pk != cls qk) = false := by simpa using h1
          have hm := HM.out
          rw [if_neg (by simp [h0, h1])] at hm
          have HN := Lib.hid hm
          obtain ⟨x0, x1, x2, x3, y0, y1, y2, y3, _⟩ := T6
          clear hm HM h0 h1
          go_wp2_with fail
          refine (CI.out _).mono ?_
          rintro e w6 ⟨rfl, hb⟩
          have T7 := Lib.hid (PairC.keep (w := w) ⟨x0, x1, x2, x3, y0, y1, y2, y3, by assumption⟩ hb)
          clear hb x0 x1 x2 x3 y0 y1 y2 y3
          go_wp2
          go_ret2
          exact NumB.mk (HPQ.out.trans HN.out) T7.out.bel
        · have q1 : (cls pk != cls qk) = true := by simpa using h1
          have hm := HM.out
          rw [if_pos (.inr h1)] at hm
          have HN := Lib.hid hm
          clear hm HM h0 h1 CI
          have HB := Lib.hid T6.bel
          clear T6
          go_wp2
          go_ret2
          exact NumB.mk (HPQ.out.trans HN.out) HB.out
end Go.Proofs.YtfnnhhhkdfgefaaGreatDoor
