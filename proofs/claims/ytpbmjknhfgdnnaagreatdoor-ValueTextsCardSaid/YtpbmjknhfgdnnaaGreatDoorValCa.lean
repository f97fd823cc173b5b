/- Package value: Bool, Not, And, Or, Truth, RightType, Right, valid, class. -/
import Derived.Test.YtpbmjknhfgdnnaaGreatDoorValFm
import Derived.Test.YtpbmjknhfgdnnaaGreatDoorValRc
import Derived.Test.YtpbmjknhfgdnnaaGreatDoorDecAm
import Derived.Deep.RegionHeld3
import Derived.Test.YtpbmjknhfgdnnaaGreatDoorValMm
import Derived.Test.YtpbmjknhfgdnnaaGreatDoorValRf
namespace Go.Proofs.YtpbmjknhfgdnnaaGreatDoor
open Go.RowKit

theorem below_d1 (w : World) : Below w.heap.size w w.drew := ⟨rfl, rfl, rfl, Nat.le_refl _, fun _ _ => rfl⟩
theorem one_a (w : World) (o : Obj) : Below w.heap.size w (w.alloc o) := (Below.refl _ _).alloc (Nat.le_refl _) _

theorem ad_then {w w4 : World} {o : Obj} (h : Below (w.alloc o).drew.heap.size (w.alloc o).drew w4) : Below w.heap.size w w4 :=
  ((one_a w o).trans ((below_d1 (w.alloc o)).mono (by simp))).trans (h.mono (by simp [World.drew]))
theorem val_false (w : World) : Calls Tryz.prog 33 #[.bool false] w fun e w' => e = .returned (.agg #[.int .i64 1, .int .i64 0, .int .i64 0, .string ⟨#[]⟩]) ∧ Below w.heap.size w w' := by
  go_enter Tryz.func33, Tryz.ntmps33
  go_wp2
  refine bodyPost_ret (v := .agg #[.int .i64 1, .int .i64 0, .int .i64 0, .string ⟨#[]⟩]) (by simp [results, Tryz.results33, go_sem]) rfl ⟨rfl, ?_⟩
  exact one_a w _
theorem val_true (w : World) : Calls Tryz.prog 33 #[.bool true] w fun e w' => e = .returned (.agg #[.int .i64 1, .int .i64 1, .int .i64 0, .string ⟨#[]⟩]) ∧ Below w.heap.size w w' := by
  go_enter Tryz.func33, Tryz.ntmps33
  go_wp2
  refine bodyPost_ret (v := .agg #[.int .i64 1, .int .i64 1, .int .i64 0, .string ⟨#[]⟩]) (by simp [results, Tryz.results33, go_sem]) rfl ⟨rfl, ?_⟩
  exact one_a w _
theorem val_bool (b : Bool) (w : World) : Calls Tryz.prog 33 #[.bool b] w (Val ⟨1, if b then 1 else 0, 0, ⟨#[]⟩⟩ w) := by
  cases b
  · exact val_false w
  · exact val_true w

theorem not_w (a : Int) (w : World) : Calls Tryz.prog 27 #[.int .i64 a] w fun e w' => e = .returned (.int .i64 (Vm.notT a)) ∧ w = w' := by
  by_cases h0 : a = 0
  · subst h0
    rw [show Vm.notT 0 = 1 by decide]
    go_enter Tryz.func27, Tryz.ntmps27
    go_wp2
    go_ret
    exact ⟨rfl, rfl⟩
  · by_cases h1 : a = 1
    · subst h1
      rw [show Vm.notT 1 = 0 by decide]
      clear h0
      go_enter Tryz.func27, Tryz.ntmps27
      go_wp2
      go_ret
      exact ⟨rfl, rfl⟩
    · have hm : Vm.notT a = 2 := by unfold Vm.notT; rw [if_neg h0, if_neg h1]
      rw [hm]
      have q0 : (a == 0) = false := by rw [beq_eq_false_iff_ne]; exact h0
      have q1 : (a == 1) = false := by rw [beq_eq_false_iff_ne]; exact h1
      clear h0 h1 hm
      go_enter Tryz.func27, Tryz.ntmps27
      go_wp2
      go_ret
      exact ⟨rfl, rfl⟩
theorem and_w (a b : Int) (w : World) : Calls Tryz.prog 29 #[.int .i64 a, .int .i64 b] w fun e w' => e = .returned (.int .i64 (Vm.andT a b)) ∧ w = w' := by
  obtain ⟨p, hp⟩ : ∃ p, p = Vm.andT a b := ⟨_, rfl⟩
  rw [← hp]
  unfold Vm.andT at hp
  by_cases h0 : a = 0
  · subst h0
    rw [if_pos (.inl rfl)] at hp
    subst hp
    go_enter Tryz.func29, Tryz.ntmps29
    go_wp2
    go_ret
    exact ⟨rfl, rfl⟩
  · have q0 : (a == 0) = false := by rw [beq_eq_false_iff_ne]; exact h0
    by_cases h1 : b = 0
    · subst h1
      rw [if_pos (.inr rfl)] at hp
      subst hp
      clear h0
      go_enter Tryz.func29, Tryz.ntmps29
      go_wp2
      go_ret
      exact ⟨rfl, rfl⟩
    · have q1 : (b == 0) = false := by rw [beq_eq_false_iff_ne]; exact h1
      rw [if_neg (by omega)] at hp
      by_cases h2 : a = 1
      · subst h2
        by_cases h3 : b = 1
        · subst h3
          rw [if_pos ⟨rfl, rfl⟩] at hp
          subst hp
          clear h0 h1 q0 q1
          go_enter Tryz.func29, Tryz.ntmps29
          go_wp2
          go_ret
          exact ⟨rfl, rfl⟩
        · have q3 : (b == 1) = false := by rw [beq_eq_false_iff_ne]; exact h3
          rw [if_neg (fun e => h3 e.2)] at hp
          subst hp
          clear h0 h1 q0 h3
          go_enter Tryz.func29, Tryz.ntmps29
          go_wp2
          go_ret
          exact ⟨rfl, rfl⟩
      · have q2 : (a == 1) = false := by rw [beq_eq_false_iff_ne]; exact h2
        rw [if_neg (fun e => h2 e.1)] at hp
        subst hp
        clear h0 h1 h2
        go_enter Tryz.func29, Tryz.ntmps29
        go_wp2
        go_ret
        exact ⟨rfl, rfl⟩
theorem or_w (a b : Int) (w : World) : Calls Tryz.prog 31 #[.int .i64 a, .int .i64 b] w fun e w' => e = .returned (.int .i64 (Vm.notT (Vm.andT (Vm.notT a) (Vm.notT b)))) ∧ w = w' := by
  go_enter Tryz.func31, Tryz.ntmps31
  go_wp2_with fail
  refine (not_w a _).mono ?_
  rintro e w1 ⟨rfl, rfl⟩
  go_wp2_with fail
  refine (not_w b _).mono ?_
  rintro e w1 ⟨rfl, rfl⟩
  go_wp2_with fail
  refine (and_w _ _ _).mono ?_
  rintro e w1 ⟨rfl, rfl⟩
  go_wp2_with fail
  refine (not_w _ _).mono ?_
  rintro e w1 ⟨rfl, rfl⟩
  go_wp2
  go_ret
  exact ⟨rfl, rfl⟩

theorem val_rtype (k sc : Int) (w : World) : Calls Tryz.prog 14 #[.agg #[.int .i64 k, .int .i64 sc]] w (Says (Vm.typeB k sc) w) := by
  by_cases hk : k = 1 ∨ k = 2 ∨ k = 4 ∨ k = 5
  · have hr : Vm.typeB k sc = (sc == 0) := by unfold Vm.typeB; rw [if_pos hk, beq_dec]
    rw [hr]
    clear hr
    rcases hk with rfl | rfl | rfl | rfl
    all_goals
      go_enter Tryz.func14, Tryz.ntmps14
      go_wp2
      go_ret
      exact Says.mk rfl (one_a w _)
  · by_cases h3 : k = 3
    · subst h3
      have hr : Vm.typeB 3 sc = scB sc := by unfold Vm.typeB; rw [if_neg hk, if_pos rfl]
      rw [hr]
      clear hr
      go_enter Tryz.func14, Tryz.ntmps14
      go_wp2_with fail
      refine (dec_right sc _).mono ?_
      rintro e w1 ⟨rfl, rfl⟩
      go_wp2
      go_ret
      exact Says.mk rfl (one_a w _)
    · have hr : Vm.typeB k sc = false := by unfold Vm.typeB; rw [if_neg hk, if_neg h3]
      rw [hr]
      clear hr
      have q3 : (k == 3) = false := by rw [beq_eq_false_iff_ne]; omega
      by_cases hlo : 1 ≤ k
      · have q1 : decide ((1 : Int) ≤ k) = true := by simpa using hlo
        have q5 : decide (k ≤ (5 : Int)) = false := by simp; omega
        clear hk h3 hlo
        go_enter Tryz.func14, Tryz.ntmps14
        go_wp2
        go_ret
        exact Says.mk rfl (one_a w _)
      · have q1 : decide ((1 : Int) ≤ k) = false := by simpa using hlo
        clear hk h3 hlo
        go_enter Tryz.func14, Tryz.ntmps14
        go_wp2
        go_ret
        exact Says.mk rfl (one_a w _)

/-- a value in the block that the call made first -/
abbrev OneC (w : World) (ak an ac : Int) (as' : ByteArray) (w' : World) : Prop :=
  w'.cell? ⟨w.heap.size, 0, none⟩ = some (.int .i64 ak) ∧ w'.cell? ⟨w.heap.size, 1, none⟩ = some (.int .i64 an) ∧ w'.cell? ⟨w.heap.size, 2, none⟩ = some (.int .i64 ac) ∧ w'.cell? ⟨w.heap.size, 3, none⟩ = some (.string as') ∧
  Hid (Below w.heap.size w w' ∧ w.heap.size < w'.heap.size)
theorem OneC.bel {w w0 : World} {ak an ac : Int} {as' : ByteArray} (h : OneC w ak an ac as' w0) : Below w.heap.size w w0 := h.2.2.2.2.1
theorem OneC.keep {w w0 w1 : World} {ak an ac : Int} {as' : ByteArray} (h : OneC w ak an ac as' w0) (hb : Below w0.heap.size w0 w1) : OneC w ak an ac as' w1 := by
  obtain ⟨h0, h1, h2, h3, ⟨hl, hs⟩⟩ := h
  exact ⟨(hb.cell (p := ⟨w.heap.size, 0, none⟩) hs).trans h0, (hb.cell (p := ⟨w.heap.size, 1, none⟩) hs).trans h1, (hb.cell (p := ⟨w.heap.size, 2, none⟩) hs).trans h2, (hb.cell (p := ⟨w.heap.size, 3, none⟩) hs).trans h3,
    ⟨hl.trans (hb.mono hl.size), by have := hb.size; omega⟩⟩
theorem OneC.start (w : World) (ak an ac : Int) (as' : ByteArray) (t : TypeId) : OneC w ak an ac as' (w.alloc (.cells #[.int .i64 ak, .int .i64 an, .int .i64 ac, .string as'] t)) := by
  have a := Bx.new w ak an ac as' t
  exact ⟨a.c0, a.c1, a.c2, a.c3, ⟨one_a w _, a.lt⟩⟩

set_option maxRecDepth 100000 in
set_option maxHeartbeats 4000000 in
theorem right1_t (n sc : Int) (s : ByteArray) (w : World) (h0 : eqB 1 n sc s 1 0 0 ⟨#[]⟩ = true) : Calls Tryz.prog 12 #[.agg #[.int .i64 1, .int .i64 n, .int .i64 sc, .string s]] w (Says true w) := by
  have e0 := val_eql 1 n sc s 1 0 0 ⟨#[]⟩
  simp only [h0] at e0
  clear h0
  go_enter Tryz.func12, Tryz.ntmps12
  go_upto_region 5 with (fail)
  go_region_with (go_at_call 33; refine (val_false _).mono ?_; rintro e w4 ⟨rfl, hb⟩; have HB := Lib.hid hb; obtain ⟨hc, hf⟩ := bcell3 hb; clear hb)
  all_goals
    go_wp2
    go_ret
    exact Says.mk rfl (ad_then HB.out)
set_option maxRecDepth 100000 in
set_option maxHeartbeats 4000000 in
theorem right1_f (n sc : Int) (s : ByteArray) (w : World) (b : Bool) (h0 : eqB 1 n sc s 1 0 0 ⟨#[]⟩ = false) (h1 : eqB 1 n sc s 1 1 0 ⟨#[]⟩ = b) : Calls Tryz.prog 12 #[.agg #[.int .i64 1, .int .i64 n, .int .i64 sc, .string s]] w (Says b w) := by
  obtain ⟨G, hG⟩ : ∃ G : Bool → Int, ∀ b, G b = if b then 1 else 0 := ⟨_, fun _ => rfl⟩
  have VB : Hid (∀ (b : Bool) (W : World), Calls Tryz.prog 33 #[.bool b] W fun e w' => e = .returned (.agg #[.int .i64 1, .int .i64 (G b), .int .i64 0, .string ⟨#[]⟩]) ∧ Below W.heap.size W w') := by
    show ∀ (b : Bool) (W : World), Calls Tryz.prog 33 #[.bool b] W fun e w' => e = .returned (.agg #[.int .i64 1, .int .i64 (G b), .int .i64 0, .string ⟨#[]⟩]) ∧ Below W.heap.size W w'
    intro b W
    rw [hG]
    exact val_bool b W
  have e0 := val_eql 1 n sc s 1 (G false) 0 ⟨#[]⟩
  have e1 := val_eql 1 n sc s 1 (G true) 0 ⟨#[]⟩
  have g0 : eqB 1 n sc s 1 (G false) 0 ⟨#[]⟩ = false := by rw [show G false = 0 by rw [hG]; rfl]; exact h0
  have g1 : eqB 1 n sc s 1 (G true) 0 ⟨#[]⟩ = b := by rw [show G true = 1 by rw [hG]; rfl]; exact h1
  simp only [g0] at e0
  simp only [g1] at e1
  clear h0 h1 g0 g1 hG
  have T0 := Lib.hid (OneC.start w 1 n sc s 24)
  go_enter Tryz.func12, Tryz.ntmps12
  go_upto_region 5 with (fail)
  have S0 := Lib.hid (T0.out.keep (below_d1 _))
  go_region_held3 (fun w' => w'.cell? ⟨w.heap.size, 0, none⟩ = some (.int .i64 1) ∧ w'.cell? ⟨w.heap.size, 1, none⟩ = some (.int .i64 n) ∧ w'.cell? ⟨w.heap.size, 2, none⟩ = some (.int .i64 sc) ∧ w'.cell? ⟨w.heap.size, 3, none⟩ = some (.string s) ∧
    Hid (Below w.heap.size w w' ∧ w.heap.size < w'.heap.size)) (first | exact S0.out | exact OneC.keep (by assumption) hb) (first | (go_at_call 33; refine (VB.out _ _).mono ?_; rintro e w4 ⟨rfl, hb⟩))
  all_goals
    go_wp2
    go_ret
    refine Says.mk (by first | rfl | simp) ?_
    exact OneC.bel (by assumption)
theorem val_right1 (n sc : Int) (s : ByteArray) (w : World) : Calls Tryz.prog 12 #[.agg #[.int .i64 1, .int .i64 n, .int .i64 sc, .string s]] w (Says (Vm.rightB ⟨1, n, sc, s⟩) w) := by
  have hr : Vm.rightB ⟨1, n, sc, s⟩ = (eqB 1 n sc s 1 0 0 ⟨#[]⟩ || eqB 1 n sc s 1 1 0 ⟨#[]⟩) := by
    rw [eqB_nil, eqB_nil]
    show ((decide (n = 0) || decide (n = 1)) && decide (sc = 0) && decide (s.size = 0)) = _
    cases decide (n = 0) <;> cases decide (n = 1) <;> cases decide (sc = 0) <;> cases decide (s.size = 0) <;> rfl
  rw [hr]
  cases h0 : eqB 1 n sc s 1 0 0 ⟨#[]⟩
  · exact right1_f n sc s w _ h0 (by simp)
  · exact right1_t n sc s w h0
theorem val_right0 (n sc : Int) (s : ByteArray) (w : World) : Calls Tryz.prog 12 #[.agg #[.int .i64 0, .int .i64 n, .int .i64 sc, .string s]] w (Says (Vm.rightB ⟨0, n, sc, s⟩) w) := by
  have he := val_eql 0 n sc s 0 0 0 ⟨#[]⟩
  have hr : Vm.rightB ⟨0, n, sc, s⟩ = eqB 0 n sc s 0 0 0 ⟨#[]⟩ := by
    rw [eqB_nil]; simp [Vm.rightB, Bool.and_assoc]
  rw [hr]
  clear hr
  go_enter Tryz.func12, Tryz.ntmps12
  go_wp2
  go_ret
  exact Says.mk rfl (one_a w _)
theorem val_right2 (n sc : Int) (s : ByteArray) (w : World) : Calls Tryz.prog 12 #[.agg #[.int .i64 2, .int .i64 n, .int .i64 sc, .string s]] w (Says (Vm.rightB ⟨2, n, sc, s⟩) w) := by
  have he := val_eql 2 n sc s 2 n 0 ⟨#[]⟩
  have hr : Vm.rightB ⟨2, n, sc, s⟩ = eqB 2 n sc s 2 n 0 ⟨#[]⟩ := by
    rw [eqB_nil]; simp [Vm.rightB]
  rw [hr]
  clear hr
  go_enter Tryz.func12, Tryz.ntmps12
  go_wp2
  go_ret
  exact Says.mk rfl (one_a w _)
theorem val_right3 (n sc : Int) (s : ByteArray) (w : World) : Calls Tryz.prog 12 #[.agg #[.int .i64 3, .int .i64 n, .int .i64 sc, .string s]] w (Says (Vm.rightB ⟨3, n, sc, s⟩) w) := by
  have he := val_eql 3 n sc s 3 n sc ⟨#[]⟩
  have hr : Vm.rightB ⟨3, n, sc, s⟩ = (eqB 3 n sc s 3 n sc ⟨#[]⟩ && scB sc) := by
    rw [eqB_nil]; simp [Vm.rightB, Bool.and_comm]
  rw [hr]
  clear hr
  revert he
  generalize eqB 3 n sc s 3 n sc ⟨#[]⟩ = b
  intro he
  cases b
  · go_enter Tryz.func12, Tryz.ntmps12
    go_wp2
    go_ret
    exact Says.mk rfl (one_a w _)
  · go_enter Tryz.func12, Tryz.ntmps12
    go_wp2_with fail
    refine (dec_right sc _).mono ?_
    rintro e w1 ⟨rfl, rfl⟩
    go_wp2
    go_ret
    exact Says.mk rfl (one_a w _)
theorem val_right5 (n sc : Int) (s : ByteArray) (w : World) (hz : s.size ≤ maxLen) : Calls Tryz.prog 12 #[.agg #[.int .i64 5, .int .i64 n, .int .i64 sc, .string s]] w (Says (Vm.rightB ⟨5, n, sc, s⟩) w) := by
  unfold maxLen at hz
  have he := val_eql 5 n sc s 5 0 0 s
  have hr : Vm.rightB ⟨5, n, sc, s⟩ = (eqB 5 n sc s 5 0 0 s && decide ((s.size : Int) ≤ 200)) := by
    have e1 : decide ((s.size : Int) ≤ 200) = decide (s.size ≤ 200) := by rw [Bool.eq_iff_iff]; simp; omega
    rw [e1]
    unfold eqB; simp [Vm.rightB, beq_dec]
  rw [hr]
  clear hr
  revert he
  generalize eqB 5 n sc s 5 0 0 s = b
  intro he
  cases b
  all_goals
    cases hl : decide ((s.size : Int) ≤ 200)
    all_goals
      go_enter Tryz.func12, Tryz.ntmps12
      go_wp2
      go_ret
      exact Says.mk rfl (one_a w _)
theorem val_right4 (n sc : Int) (s : ByteArray) (w : World) (he : EnvV w) (hz : s.size ≤ maxLen) : Calls Tryz.prog 12 #[.agg #[.int .i64 4, .int .i64 n, .int .i64 sc, .string s]] w (Says (Vm.rightB ⟨4, n, sc, s⟩) w) := by
  unfold maxLen at hz
  have hq := val_eql 4 n sc s 4 0 0 s
  have hr : Vm.rightB ⟨4, n, sc, s⟩ = ((eqB 4 n sc s 4 0 0 s && decide ((s.size : Int) ≤ 200)) && Lib.validD s.data.toList) := by
    have e1 : decide ((s.size : Int) ≤ 200) = decide (s.size ≤ 200) := by rw [Bool.eq_iff_iff]; simp; omega
    rw [e1]
    unfold eqB; simp [Vm.rightB, beq_dec]
  rw [hr]
  clear hr
  have HU := Lib.hid (fun (W : World) (h : EnvV W) => Tryz.utf8_ValidString s W (by omega) h.tabs)
  have HE := Lib.hid (he.keep (one_a w (.cells #[.int .i64 4, .int .i64 n, .int .i64 sc, .string s] 24)))
  clear he
  revert hq HU
  generalize eqB 4 n sc s 4 0 0 s = b
  generalize Lib.validD s.data.toList = v
  intro hq HU
  cases b
  · go_enter Tryz.func12, Tryz.ntmps12
    go_wp2
    go_ret
    exact Says.mk rfl (one_a w _)
  · cases hl : decide ((s.size : Int) ≤ 200)
    · go_enter Tryz.func12, Tryz.ntmps12
      go_wp2
      go_ret
      exact Says.mk rfl (one_a w _)
    · go_enter Tryz.func12, Tryz.ntmps12
      go_wp2_with fail
      refine (HU.out _ HE.out).mono ?_
      rintro e w1 ⟨rfl, hb⟩
      have HB := Lib.hid hb
      clear hb
      go_wp2
      go_ret
      exact Says.mk rfl ((one_a w _).trans (HB.out.mono (by simp)))
theorem val_rightX (k n sc : Int) (s : ByteArray) (w : World) (hk : ¬ (0 ≤ k ∧ k ≤ 5)) : Calls Tryz.prog 12 #[.agg #[.int .i64 k, .int .i64 n, .int .i64 sc, .string s]] w (Says (Vm.rightB ⟨k, n, sc, s⟩) w) := by
  have hr : Vm.rightB ⟨k, n, sc, s⟩ = false := by
    unfold Vm.rightB
    rw [if_neg (by show k ≠ 0; omega), if_neg (by show k ≠ 1; omega), if_neg (by show k ≠ 2; omega), if_neg (by show k ≠ 3; omega), if_neg (by show k ≠ 4; omega), if_neg (by show k ≠ 5; omega)]
  rw [hr]
  clear hr
  have q0 : (k == 0) = false := by rw [beq_eq_false_iff_ne]; omega
  have q1 : (k == 1) = false := by rw [beq_eq_false_iff_ne]; omega
  have q2 : (k == 2) = false := by rw [beq_eq_false_iff_ne]; omega
  have q3 : (k == 3) = false := by rw [beq_eq_false_iff_ne]; omega
  have q4 : (k == 4) = false := by rw [beq_eq_false_iff_ne]; omega
  have q5 : (k == 5) = false := by rw [beq_eq_false_iff_ne]; omega
  clear hk
  go_enter Tryz.func12, Tryz.ntmps12
  go_wp2
  go_ret
  exact Says.mk rfl (one_a w _)
theorem val_right (k n sc : Int) (s : ByteArray) (w : World) (he : EnvV w) (hz : s.size ≤ maxLen) : Calls Tryz.prog 12 #[.agg #[.int .i64 k, .int .i64 n, .int .i64 sc, .string s]] w (Says (Vm.rightB ⟨k, n, sc, s⟩) w) := by
  by_cases hk : 0 ≤ k ∧ k ≤ 5
  · rcases (show k = 0 ∨ k = 1 ∨ k = 2 ∨ k = 3 ∨ k = 4 ∨ k = 5 by omega) with rfl | rfl | rfl | rfl | rfl | rfl
    · exact val_right0 n sc s w
    · exact val_right1 n sc s w
    · exact val_right2 n sc s w
    · exact val_right3 n sc s w
    · exact val_right4 n sc s w he hz
    · exact val_right5 n sc s w hz
  · exact val_rightX k n sc s w hk
theorem val_valid (k n sc : Int) (s : ByteArray) (w : World) (he : EnvV w) (hz : s.size ≤ maxLen) : Calls Tryz.prog 39 #[.agg #[.int .i64 k, .int .i64 n, .int .i64 sc, .string s]] w (Val (Vm.plain ⟨k, n, sc, s⟩) w) := by
  have HR := Lib.hid (fun (W : World) (h : EnvV W) => val_right k n sc s W h hz)
  have HE := Lib.hid (he.keep (two w (.cells #[.int .i64 k, .int .i64 n, .int .i64 sc, .string s] 24) (.cells #[.int .i64 0, .int .i64 0, .int .i64 0, .string ⟨#[]⟩] 24)))
  unfold Vm.plain
  revert HR
  generalize Vm.rightB ⟨k, n, sc, s⟩ = b
  intro HR
  clear hz he
  cases b
  · show Calls _ _ _ _ (Val Vm.nil w)
    go_enter Tryz.func39, Tryz.ntmps39
    go_wp2_with fail
    refine (HR.out _ HE.out).mono ?_
    rintro e w1 ⟨rfl, hb⟩
    have HB := Lib.hid hb
    obtain ⟨hc, hf⟩ := bcell3 hb
    have hlt : w.heap.size + 1 < w1.heap.size := by have := hb.size; simp at this; omega
    clear hb HR HE
    go_wp2
    refine bodyPost_ret (v := .agg #[.int .i64 0, .int .i64 0, .int .i64 0, .string ⟨#[]⟩]) (by simp [results, Tryz.results39, go_sem, hc]) rfl ⟨rfl, ?_⟩
    exact set4 ((two w _ _).trans (HB.out.mono (by simp; omega))) (Nat.le_succ _) _ _ _ _
  · show Calls _ _ _ _ (Val ⟨k, n, sc, s⟩ w)
    go_enter Tryz.func39, Tryz.ntmps39
    go_wp2_with fail
    refine (HR.out _ HE.out).mono ?_
    rintro e w1 ⟨rfl, hb⟩
    have HB := Lib.hid hb
    obtain ⟨hc, hf⟩ := bcell3 hb
    have hlt : w.heap.size + 1 < w1.heap.size := by have := hb.size; simp at this; omega
    clear hb HR HE
    go_wp2
    refine bodyPost_ret (v := .agg #[.int .i64 k, .int .i64 n, .int .i64 sc, .string s]) (by simp [results, Tryz.results39, go_sem, hc]) rfl ⟨rfl, ?_⟩
    exact set4 ((two w _ _).trans (HB.out.mono (by simp; omega))) (Nat.le_succ _) _ _ _ _

/-- the kind by which a value is compared -/
def cls (k : Int) : Int := if k = 3 then 2 else k
theorem val_class (k n sc : Int) (s : ByteArray) (w : World) : Calls Tryz.prog 40 #[.agg #[.int .i64 k, .int .i64 n, .int .i64 sc, .string s]] w (Num (cls k) w) := by
  by_cases h : k = 3
  · subst h
    rw [show cls 3 = 2 by decide]
    go_enter Tryz.func40, Tryz.ntmps40
    go_wp2
    go_ret
    exact ⟨rfl, one_a w _⟩
  · have hm : cls k = k := by unfold cls; rw [if_neg h]
    have q : (k == 3) = false := by rw [beq_eq_false_iff_ne]; exact h
    rw [hm]
    clear hm h
    go_enter Tryz.func40, Tryz.ntmps40
    go_wp2
    go_ret
    exact ⟨rfl, one_a w _⟩
end Go.Proofs.YtpbmjknhfgdnnaaGreatDoor
/- Package value: Truth; the library's cmp.Compare of kinds, cmp.Or. -/
namespace Go.Proofs.YtpbmjknhfgdnnaaGreatDoor
open Go.RowKit

theorem truth_eq (c : Vm.Cl) : Vm.truth c = if eqB c.k c.n c.sc c.s 1 0 0 ⟨#[]⟩ then 0 else if eqB c.k c.n c.sc c.s 1 1 0 ⟨#[]⟩ then 1 else 2 := by
  have h0 := eqB_val c ⟨1, 0, 0, ⟨#[]⟩⟩
  have h1 := eqB_val c ⟨1, 1, 0, ⟨#[]⟩⟩
  dsimp only at h0 h1
  rw [h0, h1]
  by_cases e0 : c = ⟨1, 0, 0, ⟨#[]⟩⟩
  · subst e0; rfl
  · by_cases e1 : c = ⟨1, 1, 0, ⟨#[]⟩⟩
    · subst e1; rfl
    · rw [if_neg (by simpa using e0), if_neg (by simpa using e1)]
      unfold Vm.truth
      have : (Vm.plain c).k ≠ 1 := by
        unfold Vm.plain
        split
        · rename_i hr
          rcases Vm.right_cases hr with rfl | ⟨n, hn1, rfl⟩ | ⟨n, rfl⟩ | ⟨n, s, hs, rfl⟩ | ⟨s, hs, hv, rfl⟩ | ⟨s, hs, rfl⟩
          · decide
          · rcases hn1 with rfl | rfl
            · exact absurd rfl e0
            · exact absurd rfl e1
          all_goals (dsimp only; decide)
        · decide
      rw [if_neg this]
set_option maxRecDepth 100000 in
set_option maxHeartbeats 4000000 in
theorem truth_t (k n sc : Int) (s : ByteArray) (w : World) (h0 : eqB k n sc s 1 0 0 ⟨#[]⟩ = true) : Calls Tryz.prog 32 #[.agg #[.int .i64 k, .int .i64 n, .int .i64 sc, .string s]] w (Num 0 w) := by
  have e0 := val_eql k n sc s 1 0 0 ⟨#[]⟩
  simp only [h0] at e0
  clear h0
  have T0 := Lib.hid (OneC.start w k n sc s 24)
  go_enter Tryz.func32, Tryz.ntmps32
  go_upto_region 1 with (fail)
  have S0 := Lib.hid (T0.out.keep (below_d1 _))
  go_region_held3 (fun w' => w'.cell? ⟨w.heap.size, 0, none⟩ = some (.int .i64 k) ∧ w'.cell? ⟨w.heap.size, 1, none⟩ = some (.int .i64 n) ∧ w'.cell? ⟨w.heap.size, 2, none⟩ = some (.int .i64 sc) ∧ w'.cell? ⟨w.heap.size, 3, none⟩ = some (.string s) ∧
    Hid (Below w.heap.size w w' ∧ w.heap.size < w'.heap.size)) (first | exact S0.out | exact OneC.keep (by assumption) hb) (first | (go_at_call 33; refine (val_false _).mono ?_; rintro e w4 ⟨rfl, hb⟩))
  all_goals
    go_wp2
    go_ret
    exact ⟨rfl, OneC.bel (by assumption)⟩
set_option maxRecDepth 100000 in
set_option maxHeartbeats 4000000 in
theorem truth_f (k n sc : Int) (s : ByteArray) (b : Bool) (m : Int) (w : World) (h0 : eqB k n sc s 1 0 0 ⟨#[]⟩ = false) (h1 : eqB k n sc s 1 1 0 ⟨#[]⟩ = b) (hm : m = if b then 1 else 2) : Calls Tryz.prog 32 #[.agg #[.int .i64 k, .int .i64 n, .int .i64 sc, .string s]] w (Num m w) := by
  have e0 := val_eql k n sc s 1 0 0 ⟨#[]⟩
  have e1 := val_eql k n sc s 1 1 0 ⟨#[]⟩
  simp only [h0] at e0
  simp only [h1] at e1
  clear h0 h1
  have T0 := Lib.hid (OneC.start w k n sc s 24)
  have HM := Lib.hid hm
  clear hm
  go_enter Tryz.func32, Tryz.ntmps32
  go_upto_region 1 with (fail)
  have S0 := Lib.hid (T0.out.keep (below_d1 _))
  go_region_held3 (fun w' => w'.cell? ⟨w.heap.size, 0, none⟩ = some (.int .i64 k) ∧ w'.cell? ⟨w.heap.size, 1, none⟩ = some (.int .i64 n) ∧ w'.cell? ⟨w.heap.size, 2, none⟩ = some (.int .i64 sc) ∧ w'.cell? ⟨w.heap.size, 3, none⟩ = some (.string s) ∧
    Hid (Below w.heap.size w w' ∧ w.heap.size < w'.heap.size)) (first | exact S0.out | exact OneC.keep (by assumption) hb) (first | (go_at_call 33; refine (val_false _).mono ?_; rintro e w4 ⟨rfl, hb⟩))
  all_goals
    clear e0 T0 S0
    rename_i w5 T5
    have S5 := Lib.hid (OneC.keep T5 (below_d1 _))
    go_upto_region 3 with (fail)
    clear T5
    go_region_held3 (fun w' => w'.cell? ⟨w.heap.size, 0, none⟩ = some (.int .i64 k) ∧ w'.cell? ⟨w.heap.size, 1, none⟩ = some (.int .i64 n) ∧ w'.cell? ⟨w.heap.size, 2, none⟩ = some (.int .i64 sc) ∧ w'.cell? ⟨w.heap.size, 3, none⟩ = some (.string s) ∧
      Hid (Below w.heap.size w w' ∧ w.heap.size < w'.heap.size)) (first | exact S5.out | exact OneC.keep (by assumption) hb) (first | (go_at_call 33; refine (val_true _).mono ?_; rintro e w4 ⟨rfl, hb⟩))
    all_goals
      cases b
      all_goals
        go_wp2
        go_ret
        exact ⟨ret_i64 HM.out.symm, OneC.bel (by assumption)⟩
theorem val_truth (c : Vm.Cl) (w : World) : Calls Tryz.prog 32 #[.agg #[.int .i64 c.k, .int .i64 c.n, .int .i64 c.sc, .string c.s]] w (Num (Vm.truth c) w) := by
  rw [truth_eq]
  cases h0 : eqB c.k c.n c.sc c.s 1 0 0 ⟨#[]⟩
  · exact truth_f _ _ _ _ _ _ w h0 rfl (by simp)
  · exact truth_t _ _ _ _ w h0

theorem kind_nan (a : Int) (w : World) : Calls Tryz.prog 64 #[.int .i64 a] w fun e w' => e = .returned (.bool false) ∧ w = w' := by
  have q : (a != a) = false := by simp
  go_enter Tryz.func64, Tryz.ntmps64
  go_wp2
  go_ret
  exact ⟨rfl, rfl⟩
theorem kind_cmp (a b : Int) (w : World) : Calls Tryz.prog 46 #[.int .i64 a, .int .i64 b] w fun e w' => e = .returned (.int .i64 (Lib.compareInt a b)) ∧ w = w' := by
  obtain ⟨m, hm⟩ : ∃ m, m = Lib.compareInt a b := ⟨_, rfl⟩
  rw [← hm]
  unfold Lib.compareInt at hm
  rcases Int.lt_trichotomy a b with h | h | h
  · have q1 : decide (a < b) = true := by simpa using h
    have hm2 : m = -1 := by rw [hm]; simp [h]
    subst hm2
    clear hm h
    go_enter Tryz.func46, Tryz.ntmps46
    go_wp2_with fail
    refine (kind_nan a _).mono ?_
    rintro e w1 ⟨rfl, rfl⟩
    go_wp2_with fail
    refine (kind_nan b _).mono ?_
    rintro e w1 ⟨rfl, rfl⟩
    go_wp2
    go_ret
    exact ⟨rfl, rfl⟩
  · subst h
    have q1 : decide (a < a) = false := by simp
    have hm2 : m = 0 := by rw [hm]; simp
    subst hm2
    clear hm
    go_enter Tryz.func46, Tryz.ntmps46
    go_wp2_with fail
    refine (kind_nan a _).mono ?_
    rintro e w1 ⟨rfl, rfl⟩
    go_wp2_with fail
    refine (kind_nan a _).mono ?_
    rintro e w1 ⟨rfl, rfl⟩
    go_wp2
    go_ret
    exact ⟨rfl, rfl⟩
  · have q1 : decide (a < b) = false := by simp; omega
    have q2 : decide (b < a) = true := by simpa using h
    have hm2 : m = 1 := by rw [hm]; rw [if_neg (by omega), if_pos (by omega)]
    subst hm2
    clear hm h
    go_enter Tryz.func46, Tryz.ntmps46
    go_wp2_with fail
    refine (kind_nan a _).mono ?_
    rintro e w1 ⟨rfl, rfl⟩
    go_wp2_with fail
    refine (kind_nan b _).mono ?_
    rintro e w1 ⟨rfl, rfl⟩
    go_wp2
    go_ret
    exact ⟨rfl, rfl⟩
/-- the first that is not nought -/
def orL : List Int → Int
  | [] => 0
  | x :: r => if x = 0 then orL r else x
set_option maxHeartbeats 400000 in
theorem cmp_or (a : Option Addr) (n c : Nat) (l : List Int) (w : World) (hn : n = l.length) (h : IntC (.slice a n c) l w) (hl : n ≤ 10) :
    Calls Tryz.prog 45 #[.slice a n c] w fun e w' => e = .returned (.int .i64 (orL l)) ∧ w = w' := by
  have HI := Lib.hid h; have HN := Lib.hid hn
  clear h hn
  go_enter Tryz.func45, Tryz.ntmps45
  go_wp2_with fail
  go_loop [8] (fun i => ∃ j : Nat, j ≤ n ∧ i = .int .i64 (j : Int) ∧ Hid (orL l = orL (l.drop j))) (fun i => n - (Lib.intOf i).toNat)
  case atStart => exact ⟨0, Nat.zero_le _, rfl, rfl⟩
  case round =>
    obtain ⟨j, hj, rfl, HA⟩ := hrel
    by_cases hlt : j < n
    · obtain ⟨g, off, rfl, hg, hcell⟩ := HI.out.at j hlt
      have ht : l.drop j = l.getD j 0 :: l.drop (j + 1) := by
        have : j < l.length := by rw [← HN.out]; exact hlt
        rw [List.drop_eq_getElem_cons this]; simp [List.getD, this]
      have HT := Lib.hid ht
      clear ht
      revert HT hcell
      generalize l.getD j 0 = x
      intro hcell HT
      by_cases hx : x = 0
      · have hA : orL l = orL (l.drop (j + 1)) := by rw [HA.out, HT.out, orL, if_pos hx]
        have HA2 := Lib.hid hA
        have q1 : (x == 0) = true := by simpa using hx
        have q2 : (x != 0) = false := by simpa using hx
        clear hA hx HT HA
        go_wp2
        go_round
        case rel => exact ⟨j + 1, by omega, by go_num, HA2⟩
        case measure => simp [Lib.intOf]; omega
      · have hA : orL l = x := by rw [HA.out, HT.out, orL, if_neg hx]
        have HM := Lib.hid hA
        have q1 : (x == 0) = false := by simpa using hx
        have q2 : (x != 0) = true := by simpa using hx
        clear hA hx HT HA
        go_wp2
        go_ret
        exact ⟨by rw [HM.out]; rfl, rfl⟩
    · have hA : orL l = 0 := by
        rw [HA.out, List.drop_of_length_le (by rw [← HN.out]; omega)]; rfl
      have HM := Lib.hid hA
      clear hA HA
      go_wp2
      go_ret
      exact ⟨by rw [HM.out]; rfl, rfl⟩
end Go.Proofs.YtpbmjknhfgdnnaaGreatDoor
/- Package value: compareInClass, Compare, Order, Of. -/
namespace Go.Proofs.YtpbmjknhfgdnnaaGreatDoor
open Go.RowKit

/-- two values in the blocks that the call made first -/
abbrev PairC (w : World) (ak an ac : Int) (as' : ByteArray) (bk bn bc : Int) (bs : ByteArray) (w' : World) : Prop :=
  w'.cell? ⟨w.heap.size, 0, none⟩ = some (.int .i64 ak) ∧ w'.cell? ⟨w.heap.size, 1, none⟩ = some (.int .i64 an) ∧ w'.cell? ⟨w.heap.size, 2, none⟩ = some (.int .i64 ac) ∧ w'.cell? ⟨w.heap.size, 3, none⟩ = some (.string as') ∧
  w'.cell? ⟨w.heap.size + 1, 0, none⟩ = some (.int .i64 bk) ∧ w'.cell? ⟨w.heap.size + 1, 1, none⟩ = some (.int .i64 bn) ∧ w'.cell? ⟨w.heap.size + 1, 2, none⟩ = some (.int .i64 bc) ∧ w'.cell? ⟨w.heap.size + 1, 3, none⟩ = some (.string bs) ∧
  Hid (Below w.heap.size w w' ∧ w.heap.size + 1 < w'.heap.size)
theorem PairC.bel {w w0 : World} {ak an ac : Int} {as' : ByteArray} {bk bn bc : Int} {bs : ByteArray} (h : PairC w ak an ac as' bk bn bc bs w0) : Below w.heap.size w w0 := h.2.2.2.2.2.2.2.2.1
theorem PairC.lt {w w0 : World} {ak an ac : Int} {as' : ByteArray} {bk bn bc : Int} {bs : ByteArray} (h : PairC w ak an ac as' bk bn bc bs w0) : w.heap.size + 1 < w0.heap.size := h.2.2.2.2.2.2.2.2.2
theorem PairC.keep {w w0 w1 : World} {ak an ac : Int} {as' : ByteArray} {bk bn bc : Int} {bs : ByteArray} (h : PairC w ak an ac as' bk bn bc bs w0) (hb : Below w0.heap.size w0 w1) : PairC w ak an ac as' bk bn bc bs w1 := by
  obtain ⟨h0, h1, h2, h3, g0, g1, g2, g3, ⟨hl, hs⟩⟩ := h
  have lt0 : w.heap.size < w0.heap.size := by omega
  exact ⟨(hb.cell (p := ⟨w.heap.size, 0, none⟩) lt0).trans h0, (hb.cell (p := ⟨w.heap.size, 1, none⟩) lt0).trans h1, (hb.cell (p := ⟨w.heap.size, 2, none⟩) lt0).trans h2, (hb.cell (p := ⟨w.heap.size, 3, none⟩) lt0).trans h3,
    (hb.cell (p := ⟨w.heap.size + 1, 0, none⟩) hs).trans g0, (hb.cell (p := ⟨w.heap.size + 1, 1, none⟩) hs).trans g1, (hb.cell (p := ⟨w.heap.size + 1, 2, none⟩) hs).trans g2, (hb.cell (p := ⟨w.heap.size + 1, 3, none⟩) hs).trans g3,
    ⟨hl.trans (hb.mono hl.size), by have := hb.size; omega⟩⟩
theorem PairC.start (w : World) (ak an ac : Int) (as' : ByteArray) (bk bn bc : Int) (bs : ByteArray) (t t' : TypeId) :
    PairC w ak an ac as' bk bn bc bs ((w.alloc (.cells #[.int .i64 ak, .int .i64 an, .int .i64 ac, .string as'] t)).alloc (.cells #[.int .i64 bk, .int .i64 bn, .int .i64 bc, .string bs] t')) := by
  have a := (Bx.new w ak an ac as' t).alloc (.cells #[.int .i64 bk, .int .i64 bn, .int .i64 bc, .string bs] t')
  have b := Bx.new (w.alloc (.cells #[.int .i64 ak, .int .i64 an, .int .i64 ac, .string as'] t)) bk bn bc bs t'
  rw [show (w.alloc (.cells #[.int .i64 ak, .int .i64 an, .int .i64 ac, .string as'] t)).heap.size = w.heap.size + 1 by simp] at b
  exact ⟨a.c0, a.c1, a.c2, a.c3, b.c0, b.c1, b.c2, b.c3, ⟨two w _ _, by simp⟩⟩

set_option maxRecDepth 100000 in
set_option maxHeartbeats 4000000 in
theorem val_cic (ak an ac : Int) (as' : ByteArray) (bk bn bc : Int) (bs : ByteArray) (w : World) (ha : i64 an) (hb : i64 bn) :
    Calls Tryz.prog 41 #[.agg #[.int .i64 ak, .int .i64 an, .int .i64 ac, .string as'], .agg #[.int .i64 bk, .int .i64 bn, .int .i64 bc, .string bs]] w (Num (or2 (compM an ac bn bc) (Lib.compareBytes as'.data.toList bs.data.toList)) w) := by
  have DC := Lib.hid (dec_compare an ac bn bc · ha hb)
  have SC := Lib.hid (Tryz.strings_Compare as' bs)
  clear ha hb
  revert DC SC
  generalize compM an ac bn bc = x
  generalize Lib.compareBytes as'.data.toList bs.data.toList = y
  intro DC SC
  have T0 := Lib.hid (PairC.start w ak an ac as' bk bn bc bs 24 24)
  go_enter Tryz.func41, Tryz.ntmps41
  go_upto_region 1 with (fail)
  have S0 := Lib.hid (T0.out.keep (below_d1 _))
  go_region_held3 (fun w' => w'.cell? ⟨w.heap.size, 0, none⟩ = some (.int .i64 ak) ∧ w'.cell? ⟨w.heap.size, 1, none⟩ = some (.int .i64 an) ∧ w'.cell? ⟨w.heap.size, 2, none⟩ = some (.int .i64 ac) ∧ w'.cell? ⟨w.heap.size, 3, none⟩ = some (.string as') ∧
    w'.cell? ⟨w.heap.size + 1, 0, none⟩ = some (.int .i64 bk) ∧ w'.cell? ⟨w.heap.size + 1, 1, none⟩ = some (.int .i64 bn) ∧ w'.cell? ⟨w.heap.size + 1, 2, none⟩ = some (.int .i64 bc) ∧ w'.cell? ⟨w.heap.size + 1, 3, none⟩ = some (.string bs) ∧
    Hid (Below w.heap.size w w' ∧ w.heap.size + 1 < w'.heap.size)) (first | exact S0.out | exact PairC.keep (by assumption) hb | assumption | exact PairC.keep (by assumption) (one_a _ _)) (first
    | (go_at_call 59; refine (DC.out _).mono ?_; rintro e w4 ⟨rfl, hb⟩)
    | (go_at_call 60; refine (SC.out _).mono ?_; rintro e w5 ⟨rfl, rfl⟩)
    | (go_at_call 45; refine (cmp_or2 _ x y _ (by first | exact (cells2 _ _ (by simp) _ _ _).1 | exact (cells2d _ _ (by simp) _ _ _).1) (by first | exact (cells2 _ _ (by simp) _ _ _).2 | exact (cells2d _ _ (by simp) _ _ _).2)).mono ?_; rintro e w6 ⟨rfl, rfl⟩))
  all_goals
    go_wp2
    go_ret
    exact ⟨rfl, by first | exact PairC.bel (by assumption) | exact PairC.bel (PairC.keep (by assumption) (one_a _ _))⟩

/-- two types are one -/
def eqT (k sc k' sc' : Int) : Bool := (k == k') && (sc == sc')
theorem typ_eqlIn (k sc k' sc' : Int) (w : World) :
    (Op.equalIn 10000 26 (.agg #[.int .i64 k, .int .i64 sc]) (.agg #[.int .i64 k', .int .i64 sc'])).run Tryz.prog w = .ok (eqT k sc k' sc') w := by
  have ht : Tryz.prog.underlying 26 = some (.struct (Tryz.prog.fieldsOf 26)) := by kernel_rfl
  have hp : Tryz.prog.stoodInHeld 26 = false := by kernel_rfl
  rw [run_equalIn_agg w 9999 _ _ _ ht hp]
  have h3 : Tryz.prog.plainKey 3 = true := by kernel_rfl
  have hk : Tryz.prog.plainKey 22 = true := by kernel_rfl
  have e0 := fun (a b : Int) (W : World) => run_equalIn_int W 9998 22 .i64 .i64 a b Tryz.underlying22
  have e1 := fun (a b : Int) (W : World) => run_equalIn_int W 9998 3 .i64 .i64 a b Tryz.underlying3
  simp only [Program.fieldsOf, Tryz.underlying26, Op.eqFields, Sem.run_bind, Sem.run_ite, ne_eq, String.reduceEq, not_false_eq_true, if_true]
  have q0 := part_at _ hk #[.int .i64 k, .int .i64 sc] 0 (.int .i64 k) rfl
  have q1 := part_at _ h3 #[.int .i64 k, .int .i64 sc] 1 (.int .i64 sc) rfl
  have r0 := part_at _ hk #[.int .i64 k', .int .i64 sc'] 0 (.int .i64 k') rfl
  have r1 := part_at _ h3 #[.int .i64 k', .int .i64 sc'] 1 (.int .i64 sc') rfl
  simp only [q0, r0, q1, r1, Result.andThen_ok, e0, e1]
  unfold eqT
  cases k == k' <;> cases sc == sc' <;> rfl
theorem typ_eql (k sc k' sc' : Int) (w : World) :
    (binOp .eql 26 (.agg #[.int .i64 k, .int .i64 sc]) (.agg #[.int .i64 k', .int .i64 sc'])).run Tryz.prog w = .ok (.bool (eqT k sc k' sc')) w := by
  rw [run_eql_struct, typ_eqlIn]; rfl
theorem val_of (c : Vm.Cl) (k sc : Int) (w : World) (he : EnvV w) (hz : c.s.size ≤ maxLen) :
    Calls Tryz.prog 15 #[.agg #[.int .i64 c.k, .int .i64 c.n, .int .i64 c.sc, .string c.s], .agg #[.int .i64 k, .int .i64 sc]] w (Says (Vm.ofB c k sc) w) := by
  have hof : Vm.ofB c k sc = ((Vm.rightB c && Vm.typeB k sc) && ((c.k == 0) || eqT k sc c.k c.sc)) := by
    unfold Vm.ofB eqT
    rw [beq_dec, beq_dec, beq_dec, show decide (k = c.k) = decide (c.k = k) by rw [Bool.eq_iff_iff]; simp [eq_comm], show decide (sc = c.sc) = decide (c.sc = sc) by rw [Bool.eq_iff_iff]; simp [eq_comm], Bool.and_comm (Vm.typeB k sc)]
  rw [hof]
  clear hof
  obtain ⟨ck, cn, cs, css⟩ := c
  dsimp only at hz ⊢
  have VR := Lib.hid (fun (W : World) (h : EnvV W) => val_right ck cn cs css W h hz)
  have VT := Lib.hid (val_rtype k sc)
  have HQ := typ_eql k sc ck cs
  have HE := Lib.hid (he.keep (two w (.cells #[.int .i64 ck, .int .i64 cn, .int .i64 cs, .string css] 24) (.cells #[.int .i64 k, .int .i64 sc] 26)))
  clear he hz
  revert VR VT HQ
  generalize Vm.rightB ⟨ck, cn, cs, css⟩ = b1
  generalize Vm.typeB k sc = b2
  generalize eqT k sc ck cs = b3
  intro VR VT HQ
  cases b1
  · go_enter Tryz.func15, Tryz.ntmps15
    go_wp2_with fail
    refine (VR.out _ HE.out).mono ?_
    rintro e w1 ⟨rfl, hb⟩
    have HB := Lib.hid hb
    clear hb VR VT HQ
    go_wp2
    go_ret
    exact Says.mk rfl ((two w _ _).trans (HB.out.mono (by simp; omega)))
  · cases b2
    · go_enter Tryz.func15, Tryz.ntmps15
      go_wp2_with fail
      refine (VR.out _ HE.out).mono ?_
      rintro e w1 ⟨rfl, hb⟩
      have HB := Lib.hid hb
      obtain ⟨hc, hf⟩ := bcell3 hb
      have hlt : w.heap.size + 1 < w1.heap.size := by have := hb.size; simp at this; omega
      clear hb VR HQ
      go_wp2_with fail
      refine (VT.out _).mono ?_
      rintro e w2 ⟨rfl, hb⟩
      have HB2 := Lib.hid hb
      clear hb hc hf
      go_wp2
      go_ret
      exact Says.mk rfl (((two w _ _).trans (HB.out.mono (by simp; omega))).trans (HB2.out.mono (by omega)))
    · cases hk : (ck == 0)
      all_goals
        go_enter Tryz.func15, Tryz.ntmps15
        go_wp2_with fail
        refine (VR.out _ HE.out).mono ?_
        rintro e w1 ⟨rfl, hb⟩
        have HB := Lib.hid hb
        have X1 := Lib.hid (((Bx.new w ck cn cs css 24).alloc (.cells #[.int .i64 k, .int .i64 sc] 26)).keep hb)
        have Y1 := Lib.hid ((Tx.new (w.alloc (.cells #[.int .i64 ck, .int .i64 cn, .int .i64 cs, .string css] 24)) k sc 26).keep hb)
        rw [show (w.alloc (.cells #[.int .i64 ck, .int .i64 cn, .int .i64 cs, .string css] 24)).heap.size = w.heap.size + 1 by simp] at Y1
        have y0 := Y1.out.c0; have y1 := Y1.out.c1
        clear hb VR
        go_wp2_with fail
        refine (VT.out _).mono ?_
        rintro e w2 ⟨rfl, hb⟩
        have HB2 := Lib.hid hb
        have X2 := Lib.hid (X1.out.keep hb); have Y2 := Lib.hid (Y1.out.keep hb)
        clear hb y0 y1 VT
        have y0 := Y2.out.c0; have y1 := Y2.out.c1; have x0 := X2.out.c0; have x2 := X2.out.c2
        go_wp2
        go_ret
        exact Says.mk rfl (((two w _ _).trans (HB.out.mono (by simp; omega))).trans (HB2.out.mono (by have := HB.out.size; simp at this; omega)))
end Go.Proofs.YtpbmjknhfgdnnaaGreatDoor
/- Package value: Compare, Order. -/
namespace Go.Proofs.YtpbmjknhfgdnnaaGreatDoor
open Go.RowKit

theorem or2_r (x : Int) : or2 x 0 = x := by unfold or2; split <;> simp_all
theorem or2_l (y : Int) : or2 0 y = y := rfl
theorem cb_nil : Lib.compareBytes [] [] = 0 := rfl
theorem ci00 : Lib.compareInt 0 0 = 0 := by decide
theorem cm0 : compM 0 0 0 0 = 0 := by decide
theorem cmb (n m : Int) : compM n 0 m 0 = Lib.compareInt n m := by
  rw [comp_int _ _ _ _ (by decide) (by decide)]
  simp [icmp, Lib.compareInt]
theorem ci_zero (a b : Int) : Lib.compareInt a b = 0 ↔ a = b := by
  unfold Lib.compareInt
  constructor
  · intro h
    by_cases h1 : a < b
    · rw [if_pos h1] at h; cases h
    · rw [if_neg h1] at h
      by_cases h2 : b < a
      · rw [if_pos h2] at h; cases h
      · omega
  · intro h; rw [if_neg (by omega), if_neg (by omega)]
theorem comp_math (a b : Vm.Cl) (ha : Vm.rightB a = true) (hb : Vm.rightB b = true) :
    Vm.comp a b = if a.k = 0 ∨ cls a.k ≠ cls b.k then (0, false) else (or2 (compM a.n a.sc b.n b.sc) (Lib.compareBytes a.s.data.toList b.s.data.toList), true) := by
  rcases Vm.right_cases ha with rfl | ⟨n, hn1, rfl⟩ | ⟨n, rfl⟩ | ⟨n, s, hs, rfl⟩ | ⟨s, hs, hv, rfl⟩ | ⟨s, hs, rfl⟩ <;>
  rcases Vm.right_cases hb with rfl | ⟨n', hn1', rfl⟩ | ⟨n', rfl⟩ | ⟨n', s', hs', rfl⟩ | ⟨s', hs', hv', rfl⟩ | ⟨s', hs', rfl⟩ <;>
  simp [Vm.comp, Vm.isNum, cls, Vm.nil, or2_r, or2_l, cb_nil, ci00, cmb]
theorem kinds (a : Vm.Cl) (ha : Vm.rightB a = true) : 0 ≤ a.k ∧ a.k ≤ 5 := by
  rcases Vm.right_cases ha with rfl | ⟨n, hn1, rfl⟩ | ⟨n, rfl⟩ | ⟨n, s, hs, rfl⟩ | ⟨s, hs, hv, rfl⟩ | ⟨s, hs, rfl⟩ <;> simp [Vm.nil]
theorem nil_of (a : Vm.Cl) (ha : Vm.rightB a = true) (h : a.k = 0) : a = Vm.nil := by
  rcases Vm.right_cases ha with rfl | ⟨n, hn1, rfl⟩ | ⟨n, rfl⟩ | ⟨n, s, hs, rfl⟩ | ⟨s, hs, hv, rfl⟩ | ⟨s, hs, rfl⟩
  · rfl
  all_goals cases h
theorem order_math (a b : Vm.Cl) (ha : Vm.rightB a = true) (hb : Vm.rightB b = true) :
    Vm.order a b = orL [Lib.compareInt (cls a.k) (cls b.k), or2 (compM a.n a.sc b.n b.sc) (Lib.compareBytes a.s.data.toList b.s.data.toList), Lib.compareInt a.k b.k, Lib.compareInt a.sc b.sc] := by
  have hc := comp_math a b ha hb
  obtain ⟨a1, a2⟩ := kinds a ha
  obtain ⟨b1, b2⟩ := kinds b hb
  unfold Vm.order
  by_cases hcl : cls a.k = cls b.k
  · have hx : Lib.compareInt (cls a.k) (cls b.k) = 0 := (ci_zero _ _).2 hcl
    by_cases h0 : a.k = 0
    · have hb0 : b.k = 0 := by
        have e : cls a.k = 0 := by unfold cls; rw [h0]; rfl
        rw [e] at hcl
        unfold cls at hcl
        split at hcl <;> omega
      have ea := nil_of a ha h0
      have eb := nil_of b hb hb0
      subst ea eb
      decide +kernel
    · have hc2 : Vm.comp a b = (or2 (compM a.n a.sc b.n b.sc) (Lib.compareBytes a.s.data.toList b.s.data.toList), true) := by rw [hc, if_neg (fun h => h.elim h0 (fun h => h hcl))]
      rw [hc2, hx]
      clear hc hc2
      generalize or2 (compM a.n a.sc b.n b.sc) (Lib.compareBytes a.s.data.toList b.s.data.toList) = c
      show (if (true = true ∧ c ≠ 0) then c else if (true = false ∨ a.k ≠ b.k) then Lib.compareInt a.k b.k else Lib.compareInt a.sc b.sc) = _
      by_cases hcz : c = 0
      · rw [if_neg (by simp [hcz]), orL, if_pos rfl, orL, if_pos hcz, orL]
        by_cases hk : a.k = b.k
        · rw [if_neg (by simp [hk]), if_pos ((ci_zero _ _).2 hk), orL]
          by_cases hs : Lib.compareInt a.sc b.sc = 0
          · rw [if_pos hs, hs]; rfl
          · rw [if_neg hs]
        · rw [if_pos (.inr hk), if_neg (fun e => hk ((ci_zero _ _).1 e))]
      · rw [if_pos ⟨rfl, hcz⟩, orL, if_pos rfl, orL, if_neg hcz]
  · have hc2 : Vm.comp a b = (0, false) := by rw [hc, if_pos (.inr hcl)]
    rw [hc2]
    have hx : Lib.compareInt (cls a.k) (cls b.k) ≠ 0 := fun e => hcl ((ci_zero _ _).1 e)
    have hy : Lib.compareInt (cls a.k) (cls b.k) = Lib.compareInt a.k b.k := by
      clear hx hc hc2
      unfold cls at hcl ⊢
      rcases (show a.k = 3 ∨ a.k ≠ 3 by omega) with h3 | h3 <;> rcases (show b.k = 3 ∨ b.k ≠ 3 by omega) with g3 | g3
      · rw [if_pos h3, if_pos g3] at hcl; exact absurd rfl hcl
      · rw [if_pos h3, if_neg g3] at hcl ⊢
        rw [h3]
        unfold Lib.compareInt
        (repeat' split) <;> omega
      · rw [if_neg h3, if_pos g3] at hcl ⊢
        rw [g3]
        unfold Lib.compareInt
        (repeat' split) <;> omega
      · rw [if_neg h3, if_neg g3]
    show (if (false = true ∧ (0 : Int) ≠ 0) then 0 else if (false = false ∨ a.k ≠ b.k) then Lib.compareInt a.k b.k else Lib.compareInt a.sc b.sc) = _
    rw [if_neg (by simp), if_pos (.inl rfl), orL, if_neg hx, hy]

/-- two values in blocks that can be written -/
structure Tw (w : World) (ak an ac : Int) (as' : ByteArray) (bk bn bc : Int) (bs : ByteArray) (W : World) : Prop where
  a : Fx w.heap.size ak an ac as' W
  b : Fx (w.heap.size + 1) bk bn bc bs W
  bel : Below w.heap.size w W
theorem Tw.keep {w W W' : World} {ak an ac : Int} {as' : ByteArray} {bk bn bc : Int} {bs : ByteArray} (h : Tw w ak an ac as' bk bn bc bs W) (hb : Below W.heap.size W W') : Tw w ak an ac as' bk bn bc bs W' :=
  ⟨h.a.keep hb, h.b.keep hb, h.bel.trans (hb.mono h.bel.size)⟩
theorem Tw.new (w : World) (ak an ac : Int) (as' : ByteArray) (bk bn bc : Int) (bs : ByteArray) (t t' : TypeId) :
    Tw w ak an ac as' bk bn bc bs ((w.alloc (.cells #[.int .i64 ak, .int .i64 an, .int .i64 ac, .string as'] t)).alloc (.cells #[.int .i64 bk, .int .i64 bn, .int .i64 bc, .string bs] t')) := by
  have b := Fx.new (w.alloc (.cells #[.int .i64 ak, .int .i64 an, .int .i64 ac, .string as'] t)) bk bn bc bs t'
  rw [show (w.alloc (.cells #[.int .i64 ak, .int .i64 an, .int .i64 ac, .string as'] t)).heap.size = w.heap.size + 1 by simp] at b
  exact ⟨(Fx.new w ak an ac as' t).keep (one_a _ _), b, two w _ _⟩
theorem Tw.put {w W : World} {ak an ac : Int} {as' : ByteArray} {bk bn bc : Int} {bs : ByteArray} (h : Tw w ak an ac as' bk bn bc bs W) (pk pn pc : Int) (ps : ByteArray) (qk qn qc : Int) (qs : ByteArray) :
    Tw w pk pn pc ps qk qn qc qs ((((((((W.setCell ⟨w.heap.size, 0, none⟩ (.int .i64 pk)).setCell ⟨w.heap.size, 1, none⟩ (.int .i64 pn)).setCell ⟨w.heap.size, 2, none⟩ (.int .i64 pc)).setCell ⟨w.heap.size, 3, none⟩ (.string ps)).setCell ⟨w.heap.size + 1, 0, none⟩ (.int .i64 qk)).setCell ⟨w.heap.size + 1, 1, none⟩ (.int .i64 qn)).setCell ⟨w.heap.size + 1, 2, none⟩ (.int .i64 qc)).setCell ⟨w.heap.size + 1, 3, none⟩ (.string qs)) :=
  ⟨(h.a.set pk pn pc ps).far (by omega) _ _ _ _, (h.b.far (by omega) _ _ _ _).set qk qn qc qs, set4 (set4 h.bel (Nat.le_refl _) _ _ _ _) (Nat.le_succ _) _ _ _ _⟩
theorem Tw.pair {w W : World} {ak an ac : Int} {as' : ByteArray} {bk bn bc : Int} {bs : ByteArray} (h : Tw w ak an ac as' bk bn bc bs W) : PairC w ak an ac as' bk bn bc bs W :=
  ⟨h.a.bx.c0, h.a.bx.c1, h.a.bx.c2, h.a.bx.c3, h.b.bx.c0, h.b.bx.c1, h.b.bx.c2, h.b.bx.c3, ⟨h.bel, h.b.bx.lt⟩⟩
theorem lit4 (W : World) (g : Nat) (hg : g = W.heap.size) (x y z u : Int) : IntC (.slice (some ⟨g, 0, none⟩) 4 4) [x, y, z, u] (W.alloc (.cells #[.int .i64 x, .int .i64 y, .int .i64 z, .int .i64 u] 3)) := by
  subst hg
  refine .inr ⟨W.heap.size, 0, 4, rfl, Nat.le_refl _, by simp, ?_⟩
  intro j hj
  have hj3 : j = 0 ∨ j = 1 ∨ j = 2 ∨ j = 3 := by simp at hj; omega
  rcases hj3 with rfl | rfl | rfl | rfl <;> simp [World.cell?_alloc_new]

set_option maxRecDepth 100000 in
set_option maxHeartbeats 4000000 in
theorem val_compare (a b : Vm.Cl) (w : World) (he : EnvV w) (ha : i64 a.n) (hb : i64 b.n) (hza : a.s.size ≤ maxLen) (hzb : b.s.size ≤ maxLen) :
    Calls Tryz.prog 18 #[.agg #[.int .i64 a.k, .int .i64 a.n, .int .i64 a.sc, .string a.s], .agg #[.int .i64 b.k, .int .i64 b.n, .int .i64 b.sc, .string b.s]] w (NumB (Vm.comp (Vm.plain a) (Vm.plain b)) w) := by
  have HM := Lib.hid (comp_math (Vm.plain a) (Vm.plain b) (Vm.plain_right a) (Vm.plain_right b))
  have IA := Lib.hid (Vm.plain_i64 ha); have IB := Lib.hid (Vm.plain_i64 hb)
  have ZA := Lib.hid hza; have ZB := Lib.hid hzb; have HE := Lib.hid he
  clear ha hb hza hzb he
  obtain ⟨ak, an, ac, as'⟩ := a
  obtain ⟨bk, bn, bc, bs⟩ := b
  dsimp only at HM IA IB ZA ZB ⊢
  obtain ⟨G, hG⟩ : ∃ G : Int → Int → Int → ByteArray → Vm.Cl, ∀ k n sc s, G k n sc s = Vm.plain ⟨k, n, sc, s⟩ := ⟨_, fun _ _ _ _ => rfl⟩
  rw [← hG, ← hG] at HM
  rw [← hG] at IA IB
  rw [← hG, ← hG]
  have VV : Hid (∀ (k n sc : Int) (s : ByteArray) (W : World), EnvV W → s.size ≤ maxLen → Calls Tryz.prog 39 #[.agg #[.int .i64 k, .int .i64 n, .int .i64 sc, .string s]] W fun e w' => e = .returned (.agg #[.int .i64 (G k n sc s).k, .int .i64 (G k n sc s).n, .int .i64 (G k n sc s).sc, .string (G k n sc s).s]) ∧ Below W.heap.size W w') := by
    show ∀ (k n sc : Int) (s : ByteArray) (W : World), EnvV W → s.size ≤ maxLen → Calls Tryz.prog 39 #[.agg #[.int .i64 k, .int .i64 n, .int .i64 sc, .string s]] W fun e w' => e = .returned (.agg #[.int .i64 (G k n sc s).k, .int .i64 (G k n sc s).n, .int .i64 (G k n sc s).sc, .string (G k n sc s).s]) ∧ Below W.heap.size W w'
    intro k n sc s W h1 h2
    rw [hG]
    exact val_valid k n sc s W h1 h2
  clear hG
  have T0 := Lib.hid ((Tw.new w ak an ac as' bk bn bc bs 24 24).keep (below_d1 _))
  go_enter Tryz.func18, Tryz.ntmps18
  go_upto_region 1 with (fail)
  go_cut [6] (fun _ wx => Hid (Tw w (G ak an ac as').k (G ak an ac as').n (G ak an ac as').sc (G ak an ac as').s (G bk bn bc bs).k (G bk bn bc bs).n (G bk bn bc bs).sc (G bk bn bc bs).s wx))
  case first =>
    go_region_with (go_at_call 39; refine (VV.out _ _ _ _ _ (HE.out.keep T0.out.bel) (by first | exact ZA.out | exact ZB.out)).mono ?_; rintro e w4 ⟨rfl, hb⟩; replace T0 := Lib.hid (T0.out.keep hb); clear hb; have x0 := T0.out.a.bx.c0; have x1 := T0.out.a.bx.c1; have x2 := T0.out.a.bx.c2; have x3 := T0.out.a.bx.c3; have y0 := T0.out.b.bx.c0; have y1 := T0.out.b.bx.c1; have y2 := T0.out.b.bx.c2; have y3 := T0.out.b.bx.c3; have z0 := T0.out.a.fz; have z1 := T0.out.b.fz)
    all_goals
      go_wp2_with fail
      go_meet
      exact T0.out.put _ _ _ _ _ _ _ _
  case rest =>
    have TC := hcut
    clear hcut VV T0
    obtain ⟨P, hP⟩ : ∃ P, P = G ak an ac as' := ⟨_, rfl⟩
    obtain ⟨Q, hQ⟩ : ∃ Q, Q = G bk bn bc bs := ⟨_, rfl⟩
    rw [← hP, ← hQ] at HM TC
    rw [← hP] at IA
    rw [← hQ] at IB
    have HPQ := Lib.hid (show Vm.comp (G ak an ac as') (G bk bn bc bs) = Vm.comp P Q by rw [hP, hQ])
    clear hP hQ
    obtain ⟨pk, pn, pc, ps⟩ := P
    obtain ⟨qk, qn, qc, qs⟩ := Q
    dsimp only at HM IA IB TC
    have CI := Lib.hid (val_cic pk pn pc ps qk qn qc qs · IA.out IB.out)
    clear IA IB ZA ZB HE
    by_cases h0 : pk = 0
    · have hm : Vm.comp ⟨pk, pn, pc, ps⟩ ⟨qk, qn, qc, qs⟩ = (0, false) := by rw [HM.out, if_pos (.inl h0)]
      have HN := Lib.hid hm
      have q0 : (pk == 0) = true := by simpa using h0
      clear hm HM h0 CI
      have x0 := TC.out.a.bx.c0
      go_upto_region 2 with (fail)
      go_quiet (fail)
      go_wp2
      go_ret2
      exact NumB.mk (HPQ.out.trans HN.out) (by first | exact TC.out.bel | exact below_drew TC.out.bel | exact below_n TC.out.bel _)
    · have q0 : (pk == 0) = false := by simpa using h0
      go_upto_region 2 with (fail)
      have S0 := Lib.hid (TC.out.pair.keep (below_d1 _))
      go_region_held3 (fun w' => w'.cell? ⟨w.heap.size, 0, none⟩ = some (.int .i64 pk) ∧ w'.cell? ⟨w.heap.size, 1, none⟩ = some (.int .i64 pn) ∧ w'.cell? ⟨w.heap.size, 2, none⟩ = some (.int .i64 pc) ∧ w'.cell? ⟨w.heap.size, 3, none⟩ = some (.string ps) ∧
    w'.cell? ⟨w.heap.size + 1, 0, none⟩ = some (.int .i64 qk) ∧ w'.cell? ⟨w.heap.size + 1, 1, none⟩ = some (.int .i64 qn) ∧ w'.cell? ⟨w.heap.size + 1, 2, none⟩ = some (.int .i64 qc) ∧ w'.cell? ⟨w.heap.size + 1, 3, none⟩ = some (.string qs) ∧
    Hid (Below w.heap.size w w' ∧ w.heap.size + 1 < w'.heap.size)) (first | exact S0.out | exact PairC.keep (by assumption) hb | assumption | exact PairC.keep (by assumption) (one_a _ _)) (first
        | (go_at_call 40; refine (val_class _ _ _ _ _).mono ?_; rintro e w5 ⟨rfl, hb⟩))
      all_goals
        rename_i w5 T5
        have T6 : PairC w pk pn pc ps qk qn qc qs w5 := T5
        clear T5
        by_cases h1 : cls pk = cls qk
        · have q1 : (cls pk != cls qk) = false := by simpa using h1
          have hm := HM.out
          rw [if_neg (by simp [h0, h1])] at hm
          have HN := Lib.hid hm
          obtain ⟨x0, x1, x2, x3, y0, y1, y2, y3, _⟩ := T6
          clear hm HM h0 h1
          go_wp2_with fail
          refine (CI.out _).mono ?_
          rintro e w6 ⟨rfl, hb⟩
          have T7 := Lib.hid (PairC.keep (w := w) ⟨x0, x1, x2, x3, y0, y1, y2, y3, by assumption⟩ hb)
          clear hb x0 x1 x2 x3 y0 y1 y2 y3
          go_wp2
          go_ret2
          exact NumB.mk (HPQ.out.trans HN.out) T7.out.bel
        · have q1 : (cls pk != cls qk) = true := by simpa using h1
          have hm := HM.out
          rw [if_pos (.inr h1)] at hm
          have HN := Lib.hid hm
          clear hm HM h0 h1 CI
          have HB := Lib.hid T6.bel
          clear T6
          go_wp2
          go_ret2
          exact NumB.mk (HPQ.out.trans HN.out) HB.out

set_option maxRecDepth 100000 in
set_option maxHeartbeats 4000000 in
theorem val_order (a b : Vm.Cl) (w : World) (he : EnvV w) (ha : i64 a.n) (hb : i64 b.n) (hza : a.s.size ≤ maxLen) (hzb : b.s.size ≤ maxLen) :
    Calls Tryz.prog 20 #[.agg #[.int .i64 a.k, .int .i64 a.n, .int .i64 a.sc, .string a.s], .agg #[.int .i64 b.k, .int .i64 b.n, .int .i64 b.sc, .string b.s]] w (Num (Vm.order (Vm.plain a) (Vm.plain b)) w) := by
  have HM := Lib.hid (order_math (Vm.plain a) (Vm.plain b) (Vm.plain_right a) (Vm.plain_right b))
  have IA := Lib.hid (Vm.plain_i64 ha); have IB := Lib.hid (Vm.plain_i64 hb)
  have ZA := Lib.hid hza; have ZB := Lib.hid hzb; have HE := Lib.hid he
  clear ha hb hza hzb he
  obtain ⟨ak, an, ac, as'⟩ := a
  obtain ⟨bk, bn, bc, bs⟩ := b
  dsimp only at HM IA IB ZA ZB ⊢
  obtain ⟨G, hG⟩ : ∃ G : Int → Int → Int → ByteArray → Vm.Cl, ∀ k n sc s, G k n sc s = Vm.plain ⟨k, n, sc, s⟩ := ⟨_, fun _ _ _ _ => rfl⟩
  rw [← hG, ← hG] at HM
  rw [← hG] at IA IB
  rw [← hG, ← hG]
  have VV : Hid (∀ (k n sc : Int) (s : ByteArray) (W : World), EnvV W → s.size ≤ maxLen → Calls Tryz.prog 39 #[.agg #[.int .i64 k, .int .i64 n, .int .i64 sc, .string s]] W fun e w' => e = .returned (.agg #[.int .i64 (G k n sc s).k, .int .i64 (G k n sc s).n, .int .i64 (G k n sc s).sc, .string (G k n sc s).s]) ∧ Below W.heap.size W w') := by
    show ∀ (k n sc : Int) (s : ByteArray) (W : World), EnvV W → s.size ≤ maxLen → Calls Tryz.prog 39 #[.agg #[.int .i64 k, .int .i64 n, .int .i64 sc, .string s]] W fun e w' => e = .returned (.agg #[.int .i64 (G k n sc s).k, .int .i64 (G k n sc s).n, .int .i64 (G k n sc s).sc, .string (G k n sc s).s]) ∧ Below W.heap.size W w'
    intro k n sc s W h1 h2
    rw [hG]
    exact val_valid k n sc s W h1 h2
  clear hG
  have T0 := Lib.hid ((Tw.new w ak an ac as' bk bn bc bs 24 24).keep (below_d1 _))
  go_enter Tryz.func20, Tryz.ntmps20
  go_upto_region 1 with (fail)
  go_cut [6] (fun _ wx => Hid (Tw w (G ak an ac as').k (G ak an ac as').n (G ak an ac as').sc (G ak an ac as').s (G bk bn bc bs).k (G bk bn bc bs).n (G bk bn bc bs).sc (G bk bn bc bs).s wx))
  case first =>
    go_region_with (go_at_call 39; refine (VV.out _ _ _ _ _ (HE.out.keep T0.out.bel) (by first | exact ZA.out | exact ZB.out)).mono ?_; rintro e w4 ⟨rfl, hb⟩; replace T0 := Lib.hid (T0.out.keep hb); clear hb; have x0 := T0.out.a.bx.c0; have x1 := T0.out.a.bx.c1; have x2 := T0.out.a.bx.c2; have x3 := T0.out.a.bx.c3; have y0 := T0.out.b.bx.c0; have y1 := T0.out.b.bx.c1; have y2 := T0.out.b.bx.c2; have y3 := T0.out.b.bx.c3; have z0 := T0.out.a.fz; have z1 := T0.out.b.fz)
    all_goals
      go_wp2_with fail
      go_meet
      exact T0.out.put _ _ _ _ _ _ _ _
  case rest =>
    have TC := hcut
    clear hcut VV T0
    obtain ⟨P, hP⟩ : ∃ P, P = G ak an ac as' := ⟨_, rfl⟩
    obtain ⟨Q, hQ⟩ : ∃ Q, Q = G bk bn bc bs := ⟨_, rfl⟩
    rw [← hP, ← hQ] at HM TC
    rw [← hP] at IA
    rw [← hQ] at IB
    have HPQ := Lib.hid (show Vm.order (G ak an ac as') (G bk bn bc bs) = Vm.order P Q by rw [hP, hQ])
    clear hP hQ
    obtain ⟨pk, pn, pc, ps⟩ := P
    obtain ⟨qk, qn, qc, qs⟩ := Q
    dsimp only at HM IA IB TC
    have CI := Lib.hid (val_cic pk pn pc ps qk qn qc qs · IA.out IB.out)
    clear IA IB ZA ZB HE
    obtain ⟨x, hx⟩ : ∃ x, x = or2 (compM pn pc qn qc) (Lib.compareBytes ps.data.toList qs.data.toList) := ⟨_, rfl⟩
    rw [← hx] at CI HM
    clear hx
    go_upto_region 2 with (fail)
    have S0 := Lib.hid (TC.out.pair.keep (below_d1 _))
    go_region_held3 (fun w' => w'.cell? ⟨w.heap.size, 0, none⟩ = some (.int .i64 pk) ∧ w'.cell? ⟨w.heap.size, 1, none⟩ = some (.int .i64 pn) ∧ w'.cell? ⟨w.heap.size, 2, none⟩ = some (.int .i64 pc) ∧ w'.cell? ⟨w.heap.size, 3, none⟩ = some (.string ps) ∧
    w'.cell? ⟨w.heap.size + 1, 0, none⟩ = some (.int .i64 qk) ∧ w'.cell? ⟨w.heap.size + 1, 1, none⟩ = some (.int .i64 qn) ∧ w'.cell? ⟨w.heap.size + 1, 2, none⟩ = some (.int .i64 qc) ∧ w'.cell? ⟨w.heap.size + 1, 3, none⟩ = some (.string qs) ∧
    Hid (Below w.heap.size w w' ∧ w.heap.size + 1 < w'.heap.size)) (first | exact S0.out | exact PairC.keep (by assumption) hb | assumption | exact PairC.keep (by assumption) (one_a _ _)) (first
      | (go_at_call 40; refine (val_class _ _ _ _ _).mono ?_; rintro e w5 ⟨rfl, hb⟩)
      | (go_at_call 46; refine (kind_cmp _ _ _).mono ?_; rintro e w6 ⟨rfl, rfl⟩)
      | (go_at_call 41; refine (CI.out _).mono ?_; rintro e w7 ⟨rfl, hb⟩)
      | (go_at_call 47; refine (Tryz.cmp_Compare_int _ _ _).mono ?_; rintro e w8 ⟨rfl, rfl⟩)
      | (go_at_call 45; refine (cmp_or _ 4 4 [Lib.compareInt (cls pk) (cls qk), x, Lib.compareInt pk qk, Lib.compareInt pc qc] _ rfl (by first | exact lit4 _ _ (by simp) _ _ _ _ | exact (lit4 _ _ (by simp) _ _ _ _).drew) (by omega)).mono ?_; rintro e w9 ⟨rfl, rfl⟩))
    all_goals
      go_wp2
      go_ret
      exact ⟨ret_i64 (HPQ.out.trans HM.out).symm, by first | exact PairC.bel (by assumption) | exact PairC.bel (PairC.keep (by assumption) (one_a _ _))⟩
end Go.Proofs.YtpbmjknhfgdnnaaGreatDoor
/- Package value: TypeName. -/
namespace Go.Proofs.YtpbmjknhfgdnnaaGreatDoor
open Go.RowKit

theorem name_bool (w : World) (he : EnvV w) : Calls Tryz.prog 17 #[.agg #[.int .i64 1, .int .i64 0]] w fun e w' => e = .returned (.string ⟨#[66, 79, 79, 76]⟩) ∧ Below w.heap.size w w' := by
  have RT := Lib.hid (val_rtype 1 0)
  rw [show Vm.typeB 1 0 = true by decide] at RT
  have HE := Lib.hid he
  clear he
  go_enter Tryz.func17, Tryz.ntmps17
  go_wp2_with fail
  refine (RT.out _).mono ?_
  rintro e w1 ⟨rfl, hb⟩
  have HB := Lib.hid ((one_a w (.cells #[.int .i64 1, .int .i64 0] 26)).trans (hb.mono (by simp)))
  have Y := Lib.hid ((Tx.new w 1 0 26).keep hb)
  have y0 := Y.out.c0; have y1 := Y.out.c1
  have n0 := (HE.out.keep HB.out).nm 1 (.string ⟨#[66, 79, 79, 76]⟩) rfl
  clear hb RT
  go_wp2
  go_ret
  exact ⟨rfl, HB.out⟩

theorem name_int (w : World) (he : EnvV w) : Calls Tryz.prog 17 #[.agg #[.int .i64 2, .int .i64 0]] w fun e w' => e = .returned (.string ⟨#[73, 78, 84]⟩) ∧ Below w.heap.size w w' := by
  have RT := Lib.hid (val_rtype 2 0)
  rw [show Vm.typeB 2 0 = true by decide] at RT
  have HE := Lib.hid he
  clear he
  go_enter Tryz.func17, Tryz.ntmps17
  go_wp2_with fail
  refine (RT.out _).mono ?_
  rintro e w1 ⟨rfl, hb⟩
  have HB := Lib.hid ((one_a w (.cells #[.int .i64 2, .int .i64 0] 26)).trans (hb.mono (by simp)))
  have Y := Lib.hid ((Tx.new w 2 0 26).keep hb)
  have y0 := Y.out.c0; have y1 := Y.out.c1
  have n0 := (HE.out.keep HB.out).nm 2 (.string ⟨#[73, 78, 84]⟩) rfl
  clear hb RT
  go_wp2
  go_ret
  exact ⟨rfl, HB.out⟩

theorem name_text (w : World) (he : EnvV w) : Calls Tryz.prog 17 #[.agg #[.int .i64 4, .int .i64 0]] w fun e w' => e = .returned (.string ⟨#[84, 69, 88, 84]⟩) ∧ Below w.heap.size w w' := by
  have RT := Lib.hid (val_rtype 4 0)
  rw [show Vm.typeB 4 0 = true by decide] at RT
  have HE := Lib.hid he
  clear he
  go_enter Tryz.func17, Tryz.ntmps17
  go_wp2_with fail
  refine (RT.out _).mono ?_
  rintro e w1 ⟨rfl, hb⟩
  have HB := Lib.hid ((one_a w (.cells #[.int .i64 4, .int .i64 0] 26)).trans (hb.mono (by simp)))
  have Y := Lib.hid ((Tx.new w 4 0 26).keep hb)
  have y0 := Y.out.c0; have y1 := Y.out.c1
  have n0 := (HE.out.keep HB.out).nm 4 (.string ⟨#[84, 69, 88, 84]⟩) rfl
  clear hb RT
  go_wp2
  go_ret
  exact ⟨rfl, HB.out⟩

theorem name_bytes (w : World) (he : EnvV w) : Calls Tryz.prog 17 #[.agg #[.int .i64 5, .int .i64 0]] w fun e w' => e = .returned (.string ⟨#[66, 89, 84, 69, 83]⟩) ∧ Below w.heap.size w w' := by
  have RT := Lib.hid (val_rtype 5 0)
  rw [show Vm.typeB 5 0 = true by decide] at RT
  have HE := Lib.hid he
  clear he
  go_enter Tryz.func17, Tryz.ntmps17
  go_wp2_with fail
  refine (RT.out _).mono ?_
  rintro e w1 ⟨rfl, hb⟩
  have HB := Lib.hid ((one_a w (.cells #[.int .i64 5, .int .i64 0] 26)).trans (hb.mono (by simp)))
  have Y := Lib.hid ((Tx.new w 5 0 26).keep hb)
  have y0 := Y.out.c0; have y1 := Y.out.c1
  have n0 := (HE.out.keep HB.out).nm 5 (.string ⟨#[66, 89, 84, 69, 83]⟩) rfl
  clear hb RT
  go_wp2
  go_ret
  exact ⟨rfl, HB.out⟩

theorem name_no (k sc : Int) (w : World) (ht : Vm.typeB k sc = false) : Calls Tryz.prog 17 #[.agg #[.int .i64 k, .int .i64 sc]] w fun e w' => e = .returned (.string ⟨#[]⟩) ∧ Below w.heap.size w w' := by
  have RT := Lib.hid (val_rtype k sc)
  rw [ht] at RT
  clear ht
  go_enter Tryz.func17, Tryz.ntmps17
  go_wp2_with fail
  refine (RT.out _).mono ?_
  rintro e w1 ⟨rfl, hb⟩
  have HB := Lib.hid ((one_a w (.cells #[.int .i64 k, .int .i64 sc] 26)).trans (hb.mono (by simp)))
  clear hb RT
  go_wp2
  go_ret
  exact ⟨rfl, HB.out⟩
set_option maxRecDepth 100000 in
set_option maxHeartbeats 1000000 in
theorem name_dec (i : Nat) (w : World) (he : EnvV w) (hi : i ≤ 6) : Calls Tryz.prog 17 #[.agg #[.int .i64 3, .int .i64 (i : Int)]] w (Str ([68, 69, 67, 73, 77, 65, 76, 40] ++ [UInt8.ofNat (48 + i), 41]) w) := by
  have RT := Lib.hid (val_rtype 3 (i : Int))
  rw [show Vm.typeB 3 (i : Int) = true by unfold Vm.typeB; rw [if_neg (by decide), if_pos rfl]; simp [scB]; omega] at RT
  obtain ⟨T, hT⟩ : ∃ T : ByteArray, T = bstr [UInt8.ofNat (48 + i)] := ⟨_, rfl⟩
  have IT : Hid (∀ W, Calls Tryz.prog 38 #[.int .i64 (i : Int)] W fun e w' => e = .returned (.string T) ∧ W = w') := by
    show ∀ W, Calls Tryz.prog 38 #[.int .i64 (i : Int)] W fun e w' => e = .returned (.string T) ∧ W = w'
    intro W
    refine (Tryz.strconv_Itoa_small i (by omega) W).mono ?_
    rintro e w' ⟨rfl, rfl⟩
    refine ⟨?_, rfl⟩
    rw [hT, Lib.decDigits, dif_pos (by omega)]; rfl
  obtain ⟨D, hD⟩ : ∃ D : ByteArray, D = ⟨#[68, 69, 67, 73, 77, 65, 76]⟩ := ⟨_, rfl⟩
  have hT1 : T.size = 1 := by rw [hT, bstr_size]; rfl
  have hD1 : D.size = 7 := by rw [hD]; rfl
  have hc1 : (D ++ (⟨#[40]⟩ : ByteArray)).size = 8 := by rw [ByteArray.size_append, hD1]; rfl
  have hc2 : (D ++ (⟨#[40]⟩ : ByteArray) ++ T).size = 9 := by rw [ByteArray.size_append, hc1, hT1]
  have HT := Lib.hid hT; have HD := Lib.hid hD; have HE := Lib.hid he
  have NM : Hid (∀ W, EnvV W → W.cell? ⟨0, 3, none⟩ = some (.string D)) := by
    show ∀ W, EnvV W → W.cell? ⟨0, 3, none⟩ = some (.string D)
    intro W h
    rw [hD]
    exact h.nm 3 _ rfl
  clear he hT hD hi
  go_enter Tryz.func17, Tryz.ntmps17
  go_wp2_with fail
  refine (RT.out _).mono ?_
  rintro e w1 ⟨rfl, hb⟩
  have HB := Lib.hid ((one_a w (.cells #[.int .i64 3, .int .i64 (i : Int)] 26)).trans (hb.mono (by simp)))
  have Y := Lib.hid ((Tx.new w 3 (i : Int) 26).keep hb)
  have y0 := Y.out.c0; have y1 := Y.out.c1
  have n0 := NM.out _ (HE.out.keep HB.out)
  clear hb RT NM
  go_upto_region 4 with (fail)
  have S0 : Hid (w1.drew.cell? ⟨w.heap.size, 0, none⟩ = some (.int .i64 3) ∧ w1.drew.cell? ⟨w.heap.size, 1, none⟩ = some (.int .i64 (i : Int)) ∧ w1.drew.cell? ⟨0, 3, none⟩ = some (.string D)) := ⟨y0, y1, n0⟩
  go_region_held3 (fun w' => w'.cell? ⟨w.heap.size, 0, none⟩ = some (.int .i64 3) ∧ w'.cell? ⟨w.heap.size, 1, none⟩ = some (.int .i64 (i : Int)) ∧ w'.cell? ⟨0, 3, none⟩ = some (.string D)) (first | exact S0.out | assumption) (first
    | (go_at_call 38; refine (IT.out _).mono ?_; rintro e w4 ⟨rfl, rfl⟩))
  all_goals
    go_wp2
    go_ret
    exact ⟨ret_str (by rw [HD.out, HT.out, show (⟨#[68, 69, 67, 73, 77, 65, 76]⟩ : ByteArray) = bstr [68, 69, 67, 73, 77, 65, 76] from rfl, show (⟨#[40]⟩ : ByteArray) = bstr [40] from rfl, show (⟨#[41]⟩ : ByteArray) = bstr [41] from rfl, bstr_append, bstr_append, bstr_append]; rfl), by first | exact HB.out | exact below_drew HB.out⟩
theorem val_name (k sc : Int) (w : World) (he : EnvV w) : Calls Tryz.prog 17 #[.agg #[.int .i64 k, .int .i64 sc]] w (Str (Vm.name k sc) w) := by
  cases ht : Vm.typeB k sc
  · have e : Vm.name k sc = [] := by unfold Vm.name; rw [ht]; rfl
    rw [e]
    exact name_no k sc w ht
  · by_cases h3 : k = 3
    · subst h3
      have hs : scB sc = true := by have := ht; unfold Vm.typeB at this; rw [if_neg (by decide), if_pos rfl] at this; exact this
      have h := scB_true hs
      obtain ⟨i, rfl⟩ : ∃ i : Nat, sc = (i : Int) := ⟨sc.toNat, by omega⟩
      have e : Vm.name 3 (i : Int) = [68, 69, 67, 73, 77, 65, 76, 40] ++ [UInt8.ofNat (48 + i), 41] := by unfold Vm.name; rw [ht, if_pos rfl, if_neg (by decide), if_neg (by decide), if_pos rfl, Int.toNat_natCast]
      rw [e]
      exact name_dec i w he (by omega)
    · have hk : k = 1 ∨ k = 2 ∨ k = 4 ∨ k = 5 := by
        by_cases h : k = 1 ∨ k = 2 ∨ k = 4 ∨ k = 5
        · exact h
        · unfold Vm.typeB at ht; rw [if_neg h, if_neg h3] at ht; cases ht
      have h0 : sc = 0 := by unfold Vm.typeB at ht; rw [if_pos hk] at ht; simpa using ht
      subst h0
      rcases hk with rfl | rfl | rfl | rfl
      · exact name_bool w he
      · exact name_int w he
      · exact name_text w he
      · exact name_bytes w he
end Go.Proofs.YtpbmjknhfgdnnaaGreatDoor
