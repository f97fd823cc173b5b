/- Package cast: Cast. -/
import Derived.Test.YtfnnhhhkdfgefaaGreatDoorCastC2
import Derived.Test.YtfnnhhhkdfgefaaGreatDoorCastRef3
namespace Go.Proofs.YtfnnhhhkdfgefaaGreatDoor
open Go.RowKit

set_option maxRecDepth 100000 in
set_option maxHeartbeats 4000000 in
theorem cc_type (k n sc : Int) (s : ByteArray) (tk ts : Int) (w : World) (he : EnvV w) (HT : Hid (∀ W, Calls Tryz.prog 16 #[.agg #[.int .i64 tk, .int .i64 ts]] W (Says false W))) : Calls Tryz.prog 8 #[.agg #[.int .i64 k, .int .i64 n, .int .i64 sc, .string s], .agg #[.int .i64 tk, .int .i64 ts]] w (CastA (Vm.nil, 2) w) := by
  have HE := Lib.hid he
  clear he
  have C0 := Lib.hid (Cx.new w k n sc s tk ts 24 26)
  go_enter Tryz.func8, Tryz.ntmps8
  go_wp2_with fail
  refine (HT.out _).mono ?_
  rintro e w1 ⟨rfl, hb⟩
  have C1 := Lib.hid (C0.out.keep hb)
  clear hb C0 HT
  have d0 := C1.out.v.c0; have d1 := C1.out.v.c1; have d2 := C1.out.v.c2; have d3 := C1.out.v.c3; have f0 := C1.out.t.c0; have f1 := C1.out.t.c1
  have r0 := C1.out.r.bx.c0; have r1 := C1.out.r.bx.c1; have r2 := C1.out.r.bx.c2; have r3 := C1.out.r.bx.c3; have rf := C1.out.r.fz; have rl := C1.out.r.bx.lt
  go_wp2
  refine bodyPost_ret (v := .tuple #[.agg #[.int .i64 0, .int .i64 0, .int .i64 0, .string ⟨#[]⟩], .int .i64 2]) (by simp [results, Tryz.results8, go_sem, r0, r1, r2, r3]) rfl (CastA.mk rfl ?_)
  exact C1.out.fin _ _ _ _

set_option maxRecDepth 100000 in
set_option maxHeartbeats 4000000 in
theorem cc_null (n sc : Int) (s : ByteArray) (tk ts : Int) (w : World) (he : EnvV w) (HT : Hid (∀ W, Calls Tryz.prog 16 #[.agg #[.int .i64 tk, .int .i64 ts]] W (Says true W))) : Calls Tryz.prog 8 #[.agg #[.int .i64 0, .int .i64 n, .int .i64 sc, .string s], .agg #[.int .i64 tk, .int .i64 ts]] w (CastA (Vm.nil, 0) w) := by
  have HE := Lib.hid he
  clear he
  have C0 := Lib.hid (Cx.new w 0 n sc s tk ts 24 26)
  go_enter Tryz.func8, Tryz.ntmps8
  go_wp2_with fail
  refine (HT.out _).mono ?_
  rintro e w1 ⟨rfl, hb⟩
  have C1 := Lib.hid (C0.out.keep hb)
  clear hb C0 HT
  have d0 := C1.out.v.c0; have d1 := C1.out.v.c1; have d2 := C1.out.v.c2; have d3 := C1.out.v.c3; have f0 := C1.out.t.c0; have f1 := C1.out.t.c1
  have r0 := C1.out.r.bx.c0; have r1 := C1.out.r.bx.c1; have r2 := C1.out.r.bx.c2; have r3 := C1.out.r.bx.c3; have rf := C1.out.r.fz; have rl := C1.out.r.bx.lt
  go_wp2
  refine bodyPost_ret (v := .tuple #[.agg #[.int .i64 0, .int .i64 0, .int .i64 0, .string ⟨#[]⟩], .int .i64 0]) (by simp [results, Tryz.results8, go_sem, r0, r1, r2, r3]) rfl (CastA.mk rfl ?_)
  exact C1.out.fin _ _ _ _

set_option maxRecDepth 100000 in
set_option maxHeartbeats 4000000 in
theorem cc_wrong (k n sc : Int) (s : ByteArray) (tk ts : Int) (w : World) (he : EnvV w) (q0 : (k == 0) = false) (HT : Hid (∀ W, Calls Tryz.prog 16 #[.agg #[.int .i64 tk, .int .i64 ts]] W (Says true W))) (HR : Hid (∀ W, EnvV W → Calls Tryz.prog 17 #[.agg #[.int .i64 k, .int .i64 n, .int .i64 sc, .string s]] W (Says false W))) : Calls Tryz.prog 8 #[.agg #[.int .i64 k, .int .i64 n, .int .i64 sc, .string s], .agg #[.int .i64 tk, .int .i64 ts]] w (CastA (Vm.nil, 0) w) := by
  have HE := Lib.hid he
  clear he
  have C0 := Lib.hid (Cx.new w k n sc s tk ts 24 26)
  go_enter Tryz.func8, Tryz.ntmps8
  go_wp2_with fail
  refine (HT.out _).mono ?_
  rintro e w1 ⟨rfl, hb⟩
  have C1 := Lib.hid (C0.out.keep hb)
  clear hb C0 HT
  have d0 := C1.out.v.c0; have d1 := C1.out.v.c1; have d2 := C1.out.v.c2; have d3 := C1.out.v.c3; have f0 := C1.out.t.c0; have f1 := C1.out.t.c1
  go_wp2_with fail
  refine (HR.out _ (HE.out.keep C1.out.bel)).mono ?_
  rintro e w2 ⟨rfl, hb⟩
  have C2 := Lib.hid (C1.out.keep hb)
  clear hb C1 HR
  clear d0 d1 d2 d3 f0 f1
  have d0 := C2.out.v.c0; have d1 := C2.out.v.c1; have d2 := C2.out.v.c2; have d3 := C2.out.v.c3; have f0 := C2.out.t.c0; have f1 := C2.out.t.c1
  have r0 := C2.out.r.bx.c0; have r1 := C2.out.r.bx.c1; have r2 := C2.out.r.bx.c2; have r3 := C2.out.r.bx.c3; have rf := C2.out.r.fz; have rl := C2.out.r.bx.lt
  go_wp2
  refine bodyPost_ret (v := .tuple #[.agg #[.int .i64 0, .int .i64 0, .int .i64 0, .string ⟨#[]⟩], .int .i64 0]) (by simp [results, Tryz.results8, go_sem, r0, r1, r2, r3]) rfl (CastA.mk rfl ?_)
  exact C2.out.fin _ _ _ _

set_option maxRecDepth 100000 in
set_option maxHeartbeats 4000000 in
theorem cc_bool (k n sc : Int) (s : ByteArray) (w : World) (he : EnvV w) (q0 : (k == 0) = false) (HT : Hid (∀ W, Calls Tryz.prog 16 #[.agg #[.int .i64 1, .int .i64 0]] W (Says true W))) (HR : Hid (∀ W, EnvV W → Calls Tryz.prog 17 #[.agg #[.int .i64 k, .int .i64 n, .int .i64 sc, .string s]] W (Says true W))) (pk pn pc px : Int) (ps : ByteArray) (HC : Hid (∀ W, Calls Tryz.prog 18 #[.agg #[.int .i64 k, .int .i64 n, .int .i64 sc, .string s]] W (CastA (⟨pk, pn, pc, ps⟩, px) W))) : Calls Tryz.prog 8 #[.agg #[.int .i64 k, .int .i64 n, .int .i64 sc, .string s], .agg #[.int .i64 1, .int .i64 0]] w (CastA (⟨pk, pn, pc, ps⟩, px) w) := by
  have HE := Lib.hid he
  clear he
  have C0 := Lib.hid (Cx.new w k n sc s 1 0 24 26)
  go_enter Tryz.func8, Tryz.ntmps8
  go_wp2_with fail
  refine (HT.out _).mono ?_
  rintro e w1 ⟨rfl, hb⟩
  have C1 := Lib.hid (C0.out.keep hb)
  clear hb C0 HT
  have d0 := C1.out.v.c0; have d1 := C1.out.v.c1; have d2 := C1.out.v.c2; have d3 := C1.out.v.c3; have f0 := C1.out.t.c0; have f1 := C1.out.t.c1
  go_wp2_with fail
  refine (HR.out _ (HE.out.keep C1.out.bel)).mono ?_
  rintro e w2 ⟨rfl, hb⟩
  have C2 := Lib.hid (C1.out.keep hb)
  clear hb C1 HR
  clear d0 d1 d2 d3 f0 f1
  have d0 := C2.out.v.c0; have d1 := C2.out.v.c1; have d2 := C2.out.v.c2; have d3 := C2.out.v.c3; have f0 := C2.out.t.c0; have f1 := C2.out.t.c1
  go_wp2_with fail
  refine (HC.out _).mono ?_
  rintro e w3 ⟨rfl, hb⟩
  have C3 := Lib.hid (C2.out.keep hb)
  clear hb C2 HC
  clear d0 d1 d2 d3 f0 f1
  dsimp only
  have r0 := C3.out.r.bx.c0; have r1 := C3.out.r.bx.c1; have r2 := C3.out.r.bx.c2; have r3 := C3.out.r.bx.c3; have rf := C3.out.r.fz; have rl := C3.out.r.bx.lt
  go_wp2
  refine bodyPost_ret (v := .tuple #[.agg #[.int .i64 pk, .int .i64 pn, .int .i64 pc, .string ps], .int .i64 px]) (by simp [results, Tryz.results8, go_sem, r0, r1, r2, r3]) rfl (CastA.mk rfl ?_)
  exact C3.out.fin _ _ _ _

set_option maxRecDepth 100000 in
set_option maxHeartbeats 4000000 in
theorem cc_text (k n sc : Int) (s : ByteArray) (w : World) (he : EnvV w) (q0 : (k == 0) = false) (HT : Hid (∀ W, Calls Tryz.prog 16 #[.agg #[.int .i64 4, .int .i64 0]] W (Says true W))) (HR : Hid (∀ W, EnvV W → Calls Tryz.prog 17 #[.agg #[.int .i64 k, .int .i64 n, .int .i64 sc, .string s]] W (Says true W))) (pk pn pc px : Int) (ps : ByteArray) (HC : Hid (∀ W, EnvV W → Calls Tryz.prog 19 #[.agg #[.int .i64 k, .int .i64 n, .int .i64 sc, .string s]] W (CastA (⟨pk, pn, pc, ps⟩, px) W))) : Calls Tryz.prog 8 #[.agg #[.int .i64 k, .int .i64 n, .int .i64 sc, .string s], .agg #[.int .i64 4, .int .i64 0]] w (CastA (⟨pk, pn, pc, ps⟩, px) w) := by
  have HE := Lib.hid he
  clear he
  have C0 := Lib.hid (Cx.new w k n sc s 4 0 24 26)
  go_enter Tryz.func8, Tryz.ntmps8
  go_wp2_with fail
  refine (HT.out _).mono ?_
  rintro e w1 ⟨rfl, hb⟩
  have C1 := Lib.hid (C0.out.keep hb)
  clear hb C0 HT
  have d0 := C1.out.v.c0; have d1 := C1.out.v.c1; have d2 := C1.out.v.c2; have d3 := C1.out.v.c3; have f0 := C1.out.t.c0; have f1 := C1.out.t.c1
  go_wp2_with fail
  refine (HR.out _ (HE.out.keep C1.out.bel)).mono ?_
  rintro e w2 ⟨rfl, hb⟩
  have C2 := Lib.hid (C1.out.keep hb)
  clear hb C1 HR
  clear d0 d1 d2 d3 f0 f1
  have d0 := C2.out.v.c0; have d1 := C2.out.v.c1; have d2 := C2.out.v.c2; have d3 := C2.out.v.c3; have f0 := C2.out.t.c0; have f1 := C2.out.t.c1
  go_wp2_with fail
  refine (HC.out _ (HE.out.keep C2.out.bel)).mono ?_
  rintro e w3 ⟨rfl, hb⟩
  have C3 := Lib.hid (C2.out.keep hb)
  clear hb C2 HC
  clear d0 d1 d2 d3 f0 f1
  dsimp only
  have r0 := C3.out.r.bx.c0; have r1 := C3.out.r.bx.c1; have r2 := C3.out.r.bx.c2; have r3 := C3.out.r.bx.c3; have rf := C3.out.r.fz; have rl := C3.out.r.bx.lt
  go_wp2
  refine bodyPost_ret (v := .tuple #[.agg #[.int .i64 pk, .int .i64 pn, .int .i64 pc, .string ps], .int .i64 px]) (by simp [results, Tryz.results8, go_sem, r0, r1, r2, r3]) rfl (CastA.mk rfl ?_)
  exact C3.out.fin _ _ _ _

set_option maxRecDepth 100000 in
set_option maxHeartbeats 4000000 in
theorem cc_bytes (k n sc : Int) (s : ByteArray) (w : World) (he : EnvV w) (q0 : (k == 0) = false) (HT : Hid (∀ W, Calls Tryz.prog 16 #[.agg #[.int .i64 5, .int .i64 0]] W (Says true W))) (HR : Hid (∀ W, EnvV W → Calls Tryz.prog 17 #[.agg #[.int .i64 k, .int .i64 n, .int .i64 sc, .string s]] W (Says true W))) (pk pn pc px : Int) (ps : ByteArray) (HC : Hid (∀ W, Calls Tryz.prog 20 #[.agg #[.int .i64 k, .int .i64 n, .int .i64 sc, .string s]] W (CastA (⟨pk, pn, pc, ps⟩, px) W))) : Calls Tryz.prog 8 #[.agg #[.int .i64 k, .int .i64 n, .int .i64 sc, .string s], .agg #[.int .i64 5, .int .i64 0]] w (CastA (⟨pk, pn, pc, ps⟩, px) w) := by
  have HE := Lib.hid he
  clear he
  have C0 := Lib.hid (Cx.new w k n sc s 5 0 24 26)
  go_enter Tryz.func8, Tryz.ntmps8
  go_wp2_with fail
  refine (HT.out _).mono ?_
  rintro e w1 ⟨rfl, hb⟩
  have C1 := Lib.hid (C0.out.keep hb)
  clear hb C0 HT
  have d0 := C1.out.v.c0; have d1 := C1.out.v.c1; have d2 := C1.out.v.c2; have d3 := C1.out.v.c3; have f0 := C1.out.t.c0; have f1 := C1.out.t.c1
  go_wp2_with fail
  refine (HR.out _ (HE.out.keep C1.out.bel)).mono ?_
  rintro e w2 ⟨rfl, hb⟩
  have C2 := Lib.hid (C1.out.keep hb)
  clear hb C1 HR
  clear d0 d1 d2 d3 f0 f1
  have d0 := C2.out.v.c0; have d1 := C2.out.v.c1; have d2 := C2.out.v.c2; have d3 := C2.out.v.c3; have f0 := C2.out.t.c0; have f1 := C2.out.t.c1
  go_wp2_with fail
  refine (HC.out _).mono ?_
  rintro e w3 ⟨rfl, hb⟩
  have C3 := Lib.hid (C2.out.keep hb)
  clear hb C2 HC
  clear d0 d1 d2 d3 f0 f1
  dsimp only
  have r0 := C3.out.r.bx.c0; have r1 := C3.out.r.bx.c1; have r2 := C3.out.r.bx.c2; have r3 := C3.out.r.bx.c3; have rf := C3.out.r.fz; have rl := C3.out.r.bx.lt
  go_wp2
  refine bodyPost_ret (v := .tuple #[.agg #[.int .i64 pk, .int .i64 pn, .int .i64 pc, .string ps], .int .i64 px]) (by simp [results, Tryz.results8, go_sem, r0, r1, r2, r3]) rfl (CastA.mk rfl ?_)
  exact C3.out.fin _ _ _ _

set_option maxRecDepth 100000 in
set_option maxHeartbeats 4000000 in
theorem cc_num (k n sc : Int) (s : ByteArray) (tk ts : Int) (w : World) (he : EnvV w) (q0 : (k == 0) = false) (q1 : (tk == 1) = false) (q4 : (tk == 4) = false) (q5 : (tk == 5) = false) (HT : Hid (∀ W, Calls Tryz.prog 16 #[.agg #[.int .i64 tk, .int .i64 ts]] W (Says true W))) (HR : Hid (∀ W, EnvV W → Calls Tryz.prog 17 #[.agg #[.int .i64 k, .int .i64 n, .int .i64 sc, .string s]] W (Says true W))) (pk pn pc px : Int) (ps : ByteArray) (HC : Hid (∀ W, EnvV W → Calls Tryz.prog 21 #[.agg #[.int .i64 k, .int .i64 n, .int .i64 sc, .string s], .agg #[.int .i64 tk, .int .i64 ts]] W (CastA (⟨pk, pn, pc, ps⟩, px) W))) : Calls Tryz.prog 8 #[.agg #[.int .i64 k, .int .i64 n, .int .i64 sc, .string s], .agg #[.int .i64 tk, .int .i64 ts]] w (CastA (⟨pk, pn, pc, ps⟩, px) w) := by
  have HE := Lib.hid he
  clear he
  have C0 := Lib.hid (Cx.new w k n sc s tk ts 24 26)
  go_enter Tryz.func8, Tryz.ntmps8
  go_wp2_with fail
  refine (HT.out _).mono ?_
  rintro e w1 ⟨rfl, hb⟩
  have C1 := Lib.hid (C0.out.keep hb)
  clear hb C0 HT
  have d0 := C1.out.v.c0; have d1 := C1.out.v.c1; have d2 := C1.out.v.c2; have d3 := C1.out.v.c3; have f0 := C1.out.t.c0; have f1 := C1.out.t.c1
  go_wp2_with fail
  refine (HR.out _ (HE.out.keep C1.out.bel)).mono ?_
  rintro e w2 ⟨rfl, hb⟩
  have C2 := Lib.hid (C1.out.keep hb)
  clear hb C1 HR
  clear d0 d1 d2 d3 f0 f1
  have d0 := C2.out.v.c0; have d1 := C2.out.v.c1; have d2 := C2.out.v.c2; have d3 := C2.out.v.c3; have f0 := C2.out.t.c0; have f1 := C2.out.t.c1
  go_wp2_with fail
  refine (HC.out _ (HE.out.keep C2.out.bel)).mono ?_
  rintro e w3 ⟨rfl, hb⟩
  have C3 := Lib.hid (C2.out.keep hb)
  clear hb C2 HC
  clear d0 d1 d2 d3 f0 f1
  dsimp only
  have r0 := C3.out.r.bx.c0; have r1 := C3.out.r.bx.c1; have r2 := C3.out.r.bx.c2; have r3 := C3.out.r.bx.c3; have rf := C3.out.r.fz; have rl := C3.out.r.bx.lt
  go_wp2
  refine bodyPost_ret (v := .tuple #[.agg #[.int .i64 pk, .int .i64 pn, .int .i64 pc, .string ps], .int .i64 px]) (by simp [results, Tryz.results8, go_sem, r0, r1, r2, r3]) rfl (CastA.mk rfl ?_)
  exact C3.out.fin _ _ _ _

theorem castR_five (u : ByteArray) (k s : Int) (h : k ≠ 4) : Vm.castR ⟨5, 0, 0, u⟩ k s = (Vm.nil, 40) := by
  unfold Vm.castR
  rw [if_neg (by simp), if_neg (by simp), if_neg (by simp), if_neg (fun e => h e.1)]
theorem castR_numb (a n u k s : Int) (x : ByteArray) (ha : a = 2 ∨ a = 3) (hk : k = 2 ∨ k = 3) : Vm.castR ⟨a, n, u, x⟩ k s = Vm.scaled n u k s := by
  unfold Vm.castR
  rw [if_neg (show a ≠ 1 by omega), if_pos ha, if_neg (by rintro ⟨h, _⟩; omega), if_pos hk]
theorem num_math (c : Vm.Cl) (k s : Int) (hn : i64 c.n) (hr : Vm.rightB c = true) (h0 : c.k ≠ 0) (ht : Vm.typeB k s = true) (hk : k = 2 ∧ s = 0 ∨ k = 3 ∧ scB s = true) :
    Vm.cast c k s = if (numM c k).2.2 = true then Vm.scaled (numM c k).1 (numM c k).2.1 k s else (Vm.nil, 40) := by
  have hk' : k = 2 ∨ k = 3 := by omega
  have hp := Vm.plain_of hr
  have hc : Vm.cast c k s = if c.k = k ∧ c.sc = s then (c, 0) else Vm.castR c k s := by
    unfold Vm.cast; rw [hp, ht, if_pos rfl]
    by_cases h : c.k = k ∧ c.sc = s
    · rw [if_pos h, if_pos (.inr h)]
    · rw [if_neg h, if_neg (fun e => e.elim h0 h)]
  rw [hc]
  clear hc hp
  rcases Vm.right_cases hr with rfl | ⟨n, hb, rfl⟩ | ⟨n, rfl⟩ | ⟨n, u, hu, rfl⟩ | ⟨u, hl, hv, rfl⟩ | ⟨u, hl, rfl⟩
  · exact absurd rfl h0
  · rw [if_neg (by simp; omega)]
    have e : numM ⟨1, n, 0, ⟨#[]⟩⟩ k = (n, 0, decide (k = 2)) := by unfold numM; rw [if_pos rfl]
    rw [e]
    dsimp only
    rcases hk with ⟨rfl, rfl⟩ | ⟨rfl, hs⟩
    · rw [if_pos (by decide), Vm.scaled_self n 0 2 Vm.sc0 hn]
      unfold Vm.castR; rw [if_pos rfl, if_pos rfl]
    · rw [if_neg (by decide)]
      unfold Vm.castR; rw [if_pos rfl, if_neg (by simp), if_neg (by simp)]
  · have e : numM ⟨2, n, 0, ⟨#[]⟩⟩ k = (n, 0, true) := by unfold numM; rw [if_neg (by simp), if_pos (.inl rfl)]
    rw [e, if_pos rfl]
    by_cases h : (2 : Int) = k ∧ (0 : Int) = s
    · rw [if_pos h]
      obtain ⟨rfl, rfl⟩ := h
      exact (Vm.scaled_self n 0 2 Vm.sc0 hn).symm
    · rw [if_neg h]
      exact castR_numb 2 n 0 k s _ (.inl rfl) hk'
  · have e : numM ⟨3, n, u, ⟨#[]⟩⟩ k = (n, u, true) := by unfold numM; rw [if_neg (by simp), if_pos (.inr rfl)]
    rw [e, if_pos rfl]
    by_cases h : (3 : Int) = k ∧ u = s
    · rw [if_pos h]
      obtain ⟨rfl, rfl⟩ := h
      exact (Vm.scaled_self n u 3 hu hn).symm
    · rw [if_neg h]
      exact castR_numb 3 n u k s _ (.inr rfl) hk'
  · rw [if_neg (by simp; omega)]
    have e : numM ⟨4, 0, 0, u⟩ k = Pm.parseM u.data.toList := by unfold numM; rw [if_neg (by simp), if_neg (by simp), if_pos rfl]
    rw [e, Vm.castR_text, if_neg (by omega), if_pos hk']
  · rw [if_neg (by simp; omega)]
    have e : numM ⟨5, 0, 0, u⟩ k = (0, 0, false) := by unfold numM; rw [if_neg (by simp), if_neg (by simp), if_neg (by simp)]
    rw [e, if_neg (by simp), castR_five u k s (by omega)]

theorem cast_cast (c : Vm.Cl) (k s : Int) (w : World) (he : EnvV w) (hn : i64 c.n) (hz : c.s.size ≤ maxLen) :
    Calls Tryz.prog 8 #[.agg #[.int .i64 c.k, .int .i64 c.n, .int .i64 c.sc, .string c.s], .agg #[.int .i64 k, .int .i64 s]] w (CastA (Vm.cast c k s) w) := by
  have HT := Lib.hid (val_rtype k s)
  have HR : Hid (∀ W, EnvV W → Calls Tryz.prog 17 #[.agg #[.int .i64 c.k, .int .i64 c.n, .int .i64 c.sc, .string c.s]] W (Says (Vm.rightB c) W)) := fun W h => val_right c.k c.n c.sc c.s W h hz
  cases ht : Vm.typeB k s
  · have e : Vm.cast c k s = (Vm.nil, 2) := by unfold Vm.cast; rw [ht]; rfl
    rw [e]
    rw [ht] at HT
    exact cc_type c.k c.n c.sc c.s k s w he HT
  rw [ht] at HT
  by_cases h0 : c.k = 0
  · have hp : Vm.plain c = Vm.nil := by
      cases hr : Vm.rightB c
      · unfold Vm.plain; rw [hr]; rfl
      · rw [Vm.plain_of hr]
        rcases Vm.right_cases hr with rfl | ⟨n, hb, rfl⟩ | ⟨n, rfl⟩ | ⟨n, u, hu, rfl⟩ | ⟨u, hl, hv, rfl⟩ | ⟨u, hl, rfl⟩
        · rfl
        all_goals simp at h0
    have e : Vm.cast c k s = (Vm.nil, 0) := by unfold Vm.cast; rw [ht, if_pos rfl, hp, if_pos (.inl rfl)]
    rw [e]
    obtain ⟨ck, cn, cc, cs⟩ := c
    dsimp only at h0
    subst h0
    exact cc_null cn cc cs k s w he HT
  cases hr : Vm.rightB c
  · have hp : Vm.plain c = Vm.nil := by unfold Vm.plain; rw [hr]; rfl
    have e : Vm.cast c k s = (Vm.nil, 0) := by unfold Vm.cast; rw [ht, if_pos rfl, hp, if_pos (.inl rfl)]
    rw [e]
    rw [hr] at HR
    exact cc_wrong c.k c.n c.sc c.s k s w he (neq_f _ _ h0) HT HR
  rw [hr] at HR
  have hq := neq_f _ _ h0
  rcases Vm.typeB_cases ht with ⟨rfl, rfl⟩ | ⟨rfl, rfl⟩ | ⟨rfl, hs⟩ | ⟨rfl, rfl⟩ | ⟨rfl, rfl⟩
  · have HC : Hid (∀ W, Calls Tryz.prog 18 #[.agg #[.int .i64 c.k, .int .i64 c.n, .int .i64 c.sc, .string c.s]] W (CastA (Vm.cast c 1 0) W)) := fun W => cast_tobool c W hr h0
    revert HC
    generalize Vm.cast c 1 0 = p
    obtain ⟨⟨pk, pn, pc, ps⟩, px⟩ := p
    intro HC
    exact cc_bool c.k c.n c.sc c.s w he hq HT HR pk pn pc px ps HC
  · have HC : Hid (∀ W, EnvV W → Calls Tryz.prog 21 #[.agg #[.int .i64 c.k, .int .i64 c.n, .int .i64 c.sc, .string c.s], .agg #[.int .i64 2, .int .i64 0]] W (CastA (Vm.cast c 2 0) W)) := by
      intro W h; rw [num_math c 2 0 hn hr h0 ht (.inl ⟨rfl, rfl⟩)]; exact cast_tonum c 2 0 W h hr h0 hn
    revert HC
    generalize Vm.cast c 2 0 = p
    obtain ⟨⟨pk, pn, pc, ps⟩, px⟩ := p
    intro HC
    exact cc_num c.k c.n c.sc c.s 2 0 w he hq rfl rfl rfl HT HR pk pn pc px ps HC
  · have HC : Hid (∀ W, EnvV W → Calls Tryz.prog 21 #[.agg #[.int .i64 c.k, .int .i64 c.n, .int .i64 c.sc, .string c.s], .agg #[.int .i64 3, .int .i64 s]] W (CastA (Vm.cast c 3 s) W)) := by
      intro W h; rw [num_math c 3 s hn hr h0 ht (.inr ⟨rfl, hs⟩)]; exact cast_tonum c 3 s W h hr h0 hn
    revert HC
    generalize Vm.cast c 3 s = p
    obtain ⟨⟨pk, pn, pc, ps⟩, px⟩ := p
    intro HC
    exact cc_num c.k c.n c.sc c.s 3 s w he hq rfl rfl rfl HT HR pk pn pc px ps HC
  · have HC : Hid (∀ W, EnvV W → Calls Tryz.prog 19 #[.agg #[.int .i64 c.k, .int .i64 c.n, .int .i64 c.sc, .string c.s]] W (CastA (Vm.cast c 4 0) W)) := fun W h => cast_totext c W h hr h0 hn
    revert HC
    generalize Vm.cast c 4 0 = p
    obtain ⟨⟨pk, pn, pc, ps⟩, px⟩ := p
    intro HC
    exact cc_text c.k c.n c.sc c.s w he hq HT HR pk pn pc px ps HC
  · have HC : Hid (∀ W, Calls Tryz.prog 20 #[.agg #[.int .i64 c.k, .int .i64 c.n, .int .i64 c.sc, .string c.s]] W (CastA (Vm.cast c 5 0) W)) := fun W => cast_tobytes c W hr h0
    revert HC
    generalize Vm.cast c 5 0 = p
    obtain ⟨⟨pk, pn, pc, ps⟩, px⟩ := p
    intro HC
    exact cc_bytes c.k c.n c.sc c.s w he hq HT HR pk pn pc px ps HC
end Go.Proofs.YtfnnhhhkdfgefaaGreatDoor
