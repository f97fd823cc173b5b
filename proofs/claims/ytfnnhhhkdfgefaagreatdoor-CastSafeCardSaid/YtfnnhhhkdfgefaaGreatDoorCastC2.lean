/- Package cast: toText, toBytes, isNumber, number, toNumber. -/
import Derived.Test.YtfnnhhhkdfgefaaGreatDoorCastC1
import Derived.Test.YtfnnhhhkdfgefaaGreatDoorCastRef2
import Derived.Test.YtfnnhhhkdfgefaaGreatDoorDecAm
import Derived.BigRegion
namespace Go.Proofs.YtfnnhhhkdfgefaaGreatDoor
open Go.RowKit

set_option maxRecDepth 100000 in
set_option maxHeartbeats 4000000 in
theorem tt_no (s : ByteArray) (w : World) (he : EnvV w) (HU : Hid (∀ W, EnvV W → Calls Tryz.prog 34 #[.string s] W fun e w' => e = .returned (.bool false) ∧ Below W.heap.size W w')) : Calls Tryz.prog 19 #[.agg #[.int .i64 5, .int .i64 0, .int .i64 0, .string s]] w (CastA (Vm.nil, 40) w) := by
  have HE := Lib.hid he
  clear he
  have D0 := Lib.hid (Dx.new w 5 0 0 s 24)
  go_enter Tryz.func19, Tryz.ntmps19
  go_wp2_with fail
  refine (HU.out _ (HE.out.keep D0.out.bel)).mono ?_
  rintro e w1 ⟨rfl, hb⟩
  have D1 := Lib.hid (D0.out.keep hb)
  clear hb D0 HU
  have d0 := D1.out.v.c0; have d1 := D1.out.v.c1; have d2 := D1.out.v.c2; have d3 := D1.out.v.c3
  have r0 := D1.out.r.bx.c0; have r1 := D1.out.r.bx.c1; have r2 := D1.out.r.bx.c2; have r3 := D1.out.r.bx.c3; have rf := D1.out.r.fz; have rl := D1.out.r.bx.lt
  go_wp2
  refine bodyPost_ret (v := .tuple #[.agg #[.int .i64 0, .int .i64 0, .int .i64 0, .string ⟨#[]⟩], .int .i64 40]) (by simp [results, Tryz.results19, go_sem, r0, r1, r2, r3]) rfl (CastA.mk rfl ?_)
  exact D1.out.fin _ _ _ _

set_option maxRecDepth 100000 in
set_option maxHeartbeats 4000000 in
theorem tt_yes (s : ByteArray) (w : World) (he : EnvV w) (HU : Hid (∀ W, EnvV W → Calls Tryz.prog 34 #[.string s] W fun e w' => e = .returned (.bool true) ∧ Below W.heap.size W w')) (T : ByteArray) (HC : Hid (∀ W, EnvV W → Calls Tryz.prog 35 #[.agg #[.int .i64 5, .int .i64 0, .int .i64 0, .string s]] W (StrS T W))) : Calls Tryz.prog 19 #[.agg #[.int .i64 5, .int .i64 0, .int .i64 0, .string s]] w (CastA (⟨4, 0, 0, T⟩, 0) w) := by
  have HE := Lib.hid he
  clear he
  have D0 := Lib.hid (Dx.new w 5 0 0 s 24)
  go_enter Tryz.func19, Tryz.ntmps19
  go_wp2_with fail
  refine (HU.out _ (HE.out.keep D0.out.bel)).mono ?_
  rintro e w1 ⟨rfl, hb⟩
  have D1 := Lib.hid (D0.out.keep hb)
  clear hb D0 HU
  have d0 := D1.out.v.c0; have d1 := D1.out.v.c1; have d2 := D1.out.v.c2; have d3 := D1.out.v.c3
  go_wp2_with fail
  refine (HC.out _ (HE.out.keep D1.out.bel)).mono ?_
  rintro e w2 ⟨rfl, hb⟩
  have D2 := Lib.hid (D1.out.keep hb)
  clear hb D1 HC d0 d1 d2 d3
  have r0 := D2.out.r.bx.c0; have r1 := D2.out.r.bx.c1; have r2 := D2.out.r.bx.c2; have r3 := D2.out.r.bx.c3; have rf := D2.out.r.fz; have rl := D2.out.r.bx.lt
  go_wp2
  refine bodyPost_ret (v := .tuple #[.agg #[.int .i64 4, .int .i64 0, .int .i64 0, .string T], .int .i64 0]) (by simp [results, Tryz.results19, go_sem, r0, r1, r2, r3]) rfl (CastA.mk rfl ?_)
  exact D2.out.fin _ _ _ _

set_option maxRecDepth 100000 in
set_option maxHeartbeats 4000000 in
theorem tt_any (k n sc : Int) (s : ByteArray) (w : World) (he : EnvV w) (q : (k == 5) = false) (T : ByteArray) (HC : Hid (∀ W, EnvV W → Calls Tryz.prog 35 #[.agg #[.int .i64 k, .int .i64 n, .int .i64 sc, .string s]] W (StrS T W))) : Calls Tryz.prog 19 #[.agg #[.int .i64 k, .int .i64 n, .int .i64 sc, .string s]] w (CastA (⟨4, 0, 0, T⟩, 0) w) := by
  have HE := Lib.hid he
  clear he
  have D0 := Lib.hid (Dx.new w k n sc s 24)
  go_enter Tryz.func19, Tryz.ntmps19
  go_wp2_with fail
  refine (HC.out _ (HE.out.keep D0.out.bel)).mono ?_
  rintro e w1 ⟨rfl, hb⟩
  have D1 := Lib.hid (D0.out.keep hb)
  clear hb D0 HC
  have r0 := D1.out.r.bx.c0; have r1 := D1.out.r.bx.c1; have r2 := D1.out.r.bx.c2; have r3 := D1.out.r.bx.c3; have rf := D1.out.r.fz; have rl := D1.out.r.bx.lt
  go_wp2
  refine bodyPost_ret (v := .tuple #[.agg #[.int .i64 4, .int .i64 0, .int .i64 0, .string T], .int .i64 0]) (by simp [results, Tryz.results19, go_sem, r0, r1, r2, r3]) rfl (CastA.mk rfl ?_)
  exact D1.out.fin _ _ _ _

theorem cast_totext (c : Vm.Cl) (w : World) (he : EnvV w) (hr : Vm.rightB c = true) (h0 : c.k ≠ 0) (hn : i64 c.n) : Calls Tryz.prog 19 #[.agg #[.int .i64 c.k, .int .i64 c.n, .int .i64 c.sc, .string c.s]] w (CastA (Vm.cast c 4 0) w) := by
  have hp := Vm.plain_of hr
  have hc : Vm.cast c 4 0 = if c.k = 4 ∧ c.sc = 0 then (c, 0) else Vm.castR c 4 0 := by
    unfold Vm.cast; rw [hp, show Vm.typeB 4 0 = true by decide, if_pos rfl]
    by_cases h : c.k = 4 ∧ c.sc = 0
    · rw [if_pos h, if_pos (.inr h)]
    · rw [if_neg h, if_neg (fun e => e.elim h0 h)]
  rw [hc]
  clear hc hp
  have HC := fun W h => cast_chars c W h hr h0 hn
  rcases Vm.right_cases hr with rfl | ⟨n, hb, rfl⟩ | ⟨n, rfl⟩ | ⟨n, u, hu, rfl⟩ | ⟨u, hl, hv, rfl⟩ | ⟨u, hl, rfl⟩
  · exact absurd rfl h0
  · rw [if_neg (by simp)]
    exact tt_any 1 n 0 ⟨#[]⟩ w he rfl _ HC
  · rw [if_neg (by simp)]
    exact tt_any 2 n 0 ⟨#[]⟩ w he rfl _ HC
  · rw [if_neg (by simp)]
    exact tt_any 3 n u ⟨#[]⟩ w he rfl _ HC
  · rw [if_pos ⟨rfl, rfl⟩]
    exact tt_any 4 0 0 u w he rfl _ HC
  · rw [if_neg (by simp)]
    have HU := fun (W : World) (h : EnvV W) => Tryz.utf8_ValidString u W (by omega) h.tabs
    have e2 : Vm.castR ⟨5, 0, 0, u⟩ 4 0 = if Lib.validD u.data.toList = true then (⟨4, 0, 0, u⟩, 0) else (Vm.nil, 40) := by
      unfold Vm.castR Vm.rightB
      rw [if_neg (by simp), if_neg (by simp), if_neg (by simp)]
      simp [show u.size ≤ 200 from hl]
    rw [e2]
    cases hv : Lib.validD u.data.toList
    · rw [if_neg (by simp)]
      rw [hv] at HU
      exact tt_no u w he HU
    · rw [if_pos rfl]
      rw [hv] at HU
      exact tt_yes u w he HU _ HC

set_option maxRecDepth 100000 in
set_option maxHeartbeats 4000000 in
theorem ty_no (k n sc : Int) (s : ByteArray) (w : World) (q4 : (k != 4) = true) (q5 : (k != 5) = true) : Calls Tryz.prog 20 #[.agg #[.int .i64 k, .int .i64 n, .int .i64 sc, .string s]] w (CastA (Vm.nil, 40) w) := by
  go_enter Tryz.func20, Tryz.ntmps20
  go_wp2
  refine bodyPost_ret (v := .tuple #[.agg #[.int .i64 0, .int .i64 0, .int .i64 0, .string ⟨#[]⟩], .int .i64 40]) (by simp [results, Tryz.results20, go_sem]) rfl (CastA.mk rfl ?_)
  exact two w _ _

set_option maxRecDepth 100000 in
set_option maxHeartbeats 4000000 in
theorem ty_t (k n sc : Int) (s : ByteArray) (w : World) (q4 : (k != 4) = false) : Calls Tryz.prog 20 #[.agg #[.int .i64 k, .int .i64 n, .int .i64 sc, .string s]] w (CastA (⟨5, 0, 0, s⟩, 0) w) := by
  go_enter Tryz.func20, Tryz.ntmps20
  go_wp2
  refine bodyPost_ret (v := .tuple #[.agg #[.int .i64 5, .int .i64 0, .int .i64 0, .string s], .int .i64 0]) (by simp [results, Tryz.results20, go_sem]) rfl (CastA.mk rfl ?_)
  exact two w _ _

set_option maxRecDepth 100000 in
set_option maxHeartbeats 4000000 in
theorem ty_b (k n sc : Int) (s : ByteArray) (w : World) (q4 : (k != 4) = true) (q5 : (k != 5) = false) : Calls Tryz.prog 20 #[.agg #[.int .i64 k, .int .i64 n, .int .i64 sc, .string s]] w (CastA (⟨5, 0, 0, s⟩, 0) w) := by
  go_enter Tryz.func20, Tryz.ntmps20
  go_wp2
  refine bodyPost_ret (v := .tuple #[.agg #[.int .i64 5, .int .i64 0, .int .i64 0, .string s], .int .i64 0]) (by simp [results, Tryz.results20, go_sem]) rfl (CastA.mk rfl ?_)
  exact two w _ _

theorem cast_tobytes (c : Vm.Cl) (w : World) (hr : Vm.rightB c = true) (h0 : c.k ≠ 0) : Calls Tryz.prog 20 #[.agg #[.int .i64 c.k, .int .i64 c.n, .int .i64 c.sc, .string c.s]] w (CastA (Vm.cast c 5 0) w) := by
  have hp := Vm.plain_of hr
  have hc : Vm.cast c 5 0 = if c.k = 5 ∧ c.sc = 0 then (c, 0) else Vm.castR c 5 0 := by
    unfold Vm.cast; rw [hp, show Vm.typeB 5 0 = true by decide, if_pos rfl]
    by_cases h : c.k = 5 ∧ c.sc = 0
    · rw [if_pos h, if_pos (.inr h)]
    · rw [if_neg h, if_neg (fun e => e.elim h0 h)]
  rw [hc]
  clear hc hp
  rcases Vm.right_cases hr with rfl | ⟨n, hb, rfl⟩ | ⟨n, rfl⟩ | ⟨n, u, hu, rfl⟩ | ⟨u, hl, hv, rfl⟩ | ⟨u, hl, rfl⟩
  · exact absurd rfl h0
  · rw [if_neg (by simp)]
    exact ty_no 1 n 0 ⟨#[]⟩ w rfl rfl
  · rw [if_neg (by simp)]
    exact ty_no 2 n 0 ⟨#[]⟩ w rfl rfl
  · rw [if_neg (by simp)]
    exact ty_no 3 n u ⟨#[]⟩ w rfl rfl
  · rw [if_neg (by simp)]
    exact ty_t 4 0 0 u w rfl
  · rw [if_pos ⟨rfl, rfl⟩]
    exact ty_b 5 0 0 u w rfl rfl

theorem cast_isnum (k s : Int) (w : World) : Calls Tryz.prog 28 #[.agg #[.int .i64 k, .int .i64 s]] w (Says (Vm.isNum k) w) := by
  have hi : Vm.isNum k = ((k == 2) || (k == 3)) := by unfold Vm.isNum; rw [beq_dec, beq_dec]
  rw [hi]
  clear hi
  have T0 := Lib.hid (Tx.new w k s 26)
  cases h2 : k == 2
  · cases h3 : k == 3
    all_goals
      go_enter Tryz.func28, Tryz.ntmps28
      go_wp2
      go_ret
      exact Says.mk rfl (one_a w _)
  · go_enter Tryz.func28, Tryz.ntmps28
    go_wp2
    go_ret
    exact Says.mk rfl (one_a w _)

/-- the number of a value that is to be of a Kind -/
def numM (c : Vm.Cl) (tk : Int) : Int × Int × Bool :=
  if c.k = 1 then (c.n, 0, decide (tk = 2)) else if c.k = 2 ∨ c.k = 3 then (c.n, c.sc, true) else if c.k = 4 then Pm.parseM c.s.data.toList else (0, 0, false)
/-- a value and a type in blocks of their own -/
structure Vt (w : World) (ck cn cc : Int) (cs : ByteArray) (k s : Int) (w' : World) : Prop where
  v : Bx w.heap.size ck cn cc cs w'
  t : Tx (w.heap.size + 1) k s w'
  bel : Below w.heap.size w w'
theorem Vt.new (w : World) (ck cn cc : Int) (cs : ByteArray) (k s : Int) (u x : TypeId) : Vt w ck cn cc cs k s ((w.alloc (.cells #[.int .i64 ck, .int .i64 cn, .int .i64 cc, .string cs] u)).alloc (.cells #[.int .i64 k, .int .i64 s] x)) := by
  have h := Tx.new (w.alloc (.cells #[.int .i64 ck, .int .i64 cn, .int .i64 cc, .string cs] u)) k s x
  rw [show (w.alloc (.cells #[.int .i64 ck, .int .i64 cn, .int .i64 cc, .string cs] u)).heap.size = w.heap.size + 1 by simp] at h
  exact ⟨(Bx.new w ck cn cc cs u).alloc _, h, two w _ _⟩
theorem Vt.keep {w w1 w2 : World} {ck cn cc : Int} {cs : ByteArray} {k s : Int} (h : Vt w ck cn cc cs k s w1) (hb : Below w1.heap.size w1 w2) : Vt w ck cn cc cs k s w2 :=
  ⟨h.v.keep hb, h.t.keep hb, h.bel.trans (hb.mono h.bel.size)⟩

set_option maxRecDepth 100000 in
set_option maxHeartbeats 4000000 in
theorem nb_1 (n : Int) (tk ts : Int) (w : World) (b : Bool) (q : (tk == 2) = b) : Calls Tryz.prog 36 #[.agg #[.int .i64 1, .int .i64 n, .int .i64 0, .string ⟨#[]⟩], .agg #[.int .i64 tk, .int .i64 ts]] w (Par (n, 0, b) w) := by
  have D0 := Lib.hid (Vt.new w 1 n 0 ⟨#[]⟩ tk ts 24 26)
  go_enter Tryz.func36, Tryz.ntmps36
  have d0 := D0.out.v.c0; have d1 := D0.out.v.c1; have d2 := D0.out.v.c2; have d3 := D0.out.v.c3; have f0 := D0.out.t.c0
  go_wp2_with fail
  go_region
  all_goals
    go_wp2
    go_ret3
    exact ⟨rfl, D0.out.bel.trans ⟨rfl, rfl, rfl, Nat.le_refl _, fun _ _ => rfl⟩⟩

set_option maxRecDepth 100000 in
set_option maxHeartbeats 4000000 in
theorem nb_2 (n : Int) (tk ts : Int) (w : World) : Calls Tryz.prog 36 #[.agg #[.int .i64 2, .int .i64 n, .int .i64 0, .string ⟨#[]⟩], .agg #[.int .i64 tk, .int .i64 ts]] w (Par (n, 0, true) w) := by
  have D0 := Lib.hid (Vt.new w 2 n 0 ⟨#[]⟩ tk ts 24 26)
  go_enter Tryz.func36, Tryz.ntmps36
  have d0 := D0.out.v.c0; have d1 := D0.out.v.c1; have d2 := D0.out.v.c2; have d3 := D0.out.v.c3; have f0 := D0.out.t.c0
  go_wp2_with fail
  go_region
  all_goals
    go_wp2
    go_ret3
    exact ⟨rfl, D0.out.bel.trans ⟨rfl, rfl, rfl, Nat.le_refl _, fun _ _ => rfl⟩⟩

set_option maxRecDepth 100000 in
set_option maxHeartbeats 4000000 in
theorem nb_3 (n sc : Int) (tk ts : Int) (w : World) : Calls Tryz.prog 36 #[.agg #[.int .i64 3, .int .i64 n, .int .i64 sc, .string ⟨#[]⟩], .agg #[.int .i64 tk, .int .i64 ts]] w (Par (n, sc, true) w) := by
  have D0 := Lib.hid (Vt.new w 3 n sc ⟨#[]⟩ tk ts 24 26)
  go_enter Tryz.func36, Tryz.ntmps36
  have d0 := D0.out.v.c0; have d1 := D0.out.v.c1; have d2 := D0.out.v.c2; have d3 := D0.out.v.c3; have f0 := D0.out.t.c0
  go_wp2_with fail
  go_region
  all_goals
    go_wp2
    go_ret3
    exact ⟨rfl, D0.out.bel.trans ⟨rfl, rfl, rfl, Nat.le_refl _, fun _ _ => rfl⟩⟩

set_option maxRecDepth 100000 in
set_option maxHeartbeats 4000000 in
theorem nb_4 (s : ByteArray) (tk ts : Int) (w : World) (he : EnvV w) (p : Int × Int × Bool) (HP : Hid (∀ W, Env W → Calls Tryz.prog 49 #[.string s] W (Par p W))) : Calls Tryz.prog 36 #[.agg #[.int .i64 4, .int .i64 0, .int .i64 0, .string s], .agg #[.int .i64 tk, .int .i64 ts]] w (Par p w) := by
  have HE := Lib.hid he
  clear he
  have D0 := Lib.hid (Vt.new w 4 0 0 s tk ts 24 26)
  go_enter Tryz.func36, Tryz.ntmps36
  obtain ⟨m, j, b⟩ := p
  go_wp2_with fail
  refine (HP.out _ (HE.out.keep D0.out.bel).env).mono ?_
  rintro e w1 ⟨rfl, hb⟩
  have D1 := Lib.hid (D0.out.keep hb)
  clear hb D0 HP
  dsimp only
  go_wp2
  go_ret3
  exact ⟨rfl, D1.out.bel⟩

set_option maxRecDepth 100000 in
set_option maxHeartbeats 4000000 in
theorem nb_5 (s : ByteArray) (tk ts : Int) (w : World) : Calls Tryz.prog 36 #[.agg #[.int .i64 5, .int .i64 0, .int .i64 0, .string s], .agg #[.int .i64 tk, .int .i64 ts]] w (Par (0, 0, false) w) := by
  have D0 := Lib.hid (Vt.new w 5 0 0 s tk ts 24 26)
  go_enter Tryz.func36, Tryz.ntmps36
  go_wp2
  go_ret3
  exact ⟨rfl, D0.out.bel⟩

theorem cast_number (c : Vm.Cl) (tk ts : Int) (w : World) (he : EnvV w) (hr : Vm.rightB c = true) (h0 : c.k ≠ 0) : Calls Tryz.prog 36 #[.agg #[.int .i64 c.k, .int .i64 c.n, .int .i64 c.sc, .string c.s], .agg #[.int .i64 tk, .int .i64 ts]] w (Par (numM c tk) w) := by
  rcases Vm.right_cases hr with rfl | ⟨n, hb, rfl⟩ | ⟨n, rfl⟩ | ⟨n, u, hu, rfl⟩ | ⟨u, hl, hv, rfl⟩ | ⟨u, hl, rfl⟩
  · exact absurd rfl h0
  · exact nb_1 n tk ts w _ (beq_dec _ _)
  · exact nb_2 n tk ts w
  · exact nb_3 n u tk ts w
  · exact nb_4 u tk ts w he _ (fun W h => dec_parse u W h (by omega))
  · exact nb_5 u tk ts w

set_option maxRecDepth 100000 in
set_option maxHeartbeats 4000000 in
theorem tn_no (k n sc : Int) (s : ByteArray) (tk ts : Int) (w : World) (he : EnvV w) (m j : Int) (HN : Hid (∀ W, EnvV W → Calls Tryz.prog 36 #[.agg #[.int .i64 k, .int .i64 n, .int .i64 sc, .string s], .agg #[.int .i64 tk, .int .i64 ts]] W (Par (m, j, false) W))) : Calls Tryz.prog 21 #[.agg #[.int .i64 k, .int .i64 n, .int .i64 sc, .string s], .agg #[.int .i64 tk, .int .i64 ts]] w (CastA (Vm.nil, 40) w) := by
  have HE := Lib.hid he
  clear he
  have C0 := Lib.hid (Cx.new w k n sc s tk ts 24 26)
  go_enter Tryz.func21, Tryz.ntmps21
  go_wp2_with fail
  refine (HN.out _ (HE.out.keep C0.out.bel)).mono ?_
  rintro e w1 ⟨rfl, hb⟩
  have C1 := Lib.hid (C0.out.keep hb)
  clear hb C0 HN
  dsimp only
  have r0 := C1.out.r.bx.c0; have r1 := C1.out.r.bx.c1; have r2 := C1.out.r.bx.c2; have r3 := C1.out.r.bx.c3; have rf := C1.out.r.fz; have rl := C1.out.r.bx.lt
  go_wp2
  refine bodyPost_ret (v := .tuple #[.agg #[.int .i64 0, .int .i64 0, .int .i64 0, .string ⟨#[]⟩], .int .i64 40]) (by simp [results, Tryz.results21, go_sem, r0, r1, r2, r3]) rfl (CastA.mk rfl ?_)
  exact C1.out.fin _ _ _ _

set_option maxRecDepth 100000 in
set_option maxHeartbeats 4000000 in
theorem tn_err (k n sc : Int) (s : ByteArray) (tk ts : Int) (w : World) (he : EnvV w) (m j : Int) (HN : Hid (∀ W, EnvV W → Calls Tryz.prog 36 #[.agg #[.int .i64 k, .int .i64 n, .int .i64 sc, .string s], .agg #[.int .i64 tk, .int .i64 ts]] W (Par (m, j, true) W))) (rm rx : Int) (HR : Hid (∀ W, Calls Tryz.prog 37 #[.int .i64 m, .int .i64 j, .int .i64 ts] W (Ans (rm, rx) W))) (q : (rx != 0) = true) : Calls Tryz.prog 21 #[.agg #[.int .i64 k, .int .i64 n, .int .i64 sc, .string s], .agg #[.int .i64 tk, .int .i64 ts]] w (CastA (Vm.nil, rx) w) := by
  have HE := Lib.hid he
  clear he
  have C0 := Lib.hid (Cx.new w k n sc s tk ts 24 26)
  go_enter Tryz.func21, Tryz.ntmps21
  go_wp2_with fail
  refine (HN.out _ (HE.out.keep C0.out.bel)).mono ?_
  rintro e w1 ⟨rfl, hb⟩
  have C1 := Lib.hid (C0.out.keep hb)
  clear hb C0 HN
  dsimp only
  have f0 := C1.out.t.c0; have f1 := C1.out.t.c1
  go_wp2_with fail
  refine (HR.out _).mono ?_
  rintro e w2 ⟨rfl, hb⟩
  have C2 := Lib.hid (C1.out.keep hb)
  clear hb C1 HR f0 f1
  have f0 := C2.out.t.c0; have f1 := C2.out.t.c1
  dsimp only
  have r0 := C2.out.r.bx.c0; have r1 := C2.out.r.bx.c1; have r2 := C2.out.r.bx.c2; have r3 := C2.out.r.bx.c3; have rf := C2.out.r.fz; have rl := C2.out.r.bx.lt
  go_wp2
  refine bodyPost_ret (v := .tuple #[.agg #[.int .i64 0, .int .i64 0, .int .i64 0, .string ⟨#[]⟩], .int .i64 rx]) (by simp [results, Tryz.results21, go_sem, r0, r1, r2, r3]) rfl (CastA.mk rfl ?_)
  exact C2.out.fin _ _ _ _

set_option maxRecDepth 100000 in
set_option maxHeartbeats 4000000 in
theorem tn_ok (k n sc : Int) (s : ByteArray) (tk ts : Int) (w : World) (he : EnvV w) (m j : Int) (HN : Hid (∀ W, EnvV W → Calls Tryz.prog 36 #[.agg #[.int .i64 k, .int .i64 n, .int .i64 sc, .string s], .agg #[.int .i64 tk, .int .i64 ts]] W (Par (m, j, true) W))) (rm : Int) (HR : Hid (∀ W, Calls Tryz.prog 37 #[.int .i64 m, .int .i64 j, .int .i64 ts] W (Ans (rm, 0) W))) : Calls Tryz.prog 21 #[.agg #[.int .i64 k, .int .i64 n, .int .i64 sc, .string s], .agg #[.int .i64 tk, .int .i64 ts]] w (CastA (⟨tk, rm, ts, ⟨#[]⟩⟩, 0) w) := by
  have HE := Lib.hid he
  clear he
  have C0 := Lib.hid (Cx.new w k n sc s tk ts 24 26)
  go_enter Tryz.func21, Tryz.ntmps21
  go_wp2_with fail
  refine (HN.out _ (HE.out.keep C0.out.bel)).mono ?_
  rintro e w1 ⟨rfl, hb⟩
  have C1 := Lib.hid (C0.out.keep hb)
  clear hb C0 HN
  dsimp only
  have f0 := C1.out.t.c0; have f1 := C1.out.t.c1
  go_wp2_with fail
  refine (HR.out _).mono ?_
  rintro e w2 ⟨rfl, hb⟩
  have C2 := Lib.hid (C1.out.keep hb)
  clear hb C1 HR f0 f1
  have f0 := C2.out.t.c0; have f1 := C2.out.t.c1
  dsimp only
  have r0 := C2.out.r.bx.c0; have r1 := C2.out.r.bx.c1; have r2 := C2.out.r.bx.c2; have r3 := C2.out.r.bx.c3; have rf := C2.out.r.fz; have rl := C2.out.r.bx.lt
  go_wp2
  refine bodyPost_ret (v := .tuple #[.agg #[.int .i64 tk, .int .i64 rm, .int .i64 ts, .string ⟨#[]⟩], .int .i64 0]) (by simp [results, Tryz.results21, go_sem, r0, r1, r2, r3]) rfl (CastA.mk rfl ?_)
  exact C2.out.fin _ _ _ _

theorem num_i64 (c : Vm.Cl) (tk : Int) (hn : i64 c.n) (h : (numM c tk).2.2 = true) : i64 (numM c tk).1 := by
  unfold numM at h ⊢
  split
  · exact hn
  split
  · exact hn
  split
  · rename_i h1 h2 h3
    rw [if_neg h1, if_neg h2, if_pos h3] at h
    refine Vm.parse_i64 c.s.data.toList _ (Pm.parseM c.s.data.toList).2.1 ?_
    rw [← h]
  · exact Vm.i64_0
theorem cast_tonum (c : Vm.Cl) (tk ts : Int) (w : World) (he : EnvV w) (hr : Vm.rightB c = true) (h0 : c.k ≠ 0) (hn : i64 c.n) :
    Calls Tryz.prog 21 #[.agg #[.int .i64 c.k, .int .i64 c.n, .int .i64 c.sc, .string c.s], .agg #[.int .i64 tk, .int .i64 ts]] w (CastA (if (numM c tk).2.2 = true then Vm.scaled (numM c tk).1 (numM c tk).2.1 tk ts else (Vm.nil, 40)) w) := by
  have HN : Hid (∀ W, EnvV W → Calls Tryz.prog 36 #[.agg #[.int .i64 c.k, .int .i64 c.n, .int .i64 c.sc, .string c.s], .agg #[.int .i64 tk, .int .i64 ts]] W (Par (numM c tk) W)) := fun W h => cast_number c tk ts W h hr h0
  have hi := num_i64 c tk hn
  revert HN hi
  generalize numM c tk = p
  obtain ⟨m, j, b⟩ := p
  intro HN hi
  cases b
  · rw [if_neg (by simp)]
    exact tn_no c.k c.n c.sc c.s tk ts w he m j HN
  · rw [if_pos rfl]
    have HR : Hid (∀ W, Calls Tryz.prog 37 #[.int .i64 m, .int .i64 j, .int .i64 ts] W (Ans (rescM m j ts) W)) := by
      intro W; rw [← resc_eq]; exact dec_rescale m j ts W (hi rfl)
    unfold Vm.scaled
    dsimp only
    revert HR
    generalize rescM m j ts = r
    obtain ⟨rm, rx⟩ := r
    intro HR
    dsimp only
    by_cases hx : rx = 0
    · subst hx
      rw [if_pos rfl]
      exact tn_ok c.k c.n c.sc c.s tk ts w he m j HN rm HR
    · rw [if_neg hx]
      exact tn_err c.k c.n c.sc c.s tk ts w he m j HN rm rx HR (by simpa using hx)
end Go.Proofs.YtfnnhhhkdfgefaaGreatDoor
