/- The laws of layer 3 walked, over the bundle of contracts: ValueCompares. -/
import Derived.Test.YtpbmjknhfgdnnaaGreatDoorValWa
import Derived.Deep.RegionHeld3
namespace Go.Proofs.YtpbmjknhfgdnnaaGreatDoor
open Go.RowKit

/-- two values in blocks of their own, as a conjunction -/
abbrev TwoC (w : World) (ak an ac : Int) (as' : ByteArray) (bk bn bc : Int) (bs : ByteArray) (w' : World) : Prop :=
  w'.cell? ⟨w.heap.size, 0, none⟩ = some (.int .i64 ak) ∧ w'.cell? ⟨w.heap.size, 1, none⟩ = some (.int .i64 an) ∧ w'.cell? ⟨w.heap.size, 2, none⟩ = some (.int .i64 ac) ∧ w'.cell? ⟨w.heap.size, 3, none⟩ = some (.string as') ∧
  w'.cell? ⟨w.heap.size + 1, 0, none⟩ = some (.int .i64 bk) ∧ w'.cell? ⟨w.heap.size + 1, 1, none⟩ = some (.int .i64 bn) ∧ w'.cell? ⟨w.heap.size + 1, 2, none⟩ = some (.int .i64 bc) ∧ w'.cell? ⟨w.heap.size + 1, 3, none⟩ = some (.string bs) ∧
  Hid (EnvV w' ∧ Below w.heap.size w w' ∧ w.heap.size + 1 < w'.heap.size)
theorem TwoC.env {w w0 : World} {ak an ac : Int} {as' : ByteArray} {bk bn bc : Int} {bs : ByteArray} (h : TwoC w ak an ac as' bk bn bc bs w0) : EnvV w0 := h.2.2.2.2.2.2.2.2.1
theorem TwoC.bel {w w0 : World} {ak an ac : Int} {as' : ByteArray} {bk bn bc : Int} {bs : ByteArray} (h : TwoC w ak an ac as' bk bn bc bs w0) : Below w.heap.size w w0 := h.2.2.2.2.2.2.2.2.2.1
theorem TwoC.keep {w w0 w1 : World} {ak an ac : Int} {as' : ByteArray} {bk bn bc : Int} {bs : ByteArray} (h : TwoC w ak an ac as' bk bn bc bs w0) (hb : Below w0.heap.size w0 w1) : TwoC w ak an ac as' bk bn bc bs w1 := by
  obtain ⟨h0, h1, h2, h3, g0, g1, g2, g3, ⟨he, hl, hs⟩⟩ := h
  have lt0 : w.heap.size < w0.heap.size := by omega
  exact ⟨(hb.cell (p := ⟨w.heap.size, 0, none⟩) lt0).trans h0, (hb.cell (p := ⟨w.heap.size, 1, none⟩) lt0).trans h1, (hb.cell (p := ⟨w.heap.size, 2, none⟩) lt0).trans h2, (hb.cell (p := ⟨w.heap.size, 3, none⟩) lt0).trans h3,
    (hb.cell (p := ⟨w.heap.size + 1, 0, none⟩) hs).trans g0, (hb.cell (p := ⟨w.heap.size + 1, 1, none⟩) hs).trans g1, (hb.cell (p := ⟨w.heap.size + 1, 2, none⟩) hs).trans g2, (hb.cell (p := ⟨w.heap.size + 1, 3, none⟩) hs).trans g3,
    ⟨he.keep hb, hl.trans (hb.mono hl.size), by have := hb.size; omega⟩⟩
theorem TwoC.start (w : World) (he : EnvV w) (ak an ac : Int) (as' : ByteArray) (bk bn bc : Int) (bs : ByteArray) (t : TypeId) :
    TwoC w ak an ac as' bk bn bc bs ((w.alloc (.cells #[.int .i64 ak, .int .i64 an, .int .i64 ac, .string as'] t)).alloc (.cells #[.int .i64 bk, .int .i64 bn, .int .i64 bc, .string bs] t)) := by
  have a := (Bx.new w ak an ac as' t).alloc (.cells #[.int .i64 bk, .int .i64 bn, .int .i64 bc, .string bs] t)
  have b := Bx.new (w.alloc (.cells #[.int .i64 ak, .int .i64 an, .int .i64 ac, .string as'] t)) bk bn bc bs t
  rw [show (w.alloc (.cells #[.int .i64 ak, .int .i64 an, .int .i64 ac, .string as'] t)).heap.size = w.heap.size + 1 by simp] at b
  exact ⟨a.c0, a.c1, a.c2, a.c3, b.c0, b.c1, b.c2, b.c3, ⟨he.keep (two w _ _), two w _ _, by simp⟩⟩
theorem below_drew1 (w : World) : Below w.heap.size w w.drew := ⟨rfl, rfl, rfl, Nat.le_refl _, fun _ _ => rfl⟩

set_option maxRecDepth 100000 in
set_option maxHeartbeats 4000000 in
theorem cmps_small (V : ValCon) (ak an ac : Int) (as' : ByteArray) (bk bn bc : Int) (bs : ByteArray) (w : World) (he : EnvV w) (ha : ValOk ⟨ak, an, ac, as'⟩) (hb : ValOk ⟨bk, bn, bc, bs⟩) (M : Int) (hm : M ≤ 1000)
    (hmx : ∀ W : World, (Builtin.max_ #[3, 3] 3 #[.int .i64 (as'.size : Int), .int .i64 (bs.size : Int)]).run Tryz.prog W = .ok (.int .i64 M) W) (hif : (if (bs.size : Int) > (as'.size : Int) then (bs.size : Int) else (as'.size : Int)) = M) :
    Calls Tryz.prog 4 #[.agg #[.int .i64 ak, .int .i64 an, .int .i64 ac, .string as'], .agg #[.int .i64 bk, .int .i64 bn, .int .i64 bc, .string bs]] w (Says true w) := by
  have za := ha.s; have zb := hb.s
  have ia := Lib.hid ha.i; have ib := Lib.hid hb.i
  dsimp only at za zb ia ib
  have ZA := Lib.hid za; have ZB := Lib.hid zb
  have T0 := Lib.hid (TwoC.start w he ak an ac as' bk bn bc bs 24)
  have OV := Lib.hid (V.order ⟨ak, an, ac, as'⟩ ⟨bk, bn, bc, bs⟩ · · ia.out ib.out ZA.out ZB.out)
  have OR := Lib.hid (ref3_order ⟨ak, an, ac, as'⟩ ⟨bk, bn, bc, bs⟩ · ia.out ib.out ZA.out ZB.out)
  have CV := Lib.hid (V.compare ⟨ak, an, ac, as'⟩ ⟨bk, bn, bc, bs⟩ · · ia.out ib.out ZA.out ZB.out)
  have CR := Lib.hid (ref3_compare ⟨ak, an, ac, as'⟩ ⟨bk, bn, bc, bs⟩ · ia.out ib.out ZA.out ZB.out)
  unfold maxLen at za zb
  clear he ha hb
  revert OV OR CV CR
  generalize Vm.order (Vm.plain ⟨ak, an, ac, as'⟩) (Vm.plain ⟨bk, bn, bc, bs⟩) = x
  generalize Vm.comp (Vm.plain ⟨ak, an, ac, as'⟩) (Vm.plain ⟨bk, bn, bc, bs⟩) = y
  obtain ⟨y1, y2⟩ := y
  intro OV OR CV CR
  have q1 : (y1 == y1) = true := by simp
  have q2 : (y2 == y2) = true := by simp
  have q3 : (x == x) = true := by simp
  go_enter Tryz.func4, Tryz.ntmps4
  go_wp2_with fail
  refine (first3_true V _ T0.out.env).mono ?_
  rintro e w1 ⟨rfl, hb⟩
  have T1 := Lib.hid (T0.out.keep hb)
  obtain ⟨a0, a1, a2, a3, b0, b1, b2, b3, _⟩ := T1.out
  clear hb T0
  go_wp2_with fail
  refine (CV.out _ T1.out.env).mono ?_
  rintro e w2 ⟨rfl, hb⟩
  have T2 := Lib.hid (T1.out.keep hb)
  clear hb T1 CV a0 a1 a2 a3 b0 b1 b2 b3
  obtain ⟨a0, a1, a2, a3, b0, b1, b2, b3, _⟩ := T2.out
  dsimp only
  go_wp2_with fail
  refine (CR.out _).mono ?_
  rintro e w3 ⟨rfl, hb⟩
  have T3 := Lib.hid (T2.out.keep hb)
  clear hb T2 CR a0 a1 a2 a3 b0 b1 b2 b3
  dsimp only
  go_upto_region 7 with (fail)
  have S0 := Lib.hid (T3.out.keep (below_drew1 w3))
  go_region_held3 (fun w' => w'.cell? ⟨w.heap.size, 0, none⟩ = some (.int .i64 ak) ∧ w'.cell? ⟨w.heap.size, 1, none⟩ = some (.int .i64 an) ∧ w'.cell? ⟨w.heap.size, 2, none⟩ = some (.int .i64 ac) ∧ w'.cell? ⟨w.heap.size, 3, none⟩ = some (.string as') ∧
    w'.cell? ⟨w.heap.size + 1, 0, none⟩ = some (.int .i64 bk) ∧ w'.cell? ⟨w.heap.size + 1, 1, none⟩ = some (.int .i64 bn) ∧ w'.cell? ⟨w.heap.size + 1, 2, none⟩ = some (.int .i64 bc) ∧ w'.cell? ⟨w.heap.size + 1, 3, none⟩ = some (.string bs) ∧
    Hid (EnvV w' ∧ Below w.heap.size w w' ∧ w.heap.size + 1 < w'.heap.size)) (first | exact S0.out | exact TwoC.keep (by assumption) hb) (first
    | (go_at_call 20; refine (OV.out _ (TwoC.env (by assumption))).mono ?_; rintro e w4 ⟨rfl, hb⟩)
    | (go_at_call 21; refine (OR.out _).mono ?_; rintro e w5 ⟨rfl, hb⟩))
  all_goals
    go_wp2
    go_ret
    refine Says.mk (by first | rfl | simp) ?_
    exact TwoC.bel (by assumption)

theorem max2 (x y M : Int) (h : (if y > x then y else x) = M) (W : World) : (Builtin.max_ #[3, 3] 3 #[.int .i64 x, .int .i64 y]).run Tryz.prog W = .ok (.int .i64 M) W := by
  rw [← h]
  simp [Builtin.max_, Builtin.max2]
set_option maxRecDepth 100000 in
set_option maxHeartbeats 4000000 in
theorem cmps_big (V : ValCon) (ak an ac : Int) (as' : ByteArray) (bk bn bc : Int) (bs : ByteArray) (w : World) (he : EnvV w) (ha : ValOk ⟨ak, an, ac, as'⟩) (hb : ValOk ⟨bk, bn, bc, bs⟩) (M : Int) (hm : 1000 < M)
    (hmx : ∀ W : World, (Builtin.max_ #[3, 3] 3 #[.int .i64 (as'.size : Int), .int .i64 (bs.size : Int)]).run Tryz.prog W = .ok (.int .i64 M) W) (_hif : (if (bs.size : Int) > (as'.size : Int) then (bs.size : Int) else (as'.size : Int)) = M) :
    Calls Tryz.prog 4 #[.agg #[.int .i64 ak, .int .i64 an, .int .i64 ac, .string as'], .agg #[.int .i64 bk, .int .i64 bn, .int .i64 bc, .string bs]] w (Says true w) := by
  have za := ha.s; have zb := hb.s
  dsimp only at za zb
  have T0 := Lib.hid (TwoC.start w he ak an ac as' bk bn bc bs 24)
  unfold maxLen at za zb
  clear he ha hb
  go_enter Tryz.func4, Tryz.ntmps4
  go_wp2_with fail
  refine (first3_true V _ T0.out.env).mono ?_
  rintro e w1 ⟨rfl, hb⟩
  have T1 := Lib.hid (T0.out.keep hb)
  obtain ⟨a0, a1, a2, a3, b0, b1, b2, b3, _⟩ := T1.out
  clear hb T0
  go_wp2
  go_ret
  exact Says.mk (by first | rfl | simp) T1.out.bel

theorem walk_compares (V : ValCon) (a b : Vm.Cl) (w : World) (he : EnvV w) (ha : ValOk a) (hb : ValOk b) :
    Calls Tryz.prog 4 #[.agg #[.int .i64 a.k, .int .i64 a.n, .int .i64 a.sc, .string a.s], .agg #[.int .i64 b.k, .int .i64 b.n, .int .i64 b.sc, .string b.s]] w (Says true w) := by
  obtain ⟨ak, an, ac, as'⟩ := a
  obtain ⟨bk, bn, bc, bs⟩ := b
  obtain ⟨M, hM⟩ : ∃ M : Int, (if (bs.size : Int) > (as'.size : Int) then (bs.size : Int) else (as'.size : Int)) = M := ⟨_, rfl⟩
  by_cases hm : M ≤ 1000
  · exact cmps_small V _ _ _ _ _ _ _ _ w he ha hb M hm (max2 _ _ M hM) hM
  · exact cmps_big V _ _ _ _ _ _ _ _ w he ha hb M (by omega) (max2 _ _ M hM) hM
end Go.Proofs.YtpbmjknhfgdnnaaGreatDoor
/- The laws of layer 3 walked, over the bundle of contracts: ValueTexts. -/
namespace Go.Proofs.YtpbmjknhfgdnnaaGreatDoor
open Go.RowKit

theorem str_eq (l r : List UInt8) : ((⟨l.toArray⟩ : ByteArray).toList == (⟨r.toArray⟩ : ByteArray).toList) = decide (l = r) := by
  rw [Lib.toList_data, Lib.toList_data, Bool.eq_iff_iff]; simp

set_option maxRecDepth 100000 in
set_option maxHeartbeats 4000000 in
theorem texts_no (V : ValCon) (ak an ac : Int) (as' : ByteArray) (bk bn bc : Int) (bs : ByteArray) (w : World) (he : EnvV w) (ha : ValOk ⟨ak, an, ac, as'⟩) (hb : ValOk ⟨bk, bn, bc, bs⟩) (hr : Vm.rightB ⟨ak, an, ac, as'⟩ = false ∨ Vm.rightB ⟨bk, bn, bc, bs⟩ = false) :
    Calls Tryz.prog 9 #[.agg #[.int .i64 ak, .int .i64 an, .int .i64 ac, .string as'], .agg #[.int .i64 bk, .int .i64 bn, .int .i64 bc, .string bs]] w (Says true w) := by
  have ZA := Lib.hid ha.s; have ZB := Lib.hid hb.s
  dsimp only at ZA ZB
  have T0 := Lib.hid (TwoC.start w he ak an ac as' bk bn bc bs 24)
  have RA := Lib.hid (ref3_right ak an ac as' · ZA.out); have RB := Lib.hid (ref3_right bk bn bc bs · ZB.out)
  clear he ha hb
  revert RA RB hr
  generalize Vm.rightB ⟨ak, an, ac, as'⟩ = b1
  generalize Vm.rightB ⟨bk, bn, bc, bs⟩ = b2
  intro hr RA RB
  cases b1
  · go_enter Tryz.func9, Tryz.ntmps9
    go_wp2_with fail
    refine (first3_true V _ T0.out.env).mono ?_
    rintro e w1 ⟨rfl, hb⟩
    have T1 := Lib.hid (T0.out.keep hb)
    obtain ⟨a0, a1, a2, a3, b0, b1, b2, b3, _⟩ := T1.out
    clear hb T0
    go_wp2_with fail
    refine (RA.out _).mono ?_
    rintro e w2 ⟨rfl, hb⟩
    have T2 := Lib.hid (T1.out.keep hb)
    clear hb
    go_wp2
    go_ret
    exact Says.mk (by first | rfl | simp) T2.out.bel
  · obtain rfl : b2 = false := by rcases hr with h | h; cases h; exact h
    go_enter Tryz.func9, Tryz.ntmps9
    go_wp2_with fail
    refine (first3_true V _ T0.out.env).mono ?_
    rintro e w1 ⟨rfl, hb⟩
    have T1 := Lib.hid (T0.out.keep hb)
    obtain ⟨a0, a1, a2, a3, b0, b1, b2, b3, _⟩ := T1.out
    clear hb T0
    go_wp2_with fail
    refine (RA.out _).mono ?_
    rintro e w2 ⟨rfl, hb⟩
    have T2 := Lib.hid (T1.out.keep hb)
    clear hb a0 a1 a2 a3 b0 b1 b2 b3
    obtain ⟨a0, a1, a2, a3, b0, b1, b2, b3, _⟩ := T2.out
    go_wp2_with fail
    refine (RB.out _).mono ?_
    rintro e w3 ⟨rfl, hb⟩
    have T3 := Lib.hid (T2.out.keep hb)
    clear hb
    go_wp2
    go_ret
    exact Says.mk (by first | rfl | simp) T3.out.bel

set_option maxRecDepth 100000 in
set_option maxHeartbeats 4000000 in
theorem texts_yes (V : ValCon) (ak an ac : Int) (as' : ByteArray) (bk bn bc : Int) (bs : ByteArray) (w : World) (he : EnvV w) (ha : ValOk ⟨ak, an, ac, as'⟩) (hb : ValOk ⟨bk, bn, bc, bs⟩) (ra : Vm.rightB ⟨ak, an, ac, as'⟩ = true) (rb : Vm.rightB ⟨bk, bn, bc, bs⟩ = true) :
    Calls Tryz.prog 9 #[.agg #[.int .i64 ak, .int .i64 an, .int .i64 ac, .string as'], .agg #[.int .i64 bk, .int .i64 bn, .int .i64 bc, .string bs]] w (Says true w) := by
  have ZA := Lib.hid ha.s; have ZB := Lib.hid hb.s
  have ia := Lib.hid ha.i; have ib := Lib.hid hb.i
  dsimp only at ZA ZB ia ib
  have T0 := Lib.hid (TwoC.start w he ak an ac as' bk bn bc bs 24)
  have RA := Lib.hid (ref3_right ak an ac as' · ZA.out); have RB := Lib.hid (ref3_right bk bn bc bs · ZB.out)
  rw [ra] at RA
  rw [rb] at RB
  obtain ⟨G, hG⟩ : ∃ G : Int → Int → Int → ByteArray → ByteArray, ∀ k n c s, G k n c s = ⟨(Vm.print (Vm.plain ⟨k, n, c, s⟩)).toArray⟩ := ⟨fun k n c s => ⟨(Vm.print (Vm.plain ⟨k, n, c, s⟩)).toArray⟩, fun _ _ _ _ => rfl⟩
  have PG : Hid (∀ (k n c : Int) (s : ByteArray) (W : World), EnvV W → i64 n → s.size ≤ maxLen → Calls Tryz.prog 22 #[.agg #[.int .i64 k, .int .i64 n, .int .i64 c, .string s]] W fun e w' => e = .returned (.string (G k n c s)) ∧ Below W.heap.size W w') := by
    intro k n c s W h1 h2 h3
    rw [hG]
    exact V.print ⟨k, n, c, s⟩ W h1 h2 h3
  have hGa := hG ak an ac as'; have hGb := hG bk bn bc bs
  have OV := Lib.hid (V.order ⟨ak, an, ac, as'⟩ ⟨bk, bn, bc, bs⟩ · · ia.out ib.out ZA.out ZB.out)
  rw [plain_of ra] at hGa
  rw [plain_of rb] at hGb
  rw [plain_of ra, plain_of rb] at OV
  have f1 : (Vm.print ⟨ak, an, ac, as'⟩ = Vm.print ⟨bk, bn, bc, bs⟩) ↔ ((⟨ak, an, ac, as'⟩ : Vm.Cl) = ⟨bk, bn, bc, bs⟩) :=
    ⟨Vm.print_inj _ _ ia.out ib.out ra rb, fun h => by rw [h]⟩
  have f2 := Vm.order_zero _ _ ra rb
  have f6 : eqB ak an ac as' bk bn bc bs = decide ((⟨ak, an, ac, as'⟩ : Vm.Cl) = ⟨bk, bn, bc, bs⟩) := eqB_val ⟨ak, an, ac, as'⟩ ⟨bk, bn, bc, bs⟩
  have heq := val_eql ak an ac as' bk bn bc bs
  clear he ha hb ra rb
  clear hG
  revert hGa hGb OV f1 f2
  generalize Vm.print ⟨ak, an, ac, as'⟩ = l1
  generalize Vm.print ⟨bk, bn, bc, bs⟩ = l2
  generalize Vm.order ⟨ak, an, ac, as'⟩ ⟨bk, bn, bc, bs⟩ = x
  intro hGa hGb OV f1 f2
  obtain ⟨b, hb⟩ : ∃ b, eqB ak an ac as' bk bn bc bs = b := ⟨_, rfl⟩
  have qs : ((G ak an ac as').toList == (G bk bn bc bs).toList) = b := by rw [hGa, hGb, str_eq, ← hb, f6]; exact decide_eq_decide.2 f1
  have qx : (x == 0) = b := by rw [beq_dec, ← hb, f6]; exact decide_eq_decide.2 f2
  rw [hb] at heq
  have qb : (b == b) = true := by simp
  clear hGa hGb f1 f2 f6 hb
  go_enter Tryz.func9, Tryz.ntmps9
  go_wp2_with fail
  refine (first3_true V _ T0.out.env).mono ?_
  rintro e w1 ⟨rfl, hb⟩
  have T1 := Lib.hid (T0.out.keep hb)
  obtain ⟨a0, a1, a2, a3, b0, b1, b2, b3, _⟩ := T1.out
  clear hb T0
  go_wp2_with fail
  refine (RA.out _).mono ?_
  rintro e w2 ⟨rfl, hb⟩
  have T2 := Lib.hid (T1.out.keep hb)
  clear hb T1 a0 a1 a2 a3 b0 b1 b2 b3
  obtain ⟨a0, a1, a2, a3, b0, b1, b2, b3, _⟩ := T2.out
  go_wp2_with fail
  refine (RB.out _).mono ?_
  rintro e w3 ⟨rfl, hb⟩
  have T3 := Lib.hid (T2.out.keep hb)
  clear hb T2 a0 a1 a2 a3 b0 b1 b2 b3
  go_upto_region 5 with (fail)
  have S0 := Lib.hid (T3.out.keep (below_drew1 w3))
  go_region_held3 (fun w' => w'.cell? ⟨w.heap.size, 0, none⟩ = some (.int .i64 ak) ∧ w'.cell? ⟨w.heap.size, 1, none⟩ = some (.int .i64 an) ∧ w'.cell? ⟨w.heap.size, 2, none⟩ = some (.int .i64 ac) ∧ w'.cell? ⟨w.heap.size, 3, none⟩ = some (.string as') ∧
    w'.cell? ⟨w.heap.size + 1, 0, none⟩ = some (.int .i64 bk) ∧ w'.cell? ⟨w.heap.size + 1, 1, none⟩ = some (.int .i64 bn) ∧ w'.cell? ⟨w.heap.size + 1, 2, none⟩ = some (.int .i64 bc) ∧ w'.cell? ⟨w.heap.size + 1, 3, none⟩ = some (.string bs) ∧
    Hid (EnvV w' ∧ Below w.heap.size w w' ∧ w.heap.size + 1 < w'.heap.size)) (first | exact S0.out | exact TwoC.keep (by assumption) hb) (first
    | (go_at_call 22; refine (PG.out _ _ _ _ _ (TwoC.env (by assumption)) (by first | exact ia.out | exact ib.out) (by first | exact ZA.out | exact ZB.out)).mono ?_; rintro e w4 ⟨rfl, hb⟩)
    | (go_at_call 20; refine (OV.out _ (TwoC.env (by assumption))).mono ?_; rintro e w6 ⟨rfl, hb⟩))
  all_goals
    go_wp2
    go_ret
    refine Says.mk (by first | rfl | simp) ?_
    exact TwoC.bel (by assumption)

theorem walk_texts (V : ValCon) (a b : Vm.Cl) (w : World) (he : EnvV w) (ha : ValOk a) (hb : ValOk b) :
    Calls Tryz.prog 9 #[.agg #[.int .i64 a.k, .int .i64 a.n, .int .i64 a.sc, .string a.s], .agg #[.int .i64 b.k, .int .i64 b.n, .int .i64 b.sc, .string b.s]] w (Says true w) := by
  obtain ⟨ak, an, ac, as'⟩ := a
  obtain ⟨bk, bn, bc, bs⟩ := b
  cases ra : Vm.rightB ⟨ak, an, ac, as'⟩
  · exact texts_no V _ _ _ _ _ _ _ _ w he ha hb (.inl ra)
  · cases rb : Vm.rightB ⟨bk, bn, bc, bs⟩
    · exact texts_no V _ _ _ _ _ _ _ _ w he ha hb (.inr rb)
    · exact texts_yes V _ _ _ _ _ _ _ _ w he ha hb ra rb
end Go.Proofs.YtpbmjknhfgdnnaaGreatDoor
/- The laws of layer 3 walked, over the bundle of contracts: ValuePrints. -/
namespace Go.Proofs.YtpbmjknhfgdnnaaGreatDoor
open Go.RowKit

theorem hex_len (l : List UInt8) : (Vm.hex l).length = 2 * l.length := by
  induction l with
  | nil => rfl
  | cons c r ih => rw [Vm.hex]; simp; omega
theorem vprint_len (c : Vm.Cl) (hi : i64 c.n) (hr : Vm.rightB c = true) : (Vm.print c).length ≤ 1000 := by
  rcases Vm.right_cases hr with rfl | ⟨n, hn1, rfl⟩ | ⟨n, rfl⟩ | ⟨n, s, hs, rfl⟩ | ⟨s, hs, hv, rfl⟩ | ⟨s, hs, rfl⟩
  · decide
  · rcases hn1 with rfl | rfl <;> decide
  · have := prt_len n 0 hi
    show (printM n 0).length ≤ 1000
    omega
  · have := prt_len n s hi
    show (if s = 0 then printM n s ++ [46] else printM n s).length ≤ 1000
    split
    · simp; omega
    · omega
  · have := esc_len s.data.toList
    have h2 : s.data.toList.length = s.size := by simp
    show (39 :: (Vm.esc s.data.toList ++ [39])).length ≤ 1000
    simp only [List.length_cons, List.length_append, List.length_nil]
    omega
  · have := hex_len s.data.toList
    have h2 : s.data.toList.length = s.size := by simp
    show (88 :: 39 :: (Vm.hex s.data.toList ++ [39])).length ≤ 1000
    simp only [List.length_cons, List.length_append, List.length_nil]
    omega

/-- a value in a block of its own, and another one in block g, as a conjunction -/
abbrev PxC (w : World) (g : Nat) (ak an ac : Int) (as' : ByteArray) (pk pn pc : Int) (ps : ByteArray) (w' : World) : Prop :=
  w'.cell? ⟨w.heap.size, 0, none⟩ = some (.int .i64 ak) ∧ w'.cell? ⟨w.heap.size, 1, none⟩ = some (.int .i64 an) ∧ w'.cell? ⟨w.heap.size, 2, none⟩ = some (.int .i64 ac) ∧ w'.cell? ⟨w.heap.size, 3, none⟩ = some (.string as') ∧
  w'.cell? ⟨g, 0, none⟩ = some (.int .i64 pk) ∧ w'.cell? ⟨g, 1, none⟩ = some (.int .i64 pn) ∧ w'.cell? ⟨g, 2, none⟩ = some (.int .i64 pc) ∧ w'.cell? ⟨g, 3, none⟩ = some (.string ps) ∧
  Hid (Below w.heap.size w w' ∧ w.heap.size < w'.heap.size ∧ g < w'.heap.size)
theorem PxC.bel {w w0 : World} {g : Nat} {ak an ac : Int} {as' : ByteArray} {pk pn pc : Int} {ps : ByteArray} (h : PxC w g ak an ac as' pk pn pc ps w0) : Below w.heap.size w w0 := h.2.2.2.2.2.2.2.2.1
theorem PxC.keep {w w0 w1 : World} {g : Nat} {ak an ac : Int} {as' : ByteArray} {pk pn pc : Int} {ps : ByteArray} (h : PxC w g ak an ac as' pk pn pc ps w0) (hb : Below w0.heap.size w0 w1) : PxC w g ak an ac as' pk pn pc ps w1 := by
  obtain ⟨h0, h1, h2, h3, g0, g1, g2, g3, ⟨hl, hs, hg⟩⟩ := h
  exact ⟨(hb.cell (p := ⟨w.heap.size, 0, none⟩) hs).trans h0, (hb.cell (p := ⟨w.heap.size, 1, none⟩) hs).trans h1, (hb.cell (p := ⟨w.heap.size, 2, none⟩) hs).trans h2, (hb.cell (p := ⟨w.heap.size, 3, none⟩) hs).trans h3,
    (hb.cell (p := ⟨g, 0, none⟩) hg).trans g0, (hb.cell (p := ⟨g, 1, none⟩) hg).trans g1, (hb.cell (p := ⟨g, 2, none⟩) hg).trans g2, (hb.cell (p := ⟨g, 3, none⟩) hg).trans g3,
    ⟨hl.trans (hb.mono hl.size), by have := hb.size; omega, by have := hb.size; omega⟩⟩

set_option maxRecDepth 100000 in
set_option maxHeartbeats 4000000 in
theorem walk_prints (V : ValCon) (v : Vm.Cl) (w : World) (he : EnvV w) (hv : ValOk v) :
    Calls Tryz.prog 6 #[.agg #[.int .i64 v.k, .int .i64 v.n, .int .i64 v.sc, .string v.s]] w (Says true w) := by
  have hz := hv.s
  have PV := Lib.hid (V.print v · · hv.i hv.s); have PR := Lib.hid (ref3_print v · hv.i hv.s)
  have PP := Lib.hid (ref3_plain v.k v.n v.sc v.s · hv.s)
  have hpl := vprint_len (Vm.plain v) (Vm.plain_i64 hv.i) (Vm.plain_right v)
  have hpp := Vm.parse_print (Vm.plain v) (Vm.plain_i64 hv.i) (Vm.plain_right v)
  revert PV PR PP hpl hpp
  show Hid (∀ W, EnvV W → Calls _ _ _ W (Str (Vm.print (Vm.plain v)) W)) → Hid (∀ W, Calls _ _ _ W (Str (Vm.print (Vm.plain v)) W)) → Hid (∀ W, Calls _ _ _ W (Val (Vm.plain v) W)) → _
  generalize Vm.plain v = p
  obtain ⟨pk, pn, pc, ps⟩ := p
  generalize Vm.print ⟨pk, pn, pc, ps⟩ = l
  obtain ⟨ak, an, ac, as'⟩ := v
  intro PV PR PP hpl hpp
  dsimp only at hz PV PR PP ⊢
  obtain ⟨S, hS⟩ : ∃ S : ByteArray, S = ⟨l.toArray⟩ := ⟨_, rfl⟩
  have PV2 : Hid (∀ W, EnvV W → Calls Tryz.prog 22 #[.agg #[.int .i64 ak, .int .i64 an, .int .i64 ac, .string as']] W fun e w' => e = .returned (.string S) ∧ Below W.heap.size W w') := by rw [hS]; exact PV
  have PR2 : Hid (∀ W, Calls Tryz.prog 24 #[.agg #[.int .i64 ak, .int .i64 an, .int .i64 ac, .string as']] W fun e w' => e = .returned (.string S) ∧ Below W.heap.size W w') := by rw [hS]; exact PR
  have hSs : S.size ≤ 1000 := by rw [hS]; show (bstr l).size ≤ 1000; rw [bstr_size]; exact hpl
  have VP : Hid (∀ W, EnvV W → Calls Tryz.prog 23 #[.string S] W (ValB (⟨pk, pn, pc, ps⟩, true) W)) := by
    intro W h
    have := V.parse S W h hSs
    rw [show S.data.toList = l by rw [hS], hpp] at this
    exact this
  have heq := val_eql pk pn pc ps pk pn pc ps
  rw [eqB_self] at heq
  have qS : (S.toList == S.toList) = true := by simp
  have V0 := Lib.hid (Bx.new w ak an ac as' 24)
  have HB0 := Lib.hid ((Below.refl w.heap.size w).alloc (Nat.le_refl _) (.cells #[.int .i64 ak, .int .i64 an, .int .i64 ac, .string as'] 24))
  have HE0 := Lib.hid (he.keep HB0.out)
  unfold maxLen at hz
  clear he hv PV PR hS hpl hpp
  by_cases hl : 1000 < as'.size
  · have hl2 : (1000 : Int) < (as'.size : Int) := by omega
    go_enter Tryz.func6, Tryz.ntmps6
    go_wp2_with fail
    refine (first3_true V _ HE0.out).mono ?_
    rintro e w1 ⟨rfl, hb⟩
    have HB1 := Lib.hid (HB0.out.trans (hb.mono (by simp)))
    have V1 := Lib.hid (V0.out.keep hb)
    have d3 := V1.out.c3
    clear hb HE0
    go_wp2
    go_ret
    exact Says.mk rfl HB1.out
  · have hl2 : (as'.size : Int) ≤ 1000 := by omega
    go_enter Tryz.func6, Tryz.ntmps6
    go_wp2_with fail
    refine (first3_true V _ HE0.out).mono ?_
    rintro e w1 ⟨rfl, hb⟩
    have HB1 := Lib.hid (HB0.out.trans (hb.mono (by simp)))
    have V1 := Lib.hid (V0.out.keep hb); have HE1 := Lib.hid (HE0.out.keep hb)
    have d0 := V1.out.c0; have d1 := V1.out.c1; have d2 := V1.out.c2; have d3 := V1.out.c3
    clear hb HE0 V0 HB0
    go_wp2_with fail
    refine (PV2.out _ HE1.out).mono ?_
    rintro e w2 ⟨rfl, hb⟩
    have HB2 := Lib.hid (HB1.out.trans (hb.mono HB1.out.size))
    have V2 := Lib.hid (V1.out.keep hb); have HE2 := Lib.hid (HE1.out.keep hb)
    clear hb HE1 V1 HB1 d0 d1 d2 d3 PV2
    go_wp2_with fail
    refine (VP.out _ HE2.out).mono ?_
    rintro e w3 ⟨rfl, hb⟩
    have hb3 := hb.alloc hb.size (.cells #[.int .i64 pk, .int .i64 pn, .int .i64 pc, .string ps] 24)
    have HB3 := Lib.hid (HB2.out.trans (hb3.mono HB2.out.size))
    have V3 := Lib.hid (V2.out.keep hb3)
    have X3 := Lib.hid (Bx.new w3 pk pn pc ps 24)
    clear hb hb3 HE2 V2 HB2 VP
    dsimp only
    go_upto_region 7 with (fail)
    have P3 : PxC w w3.heap.size ak an ac as' pk pn pc ps (w3.alloc (.cells #[.int .i64 pk, .int .i64 pn, .int .i64 pc, .string ps] 24)) :=
      ⟨V3.out.c0, V3.out.c1, V3.out.c2, V3.out.c3, X3.out.c0, X3.out.c1, X3.out.c2, X3.out.c3, ⟨HB3.out, V3.out.lt, X3.out.lt⟩⟩
    have S0 := Lib.hid (P3.keep (below_drew1 _))
    clear P3
    go_region_held3 (fun w' => w'.cell? ⟨w.heap.size, 0, none⟩ = some (.int .i64 ak) ∧ w'.cell? ⟨w.heap.size, 1, none⟩ = some (.int .i64 an) ∧ w'.cell? ⟨w.heap.size, 2, none⟩ = some (.int .i64 ac) ∧ w'.cell? ⟨w.heap.size, 3, none⟩ = some (.string as') ∧
      w'.cell? ⟨w3.heap.size, 0, none⟩ = some (.int .i64 pk) ∧ w'.cell? ⟨w3.heap.size, 1, none⟩ = some (.int .i64 pn) ∧ w'.cell? ⟨w3.heap.size, 2, none⟩ = some (.int .i64 pc) ∧ w'.cell? ⟨w3.heap.size, 3, none⟩ = some (.string ps) ∧
      Hid (Below w.heap.size w w' ∧ w.heap.size < w'.heap.size ∧ w3.heap.size < w'.heap.size)) (first | exact S0.out | exact PxC.keep (by assumption) hb) (first
      | (go_at_call 24; refine (PR2.out _).mono ?_; rintro e w4 ⟨rfl, hb⟩)
      | (go_at_call 25; refine (PP.out _).mono ?_; rintro e w5 ⟨rfl, hb⟩))
    all_goals
      go_wp2
      go_ret
      refine Says.mk (by first | rfl | simp) ?_
      exact PxC.bel (by assumption)
end Go.Proofs.YtpbmjknhfgdnnaaGreatDoor
