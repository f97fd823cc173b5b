/- The laws of layer 3 walked, over the bundle of contracts: ValueTypes. -/
import Derived.Test.YtpbmjknhfgdnnaaGreatDoorValWb
import Derived.Test.YtpbmjknhfgdnnaaGreatDoorValRe
namespace Go.Proofs.YtpbmjknhfgdnnaaGreatDoor
open Go.RowKit

/-- a value and a type in blocks of their own, as a conjunction -/
abbrev VtC (w : World) (ak an ac : Int) (as' : ByteArray) (tk ts : Int) (w' : World) : Prop :=
  w'.cell? ⟨w.heap.size, 0, none⟩ = some (.int .i64 ak) ∧ w'.cell? ⟨w.heap.size, 1, none⟩ = some (.int .i64 an) ∧ w'.cell? ⟨w.heap.size, 2, none⟩ = some (.int .i64 ac) ∧ w'.cell? ⟨w.heap.size, 3, none⟩ = some (.string as') ∧
  w'.cell? ⟨w.heap.size + 1, 0, none⟩ = some (.int .i64 tk) ∧ w'.cell? ⟨w.heap.size + 1, 1, none⟩ = some (.int .i64 ts) ∧
  Hid (EnvV w' ∧ Below w.heap.size w w' ∧ w.heap.size + 1 < w'.heap.size)
theorem VtC.env {w w0 : World} {ak an ac : Int} {as' : ByteArray} {tk ts : Int} (h : VtC w ak an ac as' tk ts w0) : EnvV w0 := h.2.2.2.2.2.2.1
theorem VtC.bel {w w0 : World} {ak an ac : Int} {as' : ByteArray} {tk ts : Int} (h : VtC w ak an ac as' tk ts w0) : Below w.heap.size w w0 := h.2.2.2.2.2.2.2.1
theorem VtC.lt {w w0 : World} {ak an ac : Int} {as' : ByteArray} {tk ts : Int} (h : VtC w ak an ac as' tk ts w0) : w.heap.size + 1 < w0.heap.size := h.2.2.2.2.2.2.2.2
theorem VtC.keep {w w0 w1 : World} {ak an ac : Int} {as' : ByteArray} {tk ts : Int} (h : VtC w ak an ac as' tk ts w0) (hb : Below w0.heap.size w0 w1) : VtC w ak an ac as' tk ts w1 := by
  obtain ⟨h0, h1, h2, h3, g0, g1, ⟨he, hl, hs⟩⟩ := h
  have lt0 : w.heap.size < w0.heap.size := by omega
  exact ⟨(hb.cell (p := ⟨w.heap.size, 0, none⟩) lt0).trans h0, (hb.cell (p := ⟨w.heap.size, 1, none⟩) lt0).trans h1, (hb.cell (p := ⟨w.heap.size, 2, none⟩) lt0).trans h2, (hb.cell (p := ⟨w.heap.size, 3, none⟩) lt0).trans h3,
    (hb.cell (p := ⟨w.heap.size + 1, 0, none⟩) hs).trans g0, (hb.cell (p := ⟨w.heap.size + 1, 1, none⟩) hs).trans g1, ⟨he.keep hb, hl.trans (hb.mono hl.size), by have := hb.size; omega⟩⟩
theorem below_ad (w : World) (o : Obj) : Below w.heap.size w (w.alloc o).drew := ((Below.refl _ _).alloc (Nat.le_refl _) _).trans ⟨rfl, rfl, rfl, Nat.le_refl _, fun _ _ => rfl⟩
theorem below_aad (w : World) (o o' : Obj) : Below w.heap.size w ((w.alloc o).alloc o').drew := (two w o o').trans ⟨rfl, rfl, rfl, Nat.le_refl _, fun _ _ => rfl⟩
theorem VtC.start (w : World) (he : EnvV w) (ak an ac : Int) (as' : ByteArray) (tk ts : Int) (t t' : TypeId) :
    VtC w ak an ac as' tk ts ((w.alloc (.cells #[.int .i64 ak, .int .i64 an, .int .i64 ac, .string as'] t)).alloc (.cells #[.int .i64 tk, .int .i64 ts] t')) := by
  have a := (Bx.new w ak an ac as' t).alloc (.cells #[.int .i64 tk, .int .i64 ts] t')
  have b := Tx.new (w.alloc (.cells #[.int .i64 ak, .int .i64 an, .int .i64 ac, .string as'] t)) tk ts t'
  rw [show (w.alloc (.cells #[.int .i64 ak, .int .i64 an, .int .i64 ac, .string as'] t)).heap.size = w.heap.size + 1 by simp] at b
  exact ⟨a.c0, a.c1, a.c2, a.c3, b.c0, b.c1, ⟨he.keep (two w _ _), two w _ _, by simp⟩⟩

set_option maxRecDepth 100000 in
set_option maxHeartbeats 4000000 in
theorem typ_no (V : ValCon) (ak an ac : Int) (as' : ByteArray) (tk ts : Int) (w : World) (he : EnvV w) (ha : ValOk ⟨ak, an, ac, as'⟩) (hl : as'.size ≤ 1000) (ht : Vm.typeB tk ts = false) :
    Calls Tryz.prog 3 #[.agg #[.int .i64 ak, .int .i64 an, .int .i64 ac, .string as'], .agg #[.int .i64 tk, .int .i64 ts]] w (Says true w) := by
  have ZA := Lib.hid ha.s
  dsimp only at ZA
  have hl2 : (as'.size : Int) ≤ 1000 := by omega
  have T0 := Lib.hid (VtC.start w he ak an ac as' tk ts 24 26)
  have VR := Lib.hid (V.right ⟨ak, an, ac, as'⟩ · · ZA.out); have RR := Lib.hid (ref3_right ak an ac as' · ZA.out)
  have VT := Lib.hid (V.rtype tk ts); have RT := Lib.hid (ref3_type tk ts)
  have VO := Lib.hid (V.of ⟨ak, an, ac, as'⟩ tk ts · · ZA.out); have RO := Lib.hid (ref3_of ak an ac as' tk ts · ZA.out)
  have VN := Lib.hid (V.name tk ts)
  have hn : Vm.name tk ts = [] := by unfold Vm.name; rw [ht]; rfl
  rw [ht] at VT RT
  rw [hn] at VN
  clear ht hn
  clear he ha
  revert VR RR VO RO
  generalize Vm.rightB ⟨ak, an, ac, as'⟩ = b1
  generalize Vm.ofB ⟨ak, an, ac, as'⟩ tk ts = b3
  intro VR RR VO RO
  have q1 : (b1 == b1) = true := by simp
  have q3 : (b3 == b3) = true := by simp
  go_enter Tryz.func3, Tryz.ntmps3
  go_wp2_with fail
  refine (first3_true V _ T0.out.env).mono ?_
  rintro e w1 ⟨rfl, hb⟩
  have T1 := Lib.hid (T0.out.keep hb)
  obtain ⟨a0, a1, a2, a3, b0, b2, _⟩ := T1.out
  clear hb T0
  go_wp2_with fail
  refine (RT.out _).mono ?_
  rintro e w2 ⟨rfl, hb⟩
  have T2 := Lib.hid (T1.out.keep hb)
  clear hb T1 a0 a1 a2 a3 b0 b2
  go_upto_region 10 with (fail)
  have S0 := Lib.hid (T2.out.keep (below_drew1 w2))
  go_region_held3 (fun w' => w'.cell? ⟨w.heap.size, 0, none⟩ = some (.int .i64 ak) ∧ w'.cell? ⟨w.heap.size, 1, none⟩ = some (.int .i64 an) ∧ w'.cell? ⟨w.heap.size, 2, none⟩ = some (.int .i64 ac) ∧ w'.cell? ⟨w.heap.size, 3, none⟩ = some (.string as') ∧
    w'.cell? ⟨w.heap.size + 1, 0, none⟩ = some (.int .i64 tk) ∧ w'.cell? ⟨w.heap.size + 1, 1, none⟩ = some (.int .i64 ts) ∧
    Hid (EnvV w' ∧ Below w.heap.size w w' ∧ w.heap.size + 1 < w'.heap.size)) (first | exact S0.out | exact VtC.keep (by assumption) hb) (first
    | (go_at_call 12; refine (VR.out _ (VtC.env (by assumption))).mono ?_; rintro e w4 ⟨rfl, hb⟩)
    | (go_at_call 13; refine (RR.out _).mono ?_; rintro e w5 ⟨rfl, hb⟩)
    | (go_at_call 14; refine (VT.out _ (VtC.env (by assumption))).mono ?_; rintro e w6 ⟨rfl, hb⟩)
    | (go_at_call 11; refine (RT.out _).mono ?_; rintro e w7 ⟨rfl, hb⟩)
    | (go_at_call 15; refine (VO.out _ (VtC.env (by assumption))).mono ?_; rintro e w8 ⟨rfl, hb⟩)
    | (go_at_call 16; refine (RO.out _).mono ?_; rintro e w9 ⟨rfl, hb⟩)
    | (go_at_call 17; refine (VN.out _ (VtC.env (by assumption))).mono ?_; rintro e wa ⟨rfl, hb⟩))
  all_goals
    go_wp2
    go_ret
    refine Says.mk (by first | rfl | simp) ?_
    exact VtC.bel (by assumption)
set_option maxRecDepth 100000 in
set_option maxHeartbeats 4000000 in
theorem typ_1 (V : ValCon) (ak an ac : Int) (as' : ByteArray) (w : World) (he : EnvV w) (ha : ValOk ⟨ak, an, ac, as'⟩) (hl : as'.size ≤ 1000) :
    Calls Tryz.prog 3 #[.agg #[.int .i64 ak, .int .i64 an, .int .i64 ac, .string as'], .agg #[.int .i64 1, .int .i64 0]] w (Says true w) := by
  have ZA := Lib.hid ha.s
  dsimp only at ZA
  have hl2 : (as'.size : Int) ≤ 1000 := by omega
  have T0 := Lib.hid (VtC.start w he ak an ac as' 1 0 24 26)
  have VR := Lib.hid (V.right ⟨ak, an, ac, as'⟩ · · ZA.out); have RR := Lib.hid (ref3_right ak an ac as' · ZA.out)
  have VT := Lib.hid (V.rtype 1 0); have RT := Lib.hid (ref3_type 1 0)
  have VO := Lib.hid (V.of ⟨ak, an, ac, as'⟩ 1 0 · · ZA.out); have RO := Lib.hid (ref3_of ak an ac as' 1 0 · ZA.out)
  have VN := Lib.hid (V.name 1 0)
  have ht : Vm.typeB 1 0 = true := by decide
  have hn : Vm.name 1 0 = [66, 79, 79, 76] := by decide +kernel
  rw [ht] at VT RT
  rw [hn] at VN
  clear ht hn
  clear he ha
  revert VR RR VO RO
  generalize Vm.rightB ⟨ak, an, ac, as'⟩ = b1
  generalize Vm.ofB ⟨ak, an, ac, as'⟩ 1 0 = b3
  intro VR RR VO RO
  have q1 : (b1 == b1) = true := by simp
  have q3 : (b3 == b3) = true := by simp
  go_enter Tryz.func3, Tryz.ntmps3
  go_wp2_with fail
  refine (first3_true V _ T0.out.env).mono ?_
  rintro e w1 ⟨rfl, hb⟩
  have T1 := Lib.hid (T0.out.keep hb)
  obtain ⟨a0, a1, a2, a3, b0, b2, _⟩ := T1.out
  clear hb T0
  go_wp2_with fail
  refine (RT.out _).mono ?_
  rintro e w2 ⟨rfl, hb⟩
  have T2 := Lib.hid (T1.out.keep hb)
  clear hb T1 a0 a1 a2 a3 b0 b2
  obtain ⟨a0, a1, a2, a3, b0, b2, _⟩ := T2.out
  have hlt := T2.out.lt
  go_upto_region 10 with (fail)
  have S0 := Lib.hid (T2.out.keep (below_ad w2 (.cells #[.string ⟨#[]⟩, .string ⟨#[66, 79, 79, 76]⟩, .string ⟨#[73, 78, 84]⟩, .string ⟨#[68, 69, 67, 73, 77, 65, 76, 40]⟩, .string ⟨#[84, 69, 88, 84]⟩, .string ⟨#[66, 89, 84, 69, 83]⟩] 9)))
  clear a0 a1 a2 a3 b0 b2
  go_region_held3 (fun w' => w'.cell? ⟨w.heap.size, 0, none⟩ = some (.int .i64 ak) ∧ w'.cell? ⟨w.heap.size, 1, none⟩ = some (.int .i64 an) ∧ w'.cell? ⟨w.heap.size, 2, none⟩ = some (.int .i64 ac) ∧ w'.cell? ⟨w.heap.size, 3, none⟩ = some (.string as') ∧
    w'.cell? ⟨w.heap.size + 1, 0, none⟩ = some (.int .i64 1) ∧ w'.cell? ⟨w.heap.size + 1, 1, none⟩ = some (.int .i64 0) ∧
    Hid (EnvV w' ∧ Below w.heap.size w w' ∧ w.heap.size + 1 < w'.heap.size)) (first | exact S0.out | exact VtC.keep (by assumption) hb) (first
    | (go_at_call 12; refine (VR.out _ (VtC.env (by assumption))).mono ?_; rintro e w4 ⟨rfl, hb⟩)
    | (go_at_call 13; refine (RR.out _).mono ?_; rintro e w5 ⟨rfl, hb⟩)
    | (go_at_call 14; refine (VT.out _ (VtC.env (by assumption))).mono ?_; rintro e w6 ⟨rfl, hb⟩)
    | (go_at_call 11; refine (RT.out _).mono ?_; rintro e w7 ⟨rfl, hb⟩)
    | (go_at_call 15; refine (VO.out _ (VtC.env (by assumption))).mono ?_; rintro e w8 ⟨rfl, hb⟩)
    | (go_at_call 16; refine (RO.out _).mono ?_; rintro e w9 ⟨rfl, hb⟩)
    | (go_at_call 17; refine (VN.out _ (VtC.env (by assumption))).mono ?_; rintro e wa ⟨rfl, hb⟩))
  all_goals
    go_wp2
    go_ret
    refine Says.mk (by first | rfl | simp) ?_
    exact VtC.bel (by assumption)
set_option maxRecDepth 100000 in
set_option maxHeartbeats 4000000 in
theorem typ_2 (V : ValCon) (ak an ac : Int) (as' : ByteArray) (w : World) (he : EnvV w) (ha : ValOk ⟨ak, an, ac, as'⟩) (hl : as'.size ≤ 1000) :
    Calls Tryz.prog 3 #[.agg #[.int .i64 ak, .int .i64 an, .int .i64 ac, .string as'], .agg #[.int .i64 2, .int .i64 0]] w (Says true w) := by
  have ZA := Lib.hid ha.s
  dsimp only at ZA
  have hl2 : (as'.size : Int) ≤ 1000 := by omega
  have T0 := Lib.hid (VtC.start w he ak an ac as' 2 0 24 26)
  have VR := Lib.hid (V.right ⟨ak, an, ac, as'⟩ · · ZA.out); have RR := Lib.hid (ref3_right ak an ac as' · ZA.out)
  have VT := Lib.hid (V.rtype 2 0); have RT := Lib.hid (ref3_type 2 0)
  have VO := Lib.hid (V.of ⟨ak, an, ac, as'⟩ 2 0 · · ZA.out); have RO := Lib.hid (ref3_of ak an ac as' 2 0 · ZA.out)
  have VN := Lib.hid (V.name 2 0)
  have ht : Vm.typeB 2 0 = true := by decide
  have hn : Vm.name 2 0 = [73, 78, 84] := by decide +kernel
  rw [ht] at VT RT
  rw [hn] at VN
  clear ht hn
  clear he ha
  revert VR RR VO RO
  generalize Vm.rightB ⟨ak, an, ac, as'⟩ = b1
  generalize Vm.ofB ⟨ak, an, ac, as'⟩ 2 0 = b3
  intro VR RR VO RO
  have q1 : (b1 == b1) = true := by simp
  have q3 : (b3 == b3) = true := by simp
  go_enter Tryz.func3, Tryz.ntmps3
  go_wp2_with fail
  refine (first3_true V _ T0.out.env).mono ?_
  rintro e w1 ⟨rfl, hb⟩
  have T1 := Lib.hid (T0.out.keep hb)
  obtain ⟨a0, a1, a2, a3, b0, b2, _⟩ := T1.out
  clear hb T0
  go_wp2_with fail
  refine (RT.out _).mono ?_
  rintro e w2 ⟨rfl, hb⟩
  have T2 := Lib.hid (T1.out.keep hb)
  clear hb T1 a0 a1 a2 a3 b0 b2
  obtain ⟨a0, a1, a2, a3, b0, b2, _⟩ := T2.out
  have hlt := T2.out.lt
  go_upto_region 10 with (fail)
  have S0 := Lib.hid (T2.out.keep (below_ad w2 (.cells #[.string ⟨#[]⟩, .string ⟨#[66, 79, 79, 76]⟩, .string ⟨#[73, 78, 84]⟩, .string ⟨#[68, 69, 67, 73, 77, 65, 76, 40]⟩, .string ⟨#[84, 69, 88, 84]⟩, .string ⟨#[66, 89, 84, 69, 83]⟩] 9)))
  clear a0 a1 a2 a3 b0 b2
  go_region_held3 (fun w' => w'.cell? ⟨w.heap.size, 0, none⟩ = some (.int .i64 ak) ∧ w'.cell? ⟨w.heap.size, 1, none⟩ = some (.int .i64 an) ∧ w'.cell? ⟨w.heap.size, 2, none⟩ = some (.int .i64 ac) ∧ w'.cell? ⟨w.heap.size, 3, none⟩ = some (.string as') ∧
    w'.cell? ⟨w.heap.size + 1, 0, none⟩ = some (.int .i64 2) ∧ w'.cell? ⟨w.heap.size + 1, 1, none⟩ = some (.int .i64 0) ∧
    Hid (EnvV w' ∧ Below w.heap.size w w' ∧ w.heap.size + 1 < w'.heap.size)) (first | exact S0.out | exact VtC.keep (by assumption) hb) (first
    | (go_at_call 12; refine (VR.out _ (VtC.env (by assumption))).mono ?_; rintro e w4 ⟨rfl, hb⟩)
    | (go_at_call 13; refine (RR.out _).mono ?_; rintro e w5 ⟨rfl, hb⟩)
    | (go_at_call 14; refine (VT.out _ (VtC.env (by assumption))).mono ?_; rintro e w6 ⟨rfl, hb⟩)
    | (go_at_call 11; refine (RT.out _).mono ?_; rintro e w7 ⟨rfl, hb⟩)
    | (go_at_call 15; refine (VO.out _ (VtC.env (by assumption))).mono ?_; rintro e w8 ⟨rfl, hb⟩)
    | (go_at_call 16; refine (RO.out _).mono ?_; rintro e w9 ⟨rfl, hb⟩)
    | (go_at_call 17; refine (VN.out _ (VtC.env (by assumption))).mono ?_; rintro e wa ⟨rfl, hb⟩))
  all_goals
    go_wp2
    go_ret
    refine Says.mk (by first | rfl | simp) ?_
    exact VtC.bel (by assumption)
set_option maxRecDepth 100000 in
set_option maxHeartbeats 4000000 in
theorem typ_4 (V : ValCon) (ak an ac : Int) (as' : ByteArray) (w : World) (he : EnvV w) (ha : ValOk ⟨ak, an, ac, as'⟩) (hl : as'.size ≤ 1000) :
    Calls Tryz.prog 3 #[.agg #[.int .i64 ak, .int .i64 an, .int .i64 ac, .string as'], .agg #[.int .i64 4, .int .i64 0]] w (Says true w) := by
  have ZA := Lib.hid ha.s
  dsimp only at ZA
  have hl2 : (as'.size : Int) ≤ 1000 := by omega
  have T0 := Lib.hid (VtC.start w he ak an ac as' 4 0 24 26)
  have VR := Lib.hid (V.right ⟨ak, an, ac, as'⟩ · · ZA.out); have RR := Lib.hid (ref3_right ak an ac as' · ZA.out)
  have VT := Lib.hid (V.rtype 4 0); have RT := Lib.hid (ref3_type 4 0)
  have VO := Lib.hid (V.of ⟨ak, an, ac, as'⟩ 4 0 · · ZA.out); have RO := Lib.hid (ref3_of ak an ac as' 4 0 · ZA.out)
  have VN := Lib.hid (V.name 4 0)
  have ht : Vm.typeB 4 0 = true := by decide
  have hn : Vm.name 4 0 = [84, 69, 88, 84] := by decide +kernel
  rw [ht] at VT RT
  rw [hn] at VN
  clear ht hn
  clear he ha
  revert VR RR VO RO
  generalize Vm.rightB ⟨ak, an, ac, as'⟩ = b1
  generalize Vm.ofB ⟨ak, an, ac, as'⟩ 4 0 = b3
  intro VR RR VO RO
  have q1 : (b1 == b1) = true := by simp
  have q3 : (b3 == b3) = true := by simp
  go_enter Tryz.func3, Tryz.ntmps3
  go_wp2_with fail
  refine (first3_true V _ T0.out.env).mono ?_
  rintro e w1 ⟨rfl, hb⟩
  have T1 := Lib.hid (T0.out.keep hb)
  obtain ⟨a0, a1, a2, a3, b0, b2, _⟩ := T1.out
  clear hb T0
  go_wp2_with fail
  refine (RT.out _).mono ?_
  rintro e w2 ⟨rfl, hb⟩
  have T2 := Lib.hid (T1.out.keep hb)
  clear hb T1 a0 a1 a2 a3 b0 b2
  obtain ⟨a0, a1, a2, a3, b0, b2, _⟩ := T2.out
  have hlt := T2.out.lt
  go_upto_region 10 with (fail)
  have S0 := Lib.hid (T2.out.keep (below_ad w2 (.cells #[.string ⟨#[]⟩, .string ⟨#[66, 79, 79, 76]⟩, .string ⟨#[73, 78, 84]⟩, .string ⟨#[68, 69, 67, 73, 77, 65, 76, 40]⟩, .string ⟨#[84, 69, 88, 84]⟩, .string ⟨#[66, 89, 84, 69, 83]⟩] 9)))
  clear a0 a1 a2 a3 b0 b2
  go_region_held3 (fun w' => w'.cell? ⟨w.heap.size, 0, none⟩ = some (.int .i64 ak) ∧ w'.cell? ⟨w.heap.size, 1, none⟩ = some (.int .i64 an) ∧ w'.cell? ⟨w.heap.size, 2, none⟩ = some (.int .i64 ac) ∧ w'.cell? ⟨w.heap.size, 3, none⟩ = some (.string as') ∧
    w'.cell? ⟨w.heap.size + 1, 0, none⟩ = some (.int .i64 4) ∧ w'.cell? ⟨w.heap.size + 1, 1, none⟩ = some (.int .i64 0) ∧
    Hid (EnvV w' ∧ Below w.heap.size w w' ∧ w.heap.size + 1 < w'.heap.size)) (first | exact S0.out | exact VtC.keep (by assumption) hb) (first
    | (go_at_call 12; refine (VR.out _ (VtC.env (by assumption))).mono ?_; rintro e w4 ⟨rfl, hb⟩)
    | (go_at_call 13; refine (RR.out _).mono ?_; rintro e w5 ⟨rfl, hb⟩)
    | (go_at_call 14; refine (VT.out _ (VtC.env (by assumption))).mono ?_; rintro e w6 ⟨rfl, hb⟩)
    | (go_at_call 11; refine (RT.out _).mono ?_; rintro e w7 ⟨rfl, hb⟩)
    | (go_at_call 15; refine (VO.out _ (VtC.env (by assumption))).mono ?_; rintro e w8 ⟨rfl, hb⟩)
    | (go_at_call 16; refine (RO.out _).mono ?_; rintro e w9 ⟨rfl, hb⟩)
    | (go_at_call 17; refine (VN.out _ (VtC.env (by assumption))).mono ?_; rintro e wa ⟨rfl, hb⟩))
  all_goals
    go_wp2
    go_ret
    refine Says.mk (by first | rfl | simp) ?_
    exact VtC.bel (by assumption)
set_option maxRecDepth 100000 in
set_option maxHeartbeats 4000000 in
theorem typ_5 (V : ValCon) (ak an ac : Int) (as' : ByteArray) (w : World) (he : EnvV w) (ha : ValOk ⟨ak, an, ac, as'⟩) (hl : as'.size ≤ 1000) :
    Calls Tryz.prog 3 #[.agg #[.int .i64 ak, .int .i64 an, .int .i64 ac, .string as'], .agg #[.int .i64 5, .int .i64 0]] w (Says true w) := by
  have ZA := Lib.hid ha.s
  dsimp only at ZA
  have hl2 : (as'.size : Int) ≤ 1000 := by omega
  have T0 := Lib.hid (VtC.start w he ak an ac as' 5 0 24 26)
  have VR := Lib.hid (V.right ⟨ak, an, ac, as'⟩ · · ZA.out); have RR := Lib.hid (ref3_right ak an ac as' · ZA.out)
  have VT := Lib.hid (V.rtype 5 0); have RT := Lib.hid (ref3_type 5 0)
  have VO := Lib.hid (V.of ⟨ak, an, ac, as'⟩ 5 0 · · ZA.out); have RO := Lib.hid (ref3_of ak an ac as' 5 0 · ZA.out)
  have VN := Lib.hid (V.name 5 0)
  have ht : Vm.typeB 5 0 = true := by decide
  have hn : Vm.name 5 0 = [66, 89, 84, 69, 83] := by decide +kernel
  rw [ht] at VT RT
  rw [hn] at VN
  clear ht hn
  clear he ha
  revert VR RR VO RO
  generalize Vm.rightB ⟨ak, an, ac, as'⟩ = b1
  generalize Vm.ofB ⟨ak, an, ac, as'⟩ 5 0 = b3
  intro VR RR VO RO
  have q1 : (b1 == b1) = true := by simp
  have q3 : (b3 == b3) = true := by simp
  go_enter Tryz.func3, Tryz.ntmps3
  go_wp2_with fail
  refine (first3_true V _ T0.out.env).mono ?_
  rintro e w1 ⟨rfl, hb⟩
  have T1 := Lib.hid (T0.out.keep hb)
  obtain ⟨a0, a1, a2, a3, b0, b2, _⟩ := T1.out
  clear hb T0
  go_wp2_with fail
  refine (RT.out _).mono ?_
  rintro e w2 ⟨rfl, hb⟩
  have T2 := Lib.hid (T1.out.keep hb)
  clear hb T1 a0 a1 a2 a3 b0 b2
  obtain ⟨a0, a1, a2, a3, b0, b2, _⟩ := T2.out
  have hlt := T2.out.lt
  go_upto_region 10 with (fail)
  have S0 := Lib.hid (T2.out.keep (below_ad w2 (.cells #[.string ⟨#[]⟩, .string ⟨#[66, 79, 79, 76]⟩, .string ⟨#[73, 78, 84]⟩, .string ⟨#[68, 69, 67, 73, 77, 65, 76, 40]⟩, .string ⟨#[84, 69, 88, 84]⟩, .string ⟨#[66, 89, 84, 69, 83]⟩] 9)))
  clear a0 a1 a2 a3 b0 b2
  go_region_held3 (fun w' => w'.cell? ⟨w.heap.size, 0, none⟩ = some (.int .i64 ak) ∧ w'.cell? ⟨w.heap.size, 1, none⟩ = some (.int .i64 an) ∧ w'.cell? ⟨w.heap.size, 2, none⟩ = some (.int .i64 ac) ∧ w'.cell? ⟨w.heap.size, 3, none⟩ = some (.string as') ∧
    w'.cell? ⟨w.heap.size + 1, 0, none⟩ = some (.int .i64 5) ∧ w'.cell? ⟨w.heap.size + 1, 1, none⟩ = some (.int .i64 0) ∧
    Hid (EnvV w' ∧ Below w.heap.size w w' ∧ w.heap.size + 1 < w'.heap.size)) (first | exact S0.out | exact VtC.keep (by assumption) hb) (first
    | (go_at_call 12; refine (VR.out _ (VtC.env (by assumption))).mono ?_; rintro e w4 ⟨rfl, hb⟩)
    | (go_at_call 13; refine (RR.out _).mono ?_; rintro e w5 ⟨rfl, hb⟩)
    | (go_at_call 14; refine (VT.out _ (VtC.env (by assumption))).mono ?_; rintro e w6 ⟨rfl, hb⟩)
    | (go_at_call 11; refine (RT.out _).mono ?_; rintro e w7 ⟨rfl, hb⟩)
    | (go_at_call 15; refine (VO.out _ (VtC.env (by assumption))).mono ?_; rintro e w8 ⟨rfl, hb⟩)
    | (go_at_call 16; refine (RO.out _).mono ?_; rintro e w9 ⟨rfl, hb⟩)
    | (go_at_call 17; refine (VN.out _ (VtC.env (by assumption))).mono ?_; rintro e wa ⟨rfl, hb⟩))
  all_goals
    go_wp2
    go_ret
    refine Says.mk (by first | rfl | simp) ?_
    exact VtC.bel (by assumption)
set_option maxRecDepth 100000 in
set_option maxHeartbeats 4000000 in
theorem typ_3 (V : ValCon) (ak an ac : Int) (as' : ByteArray) (d : Nat) (w : World) (he : EnvV w) (ha : ValOk ⟨ak, an, ac, as'⟩) (hl : as'.size ≤ 1000) (hd : d ≤ 6) :
    Calls Tryz.prog 3 #[.agg #[.int .i64 ak, .int .i64 an, .int .i64 ac, .string as'], .agg #[.int .i64 3, .int .i64 (d : Int)]] w (Says true w) := by
  have ZA := Lib.hid ha.s
  dsimp only at ZA
  have hl2 : (as'.size : Int) ≤ 1000 := by omega
  have T0 := Lib.hid (VtC.start w he ak an ac as' 3 (d : Int) 24 26)
  have VR := Lib.hid (V.right ⟨ak, an, ac, as'⟩ · · ZA.out); have RR := Lib.hid (ref3_right ak an ac as' · ZA.out)
  have VT := Lib.hid (V.rtype 3 (d : Int)); have RT := Lib.hid (ref3_type 3 (d : Int))
  have VO := Lib.hid (V.of ⟨ak, an, ac, as'⟩ 3 (d : Int) · · ZA.out); have RO := Lib.hid (ref3_of ak an ac as' 3 (d : Int) · ZA.out)
  have VN := Lib.hid (V.name 3 (d : Int))
  have ht : Vm.typeB 3 (d : Int) = true := by unfold Vm.typeB; rw [if_neg (by decide), if_pos rfl]; simp [scB]; omega
  obtain ⟨c, hc⟩ : ∃ c, UInt8.ofNat (48 + d) = c := ⟨_, rfl⟩
  have hn : Vm.name 3 (d : Int) = [68, 69, 67, 73, 77, 65, 76, 40] ++ [c, 41] := by unfold Vm.name; rw [ht, if_pos rfl, if_neg (by decide), if_neg (by decide), if_pos rfl, Int.toNat_natCast, hc]
  have hw1 : IntKind.i64.wrap (48 + (d : Int)) = 48 + (d : Int) := IntWalk.i64_in _ (by omega)
  have hw2 : IntKind.u8.wrap (48 + (d : Int)) = (c.toNat : Int) := by rw [← hc, UInt8.toNat_ofNat']; simp only [IntKind.wrap_u8]; omega
  rw [ht] at VT RT
  rw [hn] at VN
  obtain ⟨X, hX⟩ : ∃ X : ByteArray, X = ⟨([68, 69, 67, 73, 77, 65, 76, 40] ++ [c, 41] : List UInt8).toArray⟩ := ⟨_, rfl⟩
  have VN2 : Hid (∀ W, EnvV W → Calls Tryz.prog 17 #[.agg #[.int .i64 3, .int .i64 (d : Int)]] W fun e w' => e = .returned (.string X) ∧ Below W.heap.size W w') := by rw [hX]; exact VN
  have hX2 : (⟨#[68, 69, 67, 73, 77, 65, 76, 40]⟩ : ByteArray) ++ (bstr [c] ++ ⟨#[41]⟩) = X := by
    rw [hX, show (⟨#[41]⟩ : ByteArray) = bstr [41] from rfl, show (⟨#[68, 69, 67, 73, 77, 65, 76, 40]⟩ : ByteArray) = bstr [68, 69, 67, 73, 77, 65, 76, 40] from rfl, bstr_append, bstr_append]; rfl
  have hz1 : (bstr [c]).size = 1 := bstr_size _
  have qX : (X.toList == X.toList) = true := by simp
  clear ht hn VN hX hc
  have HCV : Hid (∀ W : World, (convert 30 9 (.slice (some ⟨W.heap.size, 0, none⟩) 1 1)).run Tryz.prog (W.alloc (.cells #[.int .u8 (c.toNat : Int)] 5)) = .ok (.string (bstr [c])) (W.alloc (.cells #[.int .u8 (c.toNat : Int)] 5))) := fun W => (Yt.of_own (own_lity W c 0 (Nat.zero_le _))).str
  generalize bstr [c] = C1 at *
  clear he ha
  revert VR RR VO RO
  generalize Vm.rightB ⟨ak, an, ac, as'⟩ = b1
  generalize Vm.ofB ⟨ak, an, ac, as'⟩ 3 (d : Int) = b3
  intro VR RR VO RO
  have q1 : (b1 == b1) = true := by simp
  have q3 : (b3 == b3) = true := by simp
  go_enter Tryz.func3, Tryz.ntmps3
  go_wp2_with fail
  refine (first3_true V _ T0.out.env).mono ?_
  rintro e w1 ⟨rfl, hb⟩
  have T1 := Lib.hid (T0.out.keep hb)
  obtain ⟨a0, a1, a2, a3, b0, b2, _⟩ := T1.out
  clear hb T0
  go_wp2_with fail
  refine (RT.out _).mono ?_
  rintro e w2 ⟨rfl, hb⟩
  have T2 := Lib.hid (T1.out.keep hb)
  clear hb T1 a0 a1 a2 a3 b0 b2
  obtain ⟨a0, a1, a2, a3, b0, b2, _⟩ := T2.out
  have hlt := T2.out.lt
  have hcv := HCV.out (w2.alloc (.cells #[.string ⟨#[]⟩, .string ⟨#[66, 79, 79, 76]⟩, .string ⟨#[73, 78, 84]⟩, .string ⟨#[68, 69, 67, 73, 77, 65, 76, 40]⟩, .string ⟨#[84, 69, 88, 84]⟩, .string ⟨#[66, 89, 84, 69, 83]⟩] 9))
  simp only [show (w2.alloc (.cells #[.string ⟨#[]⟩, .string ⟨#[66, 79, 79, 76]⟩, .string ⟨#[73, 78, 84]⟩, .string ⟨#[68, 69, 67, 73, 77, 65, 76, 40]⟩, .string ⟨#[84, 69, 88, 84]⟩, .string ⟨#[66, 89, 84, 69, 83]⟩] 9)).heap.size = w2.heap.size + 1 by simp] at hcv
  go_upto_region 10 with (fail)
  have S0 := Lib.hid (T2.out.keep (below_aad w2 (.cells #[.string ⟨#[]⟩, .string ⟨#[66, 79, 79, 76]⟩, .string ⟨#[73, 78, 84]⟩, .string ⟨#[68, 69, 67, 73, 77, 65, 76, 40]⟩, .string ⟨#[84, 69, 88, 84]⟩, .string ⟨#[66, 89, 84, 69, 83]⟩] 9) (.cells #[.int .u8 (c.toNat : Int)] 5)))
  clear a0 a1 a2 a3 b0 b2 hcv
  go_region_held3 (fun w' => w'.cell? ⟨w.heap.size, 0, none⟩ = some (.int .i64 ak) ∧ w'.cell? ⟨w.heap.size, 1, none⟩ = some (.int .i64 an) ∧ w'.cell? ⟨w.heap.size, 2, none⟩ = some (.int .i64 ac) ∧ w'.cell? ⟨w.heap.size, 3, none⟩ = some (.string as') ∧
    w'.cell? ⟨w.heap.size + 1, 0, none⟩ = some (.int .i64 3) ∧ w'.cell? ⟨w.heap.size + 1, 1, none⟩ = some (.int .i64 (d : Int)) ∧
    Hid (EnvV w' ∧ Below w.heap.size w w' ∧ w.heap.size + 1 < w'.heap.size)) (first | exact S0.out | exact VtC.keep (by assumption) hb) (first
    | (go_at_call 12; refine (VR.out _ (VtC.env (by assumption))).mono ?_; rintro e w4 ⟨rfl, hb⟩)
    | (go_at_call 13; refine (RR.out _).mono ?_; rintro e w5 ⟨rfl, hb⟩)
    | (go_at_call 14; refine (VT.out _ (VtC.env (by assumption))).mono ?_; rintro e w6 ⟨rfl, hb⟩)
    | (go_at_call 11; refine (RT.out _).mono ?_; rintro e w7 ⟨rfl, hb⟩)
    | (go_at_call 15; refine (VO.out _ (VtC.env (by assumption))).mono ?_; rintro e w8 ⟨rfl, hb⟩)
    | (go_at_call 16; refine (RO.out _).mono ?_; rintro e w9 ⟨rfl, hb⟩)
    | (go_at_call 17; refine (VN2.out _ (VtC.env (by assumption))).mono ?_; rintro e wa ⟨rfl, hb⟩))
  all_goals
    go_wp2
    go_ret
    refine Says.mk (by first | rfl | simp) ?_
    exact VtC.bel (by assumption)
set_option maxRecDepth 100000 in
theorem typ_big (V : ValCon) (ak an ac : Int) (as' : ByteArray) (tk ts : Int) (w : World) (he : EnvV w) (ha : ValOk ⟨ak, an, ac, as'⟩) (hl : 1000 < as'.size) :
    Calls Tryz.prog 3 #[.agg #[.int .i64 ak, .int .i64 an, .int .i64 ac, .string as'], .agg #[.int .i64 tk, .int .i64 ts]] w (Says true w) := by
  have za := ha.s
  dsimp only at za
  unfold maxLen at za
  have hl2 : (1000 : Int) < (as'.size : Int) := by omega
  have T0 := Lib.hid (VtC.start w he ak an ac as' tk ts 24 26)
  clear he ha
  go_enter Tryz.func3, Tryz.ntmps3
  go_wp2_with fail
  refine (first3_true V _ T0.out.env).mono ?_
  rintro e w1 ⟨rfl, hb⟩
  have T1 := Lib.hid (T0.out.keep hb)
  obtain ⟨a0, a1, a2, a3, b0, b2, _⟩ := T1.out
  clear hb T0
  go_wp2
  go_ret
  exact Says.mk rfl T1.out.bel

theorem walk_types (V : ValCon) (v : Vm.Cl) (k t : Int) (w : World) (he : EnvV w) (hv : ValOk v) :
    Calls Tryz.prog 3 #[.agg #[.int .i64 v.k, .int .i64 v.n, .int .i64 v.sc, .string v.s], .agg #[.int .i64 k, .int .i64 t]] w (Says true w) := by
  obtain ⟨ak, an, ac, as'⟩ := v
  by_cases hl : 1000 < as'.size
  · exact typ_big V _ _ _ _ k t w he hv hl
  · have hl' : as'.size ≤ 1000 := by omega
    cases ht : Vm.typeB k t
    · exact typ_no V _ _ _ _ k t w he hv hl' ht
    · have h := ht
      unfold Vm.typeB at h
      split at h
      · rename_i hk
        simp at h
        subst h
        rcases hk with rfl | rfl | rfl | rfl
        · exact typ_1 V _ _ _ _ w he hv hl'
        · exact typ_2 V _ _ _ _ w he hv hl'
        · exact typ_4 V _ _ _ _ w he hv hl'
        · exact typ_5 V _ _ _ _ w he hv hl'
      · split at h
        · rename_i hk
          subst hk
          obtain ⟨h1, h2⟩ := scB_true h
          obtain ⟨d, rfl⟩ : ∃ d : Nat, t = (d : Int) := ⟨t.toNat, by omega⟩
          exact typ_3 V _ _ _ _ d w he hv hl' (by omega)
        · cases h
end Go.Proofs.YtpbmjknhfgdnnaaGreatDoor
