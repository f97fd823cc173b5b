/- The laws of layer 3 walked, over the bundle of contracts: ValueParses, ValueTruths. -/
import Derived.Test.YtpbmjknhfgdnnaaGreatDoorValFm
namespace Go.Proofs.YtpbmjknhfgdnnaaGreatDoor
open Go.RowKit

set_option maxRecDepth 100000 in
set_option maxHeartbeats 1000000 in
theorem walk_parses (V : ValCon) (s : ByteArray) (w : World) (he : EnvV w) (hz : s.size ≤ maxLen) :
    Calls Tryz.prog 7 #[.string s] w (Says true w) := by
  unfold maxLen at hz
  have HE := Lib.hid he
  clear he
  by_cases hl : 1000 < s.size
  · have hl2 : (1000 : Int) < (s.size : Int) := by omega
    go_enter Tryz.func7, Tryz.ntmps7
    go_wp2_with fail
    refine (first3_true V _ HE.out).mono ?_
    rintro e w1 ⟨rfl, hb⟩
    have HB1 := Lib.hid hb
    clear hb HE
    go_wp2
    go_ret
    exact Says.mk rfl HB1.out
  · have hl2 : (s.size : Int) ≤ 1000 := by omega
    have HP := Lib.hid (V.parse s · · (by omega)); have HQ := Lib.hid (ref3_parse s · (by omega))
    revert HP HQ
    generalize Vm.parse s.data.toList = p
    obtain ⟨⟨k, n, sc, t⟩, b⟩ := p
    intro HP HQ
    have heq := val_eql k n sc t k n sc t
    rw [eqB_self] at heq
    go_enter Tryz.func7, Tryz.ntmps7
    go_wp2_with fail
    refine (first3_true V _ HE.out).mono ?_
    rintro e w1 ⟨rfl, hb⟩
    have HB1 := Lib.hid hb
    have HE1 := Lib.hid (HE.out.keep hb)
    clear hb HE
    go_wp2_with fail
    refine (HP.out _ HE1.out).mono ?_
    rintro e w2 ⟨rfl, hb⟩
    have A2 := Lib.hid (Bx.new w2 k n sc t 24)
    have hb2 := hb.alloc hb.size (.cells #[.int .i64 k, .int .i64 n, .int .i64 sc, .string t] 24)
    have HB2 := Lib.hid (HB1.out.trans (hb2.mono HB1.out.size))
    clear hb hb2 HB1 HE1 HP
    dsimp only
    go_wp2_with fail
    refine (HQ.out _).mono ?_
    rintro e w3 ⟨rfl, hb⟩
    have hb3 := hb.alloc hb.size (.cells #[.int .i64 k, .int .i64 n, .int .i64 sc, .string t] 24)
    have HB3 := Lib.hid (HB2.out.trans (hb3.mono HB2.out.size))
    have A3 := Lib.hid (A2.out.keep hb)
    have a0 := A3.out.c0; have a1 := A3.out.c1; have a2 := A3.out.c2; have a3 := A3.out.c3; have al := A3.out.lt
    clear hb hb3 HB2 HQ A2
    dsimp only
    go_wp2
    go_ret
    exact Says.mk (by first | rfl | simp) HB3.out

set_option maxRecDepth 100000 in
set_option maxHeartbeats 4000000 in
theorem walk_truths (V : ValCon) (a b : Int) (v : Vm.Cl) (w : World) (he : EnvV w) (hv : ValOk v) :
    Calls Tryz.prog 8 #[.int .i64 a, .int .i64 b, .agg #[.int .i64 v.k, .int .i64 v.n, .int .i64 v.sc, .string v.s]] w (Says true w) := by
  have hz := hv.s
  have HE := Lib.hid he
  have HT := Lib.hid (V.truth v · · hz)
  have HPl := Lib.hid (ref3_plain v.k v.n v.sc v.s · hz)
  have htr : Vm.truth v = if (Vm.plain v).k = 1 then (Vm.plain v).n else 2 := rfl
  revert HT HPl htr
  show Hid (∀ W, EnvV W → Calls _ _ _ W (Num (Vm.truth v) W)) → Hid (∀ W, Calls _ _ _ W (Val (Vm.plain v) W)) → _
  generalize Vm.truth v = tr
  generalize Vm.plain v = p
  obtain ⟨pk, pn, pc, ps⟩ := p
  obtain ⟨vk, vn, vc, vs⟩ := v
  intro HT HPl htr
  dsimp only at hz HT HPl htr ⊢
  unfold maxLen at hz
  clear he hv
  have V0 := Lib.hid (Bx.new w vk vn vc vs 24)
  have HB0 := Lib.hid ((Below.refl w.heap.size w).alloc (Nat.le_refl _) (.cells #[.int .i64 vk, .int .i64 vn, .int .i64 vc, .string vs] 24))
  have HE0 := Lib.hid (HE.out.keep HB0.out)
  by_cases hl : 500 < vs.size
  · have hl2 : (500 : Int) < (vs.size : Int) := by omega
    go_enter Tryz.func8, Tryz.ntmps8
    go_wp2_with fail
    refine (first3_true V _ HE0.out).mono ?_
    rintro e w1 ⟨rfl, hb⟩
    have HB1 := Lib.hid (HB0.out.trans (hb.mono (by simp)))
    have V1 := Lib.hid (V0.out.keep hb)
    have d3 := V1.out.c3
    clear hb HE HE0
    go_wp2
    go_ret
    exact Says.mk rfl HB1.out
  · have hl2 : (vs.size : Int) ≤ 500 := by omega
    have heq1 := val_eql 1 1 0 ⟨#[]⟩ 1 1 0 ⟨#[]⟩
    have heq0 := val_eql 1 0 0 ⟨#[]⟩ 1 0 0 ⟨#[]⟩
    rw [eqB_self] at heq1 heq0
    have HN1 := Lib.hid (V.not a); have HN2 := Lib.hid (ref3_not a); have HNb := Lib.hid (ref3_not b)
    have HA1 := Lib.hid (V.and a b); have HA2 := Lib.hid (ref3_and a b)
    have HO1 := Lib.hid (V.or a b)
    have HA3 := Lib.hid (ref3_and (Vm.notT a) (Vm.notT b))
    have HN3 := Lib.hid (ref3_not (Vm.andT (Vm.notT a) (Vm.notT b)))
    revert HN1 HN2 HNb HA1 HA2 HO1 HA3 HN3
    generalize Vm.notT (Vm.andT (Vm.notT a) (Vm.notT b)) = n3
    generalize Vm.andT (Vm.notT a) (Vm.notT b) = a3
    generalize Vm.notT a = na
    generalize Vm.notT b = nb
    generalize Vm.andT a b = ab
    intro HN1 HN2 HNb HA1 HA2 HO1 HA3 HN3
    go_enter Tryz.func8, Tryz.ntmps8
    go_wp2_with fail
    refine (first3_true V _ HE0.out).mono ?_
    rintro e w1 ⟨rfl, hb⟩
    have HB1 := Lib.hid (HB0.out.trans (hb.mono (by simp)))
    have V1 := Lib.hid (V0.out.keep hb)
    have HE1 := Lib.hid (HE0.out.keep hb)
    have d3 := V1.out.c3
    clear hb HE HE0 HB0 V0
    go_wp2_with fail
    refine (HN1.out _).mono ?_
    rintro e w2 ⟨rfl, hb⟩
    have HB2 := Lib.hid (HB1.out.trans (hb.mono HB1.out.size))
    have V2 := Lib.hid (V1.out.keep hb); have HE2 := Lib.hid (HE1.out.keep hb)
    clear hb HE1 HB1 V1 d3 HN1
    go_wp2_with fail
    refine (HN2.out _).mono ?_
    rintro e w3 ⟨rfl, rfl⟩
    have q1 : (na != na) = false := by simp
    go_wp2_with fail
    refine (HA1.out _).mono ?_
    rintro e w4 ⟨rfl, hb⟩
    have HB4 := Lib.hid (HB2.out.trans (hb.mono HB2.out.size))
    have V4 := Lib.hid (V2.out.keep hb); have HE4 := Lib.hid (HE2.out.keep hb)
    clear hb HE2 HB2 V2 HA1
    go_wp2_with fail
    refine (HA2.out _).mono ?_
    rintro e w5 ⟨rfl, rfl⟩
    have q2 : (ab != ab) = false := by simp
    go_wp2_with fail
    refine (HO1.out _).mono ?_
    rintro e w6 ⟨rfl, hb⟩
    have HB6 := Lib.hid (HB4.out.trans (hb.mono HB4.out.size))
    have V6 := Lib.hid (V4.out.keep hb); have HE6 := Lib.hid (HE4.out.keep hb)
    clear hb HE4 HB4 V4 HO1
    go_wp2_with fail
    refine (HN2.out _).mono ?_
    rintro e w7 ⟨rfl, rfl⟩
    go_wp2_with fail
    refine (HNb.out _).mono ?_
    rintro e w8 ⟨rfl, rfl⟩
    go_wp2_with fail
    refine (HA3.out _).mono ?_
    rintro e w9 ⟨rfl, rfl⟩
    go_wp2_with fail
    refine (HN3.out _).mono ?_
    rintro e wa ⟨rfl, rfl⟩
    have q3 : (n3 != n3) = false := by simp
    have d0 := V6.out.c0; have d1 := V6.out.c1; have d2 := V6.out.c2; have d3 := V6.out.c3
    go_wp2_with fail
    refine (HPl.out _).mono ?_
    rintro e wb ⟨rfl, hb⟩
    have hbb := hb.alloc hb.size (.cells #[.int .i64 pk, .int .i64 pn, .int .i64 pc, .string ps] 24)
    have HBb := Lib.hid (HB6.out.trans (hbb.mono HB6.out.size))
    have Vb := Lib.hid (V6.out.keep hbb); have HEb := Lib.hid (HE6.out.keep hbb)
    clear hb hbb HB6 V6 HE6 HPl d0 d1 d2 d3
    have d0 := Vb.out.c0; have d1 := Vb.out.c1; have d2 := Vb.out.c2; have d3 := Vb.out.c3
    dsimp only
    by_cases hk : pk = 1
    · subst hk
      rw [if_pos rfl] at htr
      subst htr
      go_wp2_with fail
      refine (HT.out _ HEb.out).mono ?_
      rintro e wc ⟨rfl, hb⟩
      have HBc := Lib.hid (HBb.out.trans (hb.mono HBb.out.size))
      clear hb d0 d1 d2 d3 HEb Vb HBb HT
      go_wp2_with fail
      refine (V.bool true _).mono ?_
      rintro e wd ⟨rfl, hb⟩
      have HBd := Lib.hid (HBc.out.trans (hb.mono HBc.out.size))
      clear hb HBc
      dsimp only
      go_wp2_with fail
      refine (V.bool false _).mono ?_
      rintro e we ⟨rfl, hb⟩
      have HBe := Lib.hid (HBd.out.trans (hb.mono HBd.out.size))
      clear hb HBd
      dsimp only
      go_wp2
      go_ret
      exact Says.mk (by first | rfl | simp) HBe.out
    · have q4 : (pk == 1) = false := by rw [beq_eq_false_iff_ne]; exact hk
      rw [if_neg hk] at htr
      subst htr
      clear hk
      go_wp2_with fail
      refine (HT.out _ HEb.out).mono ?_
      rintro e wc ⟨rfl, hb⟩
      have HBc := Lib.hid (HBb.out.trans (hb.mono HBb.out.size))
      clear hb d0 d1 d2 d3 HEb Vb HBb HT
      go_wp2_with fail
      refine (V.bool true _).mono ?_
      rintro e wd ⟨rfl, hb⟩
      have HBd := Lib.hid (HBc.out.trans (hb.mono HBc.out.size))
      clear hb HBc
      dsimp only
      go_wp2_with fail
      refine (V.bool false _).mono ?_
      rintro e we ⟨rfl, hb⟩
      have HBe := Lib.hid (HBd.out.trans (hb.mono HBd.out.size))
      clear hb HBd
      dsimp only
      go_wp2
      go_ret
      exact Says.mk (by first | rfl | simp) HBe.out
end Go.Proofs.YtpbmjknhfgdnnaaGreatDoor
