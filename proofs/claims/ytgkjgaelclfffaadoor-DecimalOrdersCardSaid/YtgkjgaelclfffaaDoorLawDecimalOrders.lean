/- DecimalOrders returns true for every input: decimals of one scale compare as their integers. The listed package-level variables hold what the program's own text lays (tied); no other condition. -/
import Derived.Test.YtgkjgaelclfffaaDoorDecFrame
import Derived.Test.YtgkjgaelclfffaaDoorCards
import Derived.Test.YtgkjgaelclfffaaDoorDecLawMath
namespace Go.Proofs.YtgkjgaelclfffaaDoor.decimalOrders
open Go.ChangeShapes Go.WideShapes Go.ChangeAt Go.RowKit Go.WideMaps

set_option maxRecDepth 100000 in
set_option maxHeartbeats 1000000 in
theorem walk_no0 (x0 y0 x1 y1 : Int) (w : World) (he : Env w) (hx0 : i64 x0) (hy0 : i64 y0) (hx1 : i64 x1) (hy1 : i64 y1) (h : scB y0 = false) :
    Calls Tryd.prog 11 #[.agg #[.int .i64 x0, .int .i64 y0], .agg #[.int .i64 x1, .int .i64 y1]] w fun e w' => e = .returned (.bool true) ∧ Below w.heap.size w w' := by
  have HE := Lib.hid he; have HX0 := Lib.hid hx0; have HX1 := Lib.hid hx1
  have G0 := Lib.hid (Args2.start w x0 y0 x1 y1 35 35)
  have HE0 := Lib.hid (HE.out.keep G0.out.bel)
  clear he hx0 hx1 hy0 hy1 HE
  have hc : compM x0 y0 x1 y1 = 0 := comp_no _ _ _ _ (by rw [h]; rfl)
  have HC := Lib.hid hc; have HS := Lib.hid h
  clear hc h
  go_enter Tryd.func11, Tryd.ntmps11
  go_wp2_with fail
  refine (first_true _ HE0.out).mono ?_
  rintro e w1 ⟨rfl, hb⟩
  have G1 := Lib.hid (G0.out.keep hb)
  clear hb G0 HE0
  have d00 := G1.out.c00; have d01 := G1.out.c01; have d10 := G1.out.c10; have d11 := G1.out.c11
  go_wp2_with fail
  refine (ref_scale y0 _).mono ?_
  rintro e w2 ⟨rfl, rfl⟩
  rw [HS.out]
  go_wp2_with fail
  refine (dec_compare x0 y0 x1 y1 _ HX0.out HX1.out).mono ?_
  rintro e w2 ⟨rfl, hb⟩
  have G2 := Lib.hid (G1.out.keep hb)
  clear hb G1
  clear d00 d01 d10 d11
  have d00 := G2.out.c00; have d01 := G2.out.c01; have d10 := G2.out.c10; have d11 := G2.out.c11
  rw [HC.out]
  go_wp2
  go_ret
  refine ⟨?_, G2.out.bel⟩
  first | rfl | simp

set_option maxRecDepth 100000 in
set_option maxHeartbeats 1000000 in
theorem walk_no1 (x0 y0 x1 y1 : Int) (w : World) (he : Env w) (hx0 : i64 x0) (hy0 : i64 y0) (hx1 : i64 x1) (hy1 : i64 y1) (h0 : scB y0 = true) (h : scB y1 = false) :
    Calls Tryd.prog 11 #[.agg #[.int .i64 x0, .int .i64 y0], .agg #[.int .i64 x1, .int .i64 y1]] w fun e w' => e = .returned (.bool true) ∧ Below w.heap.size w w' := by
  have HE := Lib.hid he; have HX0 := Lib.hid hx0; have HX1 := Lib.hid hx1
  have G0 := Lib.hid (Args2.start w x0 y0 x1 y1 35 35)
  have HE0 := Lib.hid (HE.out.keep G0.out.bel)
  clear he hx0 hx1 hy0 hy1 HE
  have hc : compM x0 y0 x1 y1 = 0 := comp_no _ _ _ _ (by rw [h0, h]; rfl)
  have HC := Lib.hid hc; have HS := Lib.hid h; have HS0 := Lib.hid h0
  clear hc h h0
  go_enter Tryd.func11, Tryd.ntmps11
  go_wp2_with fail
  refine (first_true _ HE0.out).mono ?_
  rintro e w1 ⟨rfl, hb⟩
  have G1 := Lib.hid (G0.out.keep hb)
  clear hb G0 HE0
  have d00 := G1.out.c00; have d01 := G1.out.c01; have d10 := G1.out.c10; have d11 := G1.out.c11
  go_wp2_with fail
  refine (ref_scale y0 _).mono ?_
  rintro e w2 ⟨rfl, rfl⟩
  rw [HS0.out]
  go_wp2_with fail
  refine (ref_scale y1 _).mono ?_
  rintro e w2 ⟨rfl, rfl⟩
  rw [HS.out]
  go_wp2_with fail
  refine (dec_compare x0 y0 x1 y1 _ HX0.out HX1.out).mono ?_
  rintro e w2 ⟨rfl, hb⟩
  have G2 := Lib.hid (G1.out.keep hb)
  clear hb G1
  clear d00 d01 d10 d11
  have d00 := G2.out.c00; have d01 := G2.out.c01; have d10 := G2.out.c10; have d11 := G2.out.c11
  rw [HC.out]
  go_wp2
  go_ret
  refine ⟨?_, G2.out.bel⟩
  first | rfl | simp

set_option maxRecDepth 100000 in
set_option maxHeartbeats 1000000 in
theorem walk_yes (x0 y0 x1 y1 : Int) (w : World) (he : Env w) (hx0 : i64 x0) (hy0 : i64 y0) (hx1 : i64 x1) (hy1 : i64 y1) (h0 : scB y0 = true) (h1 : scB y1 = true) :
    Calls Tryd.prog 11 #[.agg #[.int .i64 x0, .int .i64 y0], .agg #[.int .i64 x1, .int .i64 y1]] w fun e w' => e = .returned (.bool true) ∧ Below w.heap.size w w' := by
  have HE := Lib.hid he; have HX0 := Lib.hid hx0; have HX1 := Lib.hid hx1
  have G0 := Lib.hid (Args2.start w x0 y0 x1 y1 35 35)
  have HE0 := Lib.hid (HE.out.keep G0.out.bel)
  clear he hx0 hx1 hy0 hy1 HE
  have h3 := comp_three x0 x1
  obtain ⟨t, hmax⟩ : ∃ t, max y0 y1 = t := ⟨_, rfl⟩
  have ht0 : y0 ≤ t := by omega
  have ht1 : y1 ≤ t := by omega
  have HR0 := Lib.hid (dec_rescale x0 y0 t · HX0.out); have HR1 := Lib.hid (dec_rescale x1 y1 t · HX1.out)
  have i0 := mul_i64 x0 y0 1 0 t
  have i1 := mul_i64 x1 y1 1 0 t
  have hbr := @comp_bring x0 y0 x1 y1 t
  rw [resc_eq] at HR0 HR1 i0 i1
  have hbr2 : (rescM x0 y0 t).2 = 0 → (rescM x1 y1 t).2 = 0 → compM x0 y0 x1 y1 = compM (rescM x0 y0 t).1 t (rescM x1 y1 t).1 t := fun e f => hbr HX0.out HX1.out rfl rfl e f ht0 ht1
  have HBR := Lib.hid hbr2
  have HS0 := Lib.hid h0; have HS1 := Lib.hid h1; have H3 := Lib.hid h3
  have I0 := Lib.hid i0; have I1 := Lib.hid i1
  clear hbr hbr2 i0 i1 h0 h1 h3 ht0 ht1
  revert HR0 HR1 HBR I0 I1
  generalize rescM x0 y0 t = p
  generalize rescM x1 y1 t = q
  obtain ⟨p1, p2⟩ := p
  obtain ⟨q1, q2⟩ := q
  intro HR0 HR1 HBR I0 I1
  have hic : (icmp x0 x1 = -1 ∧ x0 < x1) ∨ (icmp x0 x1 = 1 ∧ x1 < x0) ∨ (icmp x0 x1 = 0 ∧ x0 = x1) := by
    unfold icmp; split
    · exact .inl ⟨rfl, by assumption⟩
    · split
      · exact .inr (.inl ⟨rfl, by assumption⟩)
      · exact .inr (.inr ⟨rfl, by omega⟩)
  have hq : ∃ k0 k1 : Bool, (x0 < x1 ↔ k0 = true) ∧ (x1 < x0 ↔ k1 = true) ∧ decide (x0 < x1) = k0 ∧ decide (x1 < x0) = k1 ∧ icmp x0 x1 = (if k0 then -1 else if k1 then 1 else 0) ∧ ¬ (k0 = true ∧ k1 = true) := by
    refine ⟨decide (x0 < x1), decide (x1 < x0), by simp, by simp, rfl, rfl, ?_, by simp; omega⟩
    rcases hic with ⟨e, h⟩ | ⟨e, h⟩ | ⟨e, h⟩
    · rw [e, decide_eq_true h]; rfl
    · rw [e, decide_eq_false (by omega), decide_eq_true h]; rfl
    · rw [e, decide_eq_false (by omega), decide_eq_false (by omega)]; rfl
  obtain ⟨k0, k1, hk0, hk1, qk0, qk1, hkc, hkk⟩ := hq
  rw [hkc] at H3
  clear hic hkc hk0 hk1
  cases k0 <;> cases k1
  all_goals first | (exact absurd ⟨rfl, rfl⟩ hkk) | skip
  all_goals clear hkk
  all_goals
    have H3b := H3.out
    simp only [Bool.false_eq_true, if_false, if_true, reduceIte] at H3b
    have H3c := Lib.hid H3b
    clear H3b H3
  all_goals by_cases hp : p2 = 0
  all_goals by_cases hq : q2 = 0
  all_goals
    first
    | (have HB2 := Lib.hid (HBR.out hp hq); subst hp; subst hq)
    | (have e1 : (p2 != 0) = true := (by simpa using hp); have e2 : (p2 == 0) = false := (by simpa using hp))
    | (subst hp; have e1 : (q2 != 0) = true := (by simpa using hq); have e2 : (q2 == 0) = false := (by simpa using hq))
  all_goals clear HBR
  all_goals
    go_enter Tryd.func11, Tryd.ntmps11
    go_wp2_with fail
    refine (first_true _ HE0.out).mono ?_
    rintro e w1 ⟨rfl, hb⟩
    have G1 := Lib.hid (G0.out.keep hb)
    clear hb G0 HE0
    have d00 := G1.out.c00; have d01 := G1.out.c01; have d10 := G1.out.c10; have d11 := G1.out.c11
    go_wp2_with fail
    refine (ref_scale y0 _).mono ?_
    rintro e w2 ⟨rfl, rfl⟩
    rw [HS0.out]
    go_wp2_with fail
    refine (ref_scale y1 _).mono ?_
    rintro e w2 ⟨rfl, rfl⟩
    rw [HS1.out]
    go_wp2_with fail
    refine (dec_compare x0 3 x1 3 _ HX0.out HX1.out).mono ?_
    rintro e w2 ⟨rfl, hb⟩
    have G2 := Lib.hid (G1.out.keep hb)
    clear hb G1
    clear d00 d01 d10 d11
    have d00 := G2.out.c00; have d01 := G2.out.c01; have d10 := G2.out.c10; have d11 := G2.out.c11
    rw [H3c.out]
    go_wp2_with fail
    refine (HR0.out _).mono ?_
    rintro e w3 ⟨rfl, hb⟩
    have G3 := Lib.hid (G2.out.keep hb)
    clear hb G2
    clear d00 d01 d10 d11
    have d00 := G3.out.c00; have d01 := G3.out.c01; have d10 := G3.out.c10; have d11 := G3.out.c11
    go_wp2_with fail
    refine (HR1.out _).mono ?_
    rintro e w4 ⟨rfl, hb⟩
    have G4 := Lib.hid (G3.out.keep hb)
    clear hb G3
    clear d00 d01 d10 d11
    have d00 := G4.out.c00; have d01 := G4.out.c01; have d10 := G4.out.c10; have d11 := G4.out.c11
    first
    | (go_wp2_with fail
       refine (dec_compare x0 y0 x1 y1 _ HX0.out HX1.out).mono ?_
       rintro e w5 ⟨rfl, hb⟩
       have G5 := Lib.hid (G4.out.keep hb)
       clear hb G4 d00 d01 d10 d11
       go_wp2_with fail
       refine (dec_compare p1 t q1 t _ I0.out I1.out).mono ?_
       rintro e w6 ⟨rfl, hb⟩
       have G6 := Lib.hid (G5.out.keep hb)
       clear hb G5
       rw [← HB2.out]
       generalize compM x0 y0 x1 y1 = c
       go_wp2
       go_ret
       refine ⟨?_, G6.out.bel⟩
       first | rfl | simp)
    | (go_wp2
       go_ret
       refine ⟨?_, G4.out.bel⟩
       first | rfl | simp)

theorem walk (x0 y0 x1 y1 : Int) (w : World) (he : Env w) (hx0 : i64 x0) (hy0 : i64 y0) (hx1 : i64 x1) (hy1 : i64 y1) :
    Calls Tryd.prog 11 #[.agg #[.int .i64 x0, .int .i64 y0], .agg #[.int .i64 x1, .int .i64 y1]] w fun e w' => e = .returned (.bool true) ∧ Below w.heap.size w w' := by
  cases h0 : scB y0
  · exact walk_no0 x0 y0 x1 y1 w he hx0 hy0 hx1 hy1 h0
  cases h1 : scB y1
  · exact walk_no1 x0 y0 x1 y1 w he hx0 hy0 hx1 hy1 h0 h1
  · exact walk_yes x0 y0 x1 y1 w he hx0 hy0 hx1 hy1 h0 h1

set_option maxRecDepth 100000 in
theorem lifted (os : Os) (started : os.Started) (H : Type) (enc : TypeId × Value → H) :
    ReturnsInHanded {} Tryd.checked os 11 .any (fun w args => (Rows.decimalOrdersSpec.pre enc Tryd.prog Tryd.f11 [] false w args ∧ laidMetH Tryd.prog laidL w) ∧ sizedMet enc Tryd.prog Tryd.f11 (OpenSpec.ofChange Rows.decimalOrdersSpec) false w args)
      (Rows.decimalOrdersSpec.post enc Tryd.prog Tryd.f11 false true false false) := by
  refine wrap (C := Tryd.checked) (X := fun w _ => laidMetH Tryd.prog laidL w) (fun _ _ _ hh h => h.of_heap hh) own started (by kernel_rfl) Tryd.func11
    (ChangeSpec.witness_shaped (enc := enc) (C := Tryd.checked) (os := os) (X := fun w _ => laidMetH Tryd.prog laidL w) false (World.laidAll Tryd.prog os laidL) #[.agg #[.int .i64 0, .int .i64 0], .agg #[.int .i64 0, .int .i64 0]] 8 (World.laidAll_os _ _ _)
      (World.shaped_of_ZipB (by kernel_rfl) (by kernel_rfl)) (by kernel_rfl) (by kernel_rfl) (by kernel_rfl)
      (by rw [MakeChecks.laidMetH_plain _ _ _ (by kernel_rfl)]; exact laidMet_laidAll _ (by kernel_rfl) (by kernel_rfl))) ?_
  intro W base args ds gs before hval0 hW hL hsh
  have hval : ∀ (j : Nat) t v, Tryd.f11.params[j]? = some t → args[j]? = some v → Value.okWide Tryd.prog W .any base t v := hval0
  have hW' := hW
  obtain ⟨p, q, hA0, hV, rfl, hfz, hnd⟩ := hW
  have hA : DataW.TrodAll enc Tryd.prog W 0 (fun _ => true) true Tryd.f11.params.toList args.toList ds p := hA0
  rw [Tryd.params11] at hA hval
  obtain ⟨v0, vs0, d0, ds0, p0, q0, hargs, rfl, rfl, h0, r0⟩ := trodAll_cons hA
  obtain ⟨v1, vs1, d1, ds1, p1, q1, rfl, rfl, rfl, h1, r1⟩ := trodAll_cons r0
  obtain ⟨rfl, rfl, rfl⟩ := trodAll_nil r1
  obtain rfl : args = #[v0, v1] := by cases args; simp_all
  obtain ⟨rfl, rfl⟩ := trodVars_none hV
  obtain ⟨x0, y0, rfl, rfl, rfl, w0, u0⟩ := open_pair pairKey Tryd.underlying3 (hval 0 35 v0 rfl rfl) h0
  obtain ⟨x1, y1, rfl, rfl, rfl, w1, u1⟩ := open_pair pairKey Tryd.underlying3 (hval 1 35 v1 rfl rfl) h1
  clear hA0 hval0
  refine (walk x0 y0 x1 y1 W (env_of hL hsh) (wf_i64 x0 w0) (wf_i64 y0 u0) (wf_i64 x1 w1) (wf_i64 y1 u1)).mono fun e W' ⟨he, bel⟩ => ?_
  subst he
  exact ⟨_, rfl, _, _, _, [], _, [], hW', trodAll_mk1 (shut_bool Tryd.underlying4 _), (trodAll_cons_mk (shut_pair pairKey Tryd.underlying3 w0 u0) (trodAll_cons_mk (shut_pair pairKey Tryd.underlying3 w1 u1) trodAll_mk0)), rfl, bel.frame _, fun h => by cases h⟩

theorem over : Rows.decimalOrdersRow.holds Tryd.pinned (OpenSpec.ofChange Rows.decimalOrdersSpec) :=
  OpenClaim.holds_of_wide 11 Tryd.f11 rfl rfl rfl rfl rfl rfl rfl ⟨rfl, rfl, rfl, rfl, rfl⟩ rfl rfl rfl rfl rfl (by kernel_rfl) Tryd.func11 (by kernel_rfl)
    (of_decide_eq_true (by kernel_rfl)) (by unfold Func.isWrapper; first | (rw [if_pos (by decide +kernel)]; kernel_rfl) | (rw [if_neg (by decide +kernel)]; exact ⟨rfl, rfl⟩))
    (fun os started H enc _ => lifted os started H enc)

theorem proved : Rows.DecimalOrdersCardSaid :=
  Claim7.holds_tied_plain_at .later [] [.data, .data, .data, .data, .sentinel, .sentinel, .pinned] true Rows.decimalOrdersCard.stood.harness Rows.decimalOrdersCard.stood.looks
    over (fun _ h => by cases h) (by kernel_rfl) (fun _ h => by cases h) decimalOrders_row_tie rfl ⟨rfl, rfl⟩ (by kernel_rfl) rfl
    (fun f fn hf hfn => by
      obtain rfl : f = 11 := Option.some.inj ((show Tryd.prog.funcNamed "refit/refitlaw02.DecimalOrders" = some 11 by kernel_rfl).symm.trans hf) |>.symm
      obtain rfl : fn = Tryd.f11 := (Option.some.inj (Tryd.func11.symm.trans hfn)).symm
      exact ⟨by kernel_rfl, fun j t ht => by
        rw [Tryd.params11] at ht
        have hm : t ∈ [35, 35] := by simpa using Array.mem_of_getElem? ht
        have hall : ([35, 35].all fun u => !Tryd.prog.wantsStandIn u) = true := by kernel_rfl
        exact (show Tryd.prog.wantsStandIn t = false by simpa using List.all_eq_true.1 hall t hm)⟩)
    (by kernel_rfl)
end Go.Proofs.YtgkjgaelclfffaaDoor.decimalOrders
