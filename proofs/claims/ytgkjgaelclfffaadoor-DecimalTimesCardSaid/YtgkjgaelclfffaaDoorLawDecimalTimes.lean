/- DecimalTimes returns true for every input: products and quotients, rounded, and their errors are as specified. The listed package-level variables hold what the program's own text lays (tied); no other condition. -/
import Derived.Test.YtgkjgaelclfffaaDoorDecFrame
import Derived.Test.YtgkjgaelclfffaaDoorCards
namespace Go.Proofs.YtgkjgaelclfffaaDoor.decimalTimes
open Go.ChangeShapes Go.WideShapes Go.ChangeAt Go.RowKit Go.WideMaps

set_option maxRecDepth 100000 in
set_option maxHeartbeats 1000000 in
theorem walk (x0 y0 x1 y1 t : Int) (w : World) (he : Env w) (hx0 : i64 x0) (hy0 : i64 y0) (hx1 : i64 x1) (hy1 : i64 y1) (ht : i64 t) :
    Calls Tryd.prog 8 #[.agg #[.int .i64 x0, .int .i64 y0], .agg #[.int .i64 x1, .int .i64 y1], .int .i64 t] w fun e w' => e = .returned (.bool true) ∧ Below w.heap.size w w' := by
  have HE := Lib.hid he; have HX0 := Lib.hid hx0; have HX1 := Lib.hid hx1
  have G0 := Lib.hid (Args2.start w x0 y0 x1 y1 35 35)
  have HE0 := Lib.hid (HE.out.keep G0.out.bel)
  clear he hx0 hx1 hy0 hy1 HE ht
  go_enter Tryd.func8, Tryd.ntmps8
  go_wp2_with fail
  refine (first_true _ HE0.out).mono ?_
  rintro e w1 ⟨rfl, hb⟩
  have G1 := Lib.hid (G0.out.keep hb)
  clear hb G0 HE0
  have d00 := G1.out.c00; have d01 := G1.out.c01; have d10 := G1.out.c10; have d11 := G1.out.c11
  go_wp2_with fail
  refine (dec_mul x0 y0 x1 y1 t _ HX0.out HX1.out).mono ?_
  rintro e w2 ⟨rfl, hb⟩
  have G2 := Lib.hid (G1.out.keep hb)
  clear hb G1
  clear d00 d01 d10 d11
  have d00 := G2.out.c00; have d01 := G2.out.c01; have d10 := G2.out.c10; have d11 := G2.out.c11
  go_wp2_with fail
  refine (ref_mul x0 y0 x1 y1 t _ HX0.out HX1.out).mono ?_
  rintro e w3 ⟨rfl, hb⟩
  have G3 := Lib.hid (G2.out.keep hb)
  clear hb G2
  clear d00 d01 d10 d11
  have d00 := G3.out.c00; have d01 := G3.out.c01; have d10 := G3.out.c10; have d11 := G3.out.c11
  go_wp2_with fail
  refine (dec_div x0 y0 x1 y1 t _ HX0.out HX1.out).mono ?_
  rintro e w4 ⟨rfl, hb⟩
  have G4 := Lib.hid (G3.out.keep hb)
  clear hb G3
  clear d00 d01 d10 d11
  have d00 := G4.out.c00; have d01 := G4.out.c01; have d10 := G4.out.c10; have d11 := G4.out.c11
  go_wp2_with fail
  refine (ref_div x0 y0 x1 y1 t _ HX0.out HX1.out).mono ?_
  rintro e w5 ⟨rfl, hb⟩
  have G5 := Lib.hid (G4.out.keep hb)
  clear hb G4
  clear d00 d01 d10 d11
  have d00 := G5.out.c00; have d01 := G5.out.c01; have d10 := G5.out.c10; have d11 := G5.out.c11
  generalize mulM x0 y0 x1 y1 t = p
  generalize divM x0 y0 x1 y1 t = q
  obtain ⟨p1, p2⟩ := p
  obtain ⟨q1, q2⟩ := q
  go_wp2
  go_ret
  refine ⟨?_, G5.out.bel⟩
  first | rfl | simp

set_option maxRecDepth 100000 in
theorem lifted (os : Os) (started : os.Started) (H : Type) (enc : TypeId × Value → H) :
    ReturnsInHanded {} Tryd.checked os 8 .any (fun w args => (Rows.decimalTimesSpec.pre enc Tryd.prog Tryd.f8 [] false w args ∧ laidMetH Tryd.prog laidL w) ∧ sizedMet enc Tryd.prog Tryd.f8 (OpenSpec.ofChange Rows.decimalTimesSpec) false w args)
      (Rows.decimalTimesSpec.post enc Tryd.prog Tryd.f8 false true false false) := by
  refine wrap (C := Tryd.checked) (X := fun w _ => laidMetH Tryd.prog laidL w) (fun _ _ _ hh h => h.of_heap hh) own started (by kernel_rfl) Tryd.func8
    (ChangeSpec.witness_shaped (enc := enc) (C := Tryd.checked) (os := os) (X := fun w _ => laidMetH Tryd.prog laidL w) false (World.laidAll Tryd.prog os laidL) #[.agg #[.int .i64 0, .int .i64 0], .agg #[.int .i64 0, .int .i64 0], .int .i64 0] 8 (World.laidAll_os _ _ _)
      (World.shaped_of_ZipB (by kernel_rfl) (by kernel_rfl)) (by kernel_rfl) (by kernel_rfl) (by kernel_rfl)
      (by rw [MakeChecks.laidMetH_plain _ _ _ (by kernel_rfl)]; exact laidMet_laidAll _ (by kernel_rfl) (by kernel_rfl))) ?_
  intro W base args ds gs before hval0 hW hL hsh
  have hval : ∀ (j : Nat) t v, Tryd.f8.params[j]? = some t → args[j]? = some v → Value.okWide Tryd.prog W .any base t v := hval0
  have hW' := hW
  obtain ⟨p, q, hA0, hV, rfl, hfz, hnd⟩ := hW
  have hA : DataW.TrodAll enc Tryd.prog W 0 (fun _ => true) true Tryd.f8.params.toList args.toList ds p := hA0
  rw [Tryd.params8] at hA hval
  obtain ⟨v0, vs0, d0, ds0, p0, q0, hargs, rfl, rfl, h0, r0⟩ := trodAll_cons hA
  obtain ⟨v1, vs1, d1, ds1, p1, q1, rfl, rfl, rfl, h1, r1⟩ := trodAll_cons r0
  obtain ⟨v2, vs2, d2, ds2, p2, q2, rfl, rfl, rfl, h2, r2⟩ := trodAll_cons r1
  obtain ⟨rfl, rfl, rfl⟩ := trodAll_nil r2
  obtain rfl : args = #[v0, v1, v2] := by cases args; simp_all
  obtain ⟨rfl, rfl⟩ := trodVars_none hV
  obtain ⟨x0, y0, rfl, rfl, rfl, w0, u0⟩ := open_pair pairKey Tryd.underlying3 (hval 0 35 v0 rfl rfl) h0
  obtain ⟨x1, y1, rfl, rfl, rfl, w1, u1⟩ := open_pair pairKey Tryd.underlying3 (hval 1 35 v1 rfl rfl) h1
  obtain ⟨a2, rfl, rfl, rfl, w2⟩ := open_int Tryd.underlying3 (hval 2 3 v2 rfl rfl) h2
  clear hA0 hval0
  refine (walk x0 y0 x1 y1 a2 W (env_of hL hsh) (wf_i64 x0 w0) (wf_i64 y0 u0) (wf_i64 x1 w1) (wf_i64 y1 u1) (wf_i64 a2 w2)).mono fun e W' ⟨he, bel⟩ => ?_
  subst he
  exact ⟨_, rfl, _, _, _, [], _, [], hW', trodAll_mk1 (shut_bool Tryd.underlying4 _), (trodAll_cons_mk (shut_pair pairKey Tryd.underlying3 w0 u0) (trodAll_cons_mk (shut_pair pairKey Tryd.underlying3 w1 u1) (trodAll_cons_mk (shut_int Tryd.underlying3 w2) trodAll_mk0))), rfl, bel.frame _, fun h => by cases h⟩

theorem over : Rows.decimalTimesRow.holds Tryd.pinned (OpenSpec.ofChange Rows.decimalTimesSpec) :=
  OpenClaim.holds_of_wide 8 Tryd.f8 rfl rfl rfl rfl rfl rfl rfl ⟨rfl, rfl, rfl, rfl, rfl⟩ rfl rfl rfl rfl rfl (by kernel_rfl) Tryd.func8 (by kernel_rfl)
    (of_decide_eq_true (by kernel_rfl)) (by unfold Func.isWrapper; first | (rw [if_pos (by decide +kernel)]; kernel_rfl) | (rw [if_neg (by decide +kernel)]; exact ⟨rfl, rfl⟩))
    (fun os started H enc _ => lifted os started H enc)

theorem proved : Rows.DecimalTimesCardSaid :=
  Claim7.holds_tied_plain_at .later [] [.data, .data, .data, .data, .sentinel, .sentinel, .pinned] true Rows.decimalTimesCard.stood.harness Rows.decimalTimesCard.stood.looks
    over (fun _ h => by cases h) (by kernel_rfl) (fun _ h => by cases h) decimalTimes_row_tie rfl ⟨rfl, rfl⟩ (by kernel_rfl) rfl
    (fun f fn hf hfn => by
      obtain rfl : f = 8 := Option.some.inj ((show Tryd.prog.funcNamed "refit/refitlaw02.DecimalTimes" = some 8 by kernel_rfl).symm.trans hf) |>.symm
      obtain rfl : fn = Tryd.f8 := (Option.some.inj (Tryd.func8.symm.trans hfn)).symm
      exact ⟨by kernel_rfl, fun j t ht => by
        rw [Tryd.params8] at ht
        have hm : t ∈ [35, 35, 3] := by simpa using Array.mem_of_getElem? ht
        have hall : ([35, 35, 3].all fun u => !Tryd.prog.wantsStandIn u) = true := by kernel_rfl
        exact (show Tryd.prog.wantsStandIn t = false by simpa using List.all_eq_true.1 hall t hm)⟩)
    (by kernel_rfl)
end Go.Proofs.YtgkjgaelclfffaaDoor.decimalTimes
