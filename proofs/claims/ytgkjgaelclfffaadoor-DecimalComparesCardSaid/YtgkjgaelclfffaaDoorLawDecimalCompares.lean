/- DecimalCompares returns true for every input: any two decimals compare as specified, and the other way round with the opposite sign. The listed package-level variables hold what the program's own text lays (tied); no other condition. -/
import Derived.Test.YtgkjgaelclfffaaDoorDecFrame
import Derived.Test.YtgkjgaelclfffaaDoorCards
import Derived.Test.YtgkjgaelclfffaaDoorDecLawMath
namespace Go.Proofs.YtgkjgaelclfffaaDoor.decimalCompares
open Go.ChangeShapes Go.WideShapes Go.ChangeAt Go.RowKit Go.WideMaps

set_option maxRecDepth 100000 in
set_option maxHeartbeats 1000000 in
theorem walk (x0 y0 x1 y1 : Int) (w : World) (he : Env w) (hx0 : i64 x0) (hy0 : i64 y0) (hx1 : i64 x1) (hy1 : i64 y1) :
    Calls Tryd.prog 6 #[.agg #[.int .i64 x0, .int .i64 y0], .agg #[.int .i64 x1, .int .i64 y1]] w fun e w' => e = .returned (.bool true) ∧ Below w.heap.size w w' := by
  have HE := Lib.hid he; have HX0 := Lib.hid hx0; have HX1 := Lib.hid hx1
  have G0 := Lib.hid (Args2.start w x0 y0 x1 y1 35 35)
  have HE0 := Lib.hid (HE.out.keep G0.out.bel)
  clear he hx0 hx1 hy0 hy1 HE
  have HN := Lib.hid (comp_anti x0 y0 x1 y1)
  have hr1 := comp_range x0 y0 x1 y1
  go_enter Tryd.func6, Tryd.ntmps6
  go_wp2_with fail
  refine (first_true _ HE0.out).mono ?_
  rintro e w1 ⟨rfl, hb⟩
  have G1 := Lib.hid (G0.out.keep hb)
  clear hb G0 HE0
  have d00 := G1.out.c00; have d01 := G1.out.c01; have d10 := G1.out.c10; have d11 := G1.out.c11
  go_wp2_with fail
  refine (dec_compare x0 y0 x1 y1 _ HX0.out HX1.out).mono ?_
  rintro e w2 ⟨rfl, hb⟩
  have G2 := Lib.hid (G1.out.keep hb)
  clear hb G1
  clear d00 d01 d10 d11
  have d00 := G2.out.c00; have d01 := G2.out.c01; have d10 := G2.out.c10; have d11 := G2.out.c11
  go_wp2_with fail
  refine (ref_compare x0 y0 x1 y1 _ HX0.out HX1.out).mono ?_
  rintro e w3 ⟨rfl, hb⟩
  have G3 := Lib.hid (G2.out.keep hb)
  clear hb G2
  clear d00 d01 d10 d11
  have d00 := G3.out.c00; have d01 := G3.out.c01; have d10 := G3.out.c10; have d11 := G3.out.c11
  have qc : (compM x0 y0 x1 y1 == compM x0 y0 x1 y1) = true := by simp
  go_wp2_with fail
  refine (dec_compare x1 y1 x0 y0 _ HX1.out HX0.out).mono ?_
  rintro e w4 ⟨rfl, hb⟩
  have G4 := Lib.hid (G3.out.keep hb)
  clear hb G3
  clear d00 d01 d10 d11
  have d00 := G4.out.c00; have d01 := G4.out.c01; have d10 := G4.out.c10; have d11 := G4.out.c11
  rw [HN.out]
  clear qc
  revert hr1
  generalize compM x0 y0 x1 y1 = c
  intro hr1
  obtain ⟨r1, r2⟩ := hr1
  go_wp2
  go_ret
  refine ⟨?_, G4.out.bel⟩
  first | rfl | simp

set_option maxRecDepth 100000 in
theorem lifted (os : Os) (started : os.Started) (H : Type) (enc : TypeId × Value → H) :
    ReturnsInHanded {} Tryd.checked os 6 .any (fun w args => (Rows.decimalComparesSpec.pre enc Tryd.prog Tryd.f6 [] false w args ∧ laidMetH Tryd.prog laidL w) ∧ sizedMet enc Tryd.prog Tryd.f6 (OpenSpec.ofChange Rows.decimalComparesSpec) false w args)
      (Rows.decimalComparesSpec.post enc Tryd.prog Tryd.f6 false true false false) := by
  refine wrap (C := Tryd.checked) (X := fun w _ => laidMetH Tryd.prog laidL w) (fun _ _ _ hh h => h.of_heap hh) own started (by kernel_rfl) Tryd.func6
    (ChangeSpec.witness_shaped (enc := enc) (C := Tryd.checked) (os := os) (X := fun w _ => laidMetH Tryd.prog laidL w) false (World.laidAll Tryd.prog os laidL) #[.agg #[.int .i64 0, .int .i64 0], .agg #[.int .i64 0, .int .i64 0]] 8 (World.laidAll_os _ _ _)
      (World.shaped_of_ZipB (by kernel_rfl) (by kernel_rfl)) (by kernel_rfl) (by kernel_rfl) (by kernel_rfl)
      (by rw [MakeChecks.laidMetH_plain _ _ _ (by kernel_rfl)]; exact laidMet_laidAll _ (by kernel_rfl) (by kernel_rfl))) ?_
  intro W base args ds gs before hval0 hW hL hsh
  have hval : ∀ (j : Nat) t v, Tryd.f6.params[j]? = some t → args[j]? = some v → Value.okWide Tryd.prog W .any base t v := hval0
  have hW' := hW
  obtain ⟨p, q, hA0, hV, rfl, hfz, hnd⟩ := hW
  have hA : DataW.TrodAll enc Tryd.prog W 0 (fun _ => true) true Tryd.f6.params.toList args.toList ds p := hA0
  rw [Tryd.params6] at hA hval
  obtain ⟨v0, vs0, d0, ds0, p0, q0, hargs, rfl, rfl, h0, r0⟩ := trodAll_cons hA
  obtain ⟨v1, vs1, d1, ds1, p1, q1, rfl, rfl, rfl, h1, r1⟩ := trodAll_cons r0
  obtain ⟨rfl, rfl, rfl⟩ := trodAll_nil r1
  obtain rfl : args = #[v0, v1] := by cases args; simp_all
  obtain ⟨rfl, rfl⟩ := trodVars_none hV
  obtain ⟨x0, y0, rfl, rfl, rfl, w0, u0⟩ := open_pair pairKey Tryd.underlying3 (hval 0 35 v0 rfl rfl) h0
  obtain ⟨x1, y1, rfl, rfl, rfl, w1, u1⟩ := open_pair pairKey Tryd.underlying3 (hval 1 35 v1 rfl rfl) h1
  clear hA0 hval0
  refine (walk x0 y0 x1 y1 W (env_of hL hsh) (wf_i64 x0 w0) (wf_i64 y0 u0) (wf_i64 x1 w1) (wf_i64 y1 u1)).mono fun e W' ⟨he, bel⟩ => ?_
  subst he
  exact ⟨_, rfl, _, _, _, [], _, [], hW', trodAll_mk1 (shut_bool Tryd.underlying4 _), (trodAll_cons_mk (shut_pair pairKey Tryd.underlying3 w0 u0) (trodAll_cons_mk (shut_pair pairKey Tryd.underlying3 w1 u1) trodAll_mk0)), rfl, bel.frame _, fun h => by cases h⟩

theorem over : Rows.decimalComparesRow.holds Tryd.pinned (OpenSpec.ofChange Rows.decimalComparesSpec) :=
  OpenClaim.holds_of_wide 6 Tryd.f6 rfl rfl rfl rfl rfl rfl rfl ⟨rfl, rfl, rfl, rfl, rfl⟩ rfl rfl rfl rfl rfl (by kernel_rfl) Tryd.func6 (by kernel_rfl)
    (of_decide_eq_true (by kernel_rfl)) (by unfold Func.isWrapper; first | (rw [if_pos (by decide +kernel)]; kernel_rfl) | (rw [if_neg (by decide +kernel)]; exact ⟨rfl, rfl⟩))
    (fun os started H enc _ => lifted os started H enc)

theorem proved : Rows.DecimalComparesCardSaid :=
  Claim7.holds_tied_plain_at .later [] [.data, .data, .data, .data, .sentinel, .sentinel, .pinned] true Rows.decimalComparesCard.stood.harness Rows.decimalComparesCard.stood.looks
    over (fun _ h => by cases h) (by kernel_rfl) (fun _ h => by cases h) decimalCompares_row_tie rfl ⟨rfl, rfl⟩ (by kernel_rfl) rfl
    (fun f fn hf hfn => by
      obtain rfl : f = 6 := Option.some.inj ((show Tryd.prog.funcNamed "refit/refitlaw02.DecimalCompares" = some 6 by kernel_rfl).symm.trans hf) |>.symm
      obtain rfl : fn = Tryd.f6 := (Option.some.inj (Tryd.func6.symm.trans hfn)).symm
      exact ⟨by kernel_rfl, fun j t ht => by
        rw [Tryd.params6] at ht
        have hm : t ∈ [35, 35] := by simpa using Array.mem_of_getElem? ht
        have hall : ([35, 35].all fun u => !Tryd.prog.wantsStandIn u) = true := by kernel_rfl
        exact (show Tryd.prog.wantsStandIn t = false by simpa using List.all_eq_true.1 hall t hm)⟩)
    (by kernel_rfl)
end Go.Proofs.YtgkjgaelclfffaaDoor.decimalCompares
