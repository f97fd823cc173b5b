/- DecimalPrints returns true for every input: the string of any decimal is the specified one and is parsed again. The listed package-level variables hold what the program's own text lays (tied); no other condition. -/
import Derived.Test.YtgkjgaelclfffaaDoorDecFrame
import Derived.Test.YtgkjgaelclfffaaDoorCards
import Derived.Test.YtgkjgaelclfffaaDoorDecPrMath
import Derived.Test.YtgkjgaelclfffaaDoorDecS4
namespace Go.Proofs.YtgkjgaelclfffaaDoor.decimalPrints
open Go.ChangeShapes Go.WideShapes Go.ChangeAt Go.RowKit Go.WideMaps

/-- Print, both, and Parse behind it, at a string with a name -/
theorem print_named (n s : Int) (hn : i64 n) : ∃ S : ByteArray,
    (∀ w, Env w → Calls Tryd.prog 15 #[.int .i64 n, .int .i64 s] w fun e w' => e = .returned (.string S) ∧ Below w.heap.size w w') ∧
    (∀ w, Calls Tryd.prog 16 #[.int .i64 n, .int .i64 s] w fun e w' => e = .returned (.string S) ∧ Below w.heap.size w w') ∧
    (∀ w, Env w → Calls Tryd.prog 13 #[.string S] w (Par (if scB s then (n, s, true) else (0, 0, false)) w)) := by
  refine ⟨bstr (printM n s), fun w he => (dec_print n s w he hn).mono fun e w' h => h, fun w => (ref_print n s w hn).mono fun e w' h => h, fun w he => ?_⟩
  have h := dec_parse (bstr (printM n s)) w he (by rw [bstr_size]; have := print_len n s hn; omega)
  rw [bstr_data, print_back n s hn] at h
  exact h

set_option maxRecDepth 100000 in
set_option maxHeartbeats 1000000 in
theorem walk (n s : Int) (w : World) (he : Env w) (hn : i64 n) (hs : i64 s) :
    Calls Tryd.prog 4 #[.int .i64 n, .int .i64 s] w fun e w' => e = .returned (.bool true) ∧ Below w.heap.size w w' := by
  have HE := Lib.hid he
  obtain ⟨S, hp, hq, hr⟩ := print_named n s hn
  cases hc : scB s
  · rw [hc] at hr
    have HR : Hid (∀ w, Env w → Calls Tryd.prog 13 #[.string S] w (Par (0, 0, false) w)) := hr
    have HP := Lib.hid hp; have HQ := Lib.hid hq; have HS := Lib.hid hc
    clear he hn hs hp hq hr hc
    go_enter Tryd.func4, Tryd.ntmps4
    go_wp2_with fail
    refine (first_true _ HE.out).mono ?_
    rintro e w1 ⟨rfl, hb⟩
    have HB1 := Lib.hid hb
    have HE1 := Lib.hid (HE.out.keep hb)
    clear hb HE
    go_wp2_with fail
    refine (HP.out _ HE1.out).mono ?_
    rintro e w2 ⟨rfl, hb⟩
    have HB2 := Lib.hid (HB1.out.trans (hb.mono HB1.out.size)); have HE2 := Lib.hid (HE1.out.keep hb)
    clear hb HB1 HE1 HP
    go_wp2_with fail
    refine (HQ.out _).mono ?_
    rintro e w3 ⟨rfl, hb⟩
    have HB3 := Lib.hid (HB2.out.trans (hb.mono HB2.out.size)); have HE3 := Lib.hid (HE2.out.keep hb)
    clear hb HB2 HE2 HQ
    have qs : (S.toList == S.toList) = true := by simp
    go_wp2_with fail
    refine (dec_right s _).mono ?_
    rintro e w4 ⟨rfl, rfl⟩
    rw [HS.out]
    go_wp2_with fail
    refine (ref_scale s _).mono ?_
    rintro e w4 ⟨rfl, rfl⟩
    rw [HS.out]
    go_wp2_with fail
    refine (HR.out _ HE3.out).mono ?_
    rintro e w5 ⟨rfl, hb⟩
    have HB5 := Lib.hid (HB3.out.trans (hb.mono HB3.out.size))
    clear hb HB3 HE3 HR qs
    go_wp2_with fail
    refine (ref_scale s _).mono ?_
    rintro e w6 ⟨rfl, rfl⟩
    rw [HS.out]
    go_wp2
    go_ret
    refine ⟨?_, HB5.out⟩
    first | rfl | simp
  · rw [hc] at hr
    have HR : Hid (∀ w, Env w → Calls Tryd.prog 13 #[.string S] w (Par (n, s, true) w)) := hr
    have HP := Lib.hid hp; have HQ := Lib.hid hq; have HS := Lib.hid hc
    clear he hn hs hp hq hr hc
    go_enter Tryd.func4, Tryd.ntmps4
    go_wp2_with fail
    refine (first_true _ HE.out).mono ?_
    rintro e w1 ⟨rfl, hb⟩
    have HB1 := Lib.hid hb
    have HE1 := Lib.hid (HE.out.keep hb)
    clear hb HE
    go_wp2_with fail
    refine (HP.out _ HE1.out).mono ?_
    rintro e w2 ⟨rfl, hb⟩
    have HB2 := Lib.hid (HB1.out.trans (hb.mono HB1.out.size)); have HE2 := Lib.hid (HE1.out.keep hb)
    clear hb HB1 HE1 HP
    go_wp2_with fail
    refine (HQ.out _).mono ?_
    rintro e w3 ⟨rfl, hb⟩
    have HB3 := Lib.hid (HB2.out.trans (hb.mono HB2.out.size)); have HE3 := Lib.hid (HE2.out.keep hb)
    clear hb HB2 HE2 HQ
    have qs : (S.toList == S.toList) = true := by simp
    go_wp2_with fail
    refine (dec_right s _).mono ?_
    rintro e w4 ⟨rfl, rfl⟩
    rw [HS.out]
    go_wp2_with fail
    refine (ref_scale s _).mono ?_
    rintro e w4 ⟨rfl, rfl⟩
    rw [HS.out]
    go_wp2_with fail
    refine (HR.out _ HE3.out).mono ?_
    rintro e w5 ⟨rfl, hb⟩
    have HB5 := Lib.hid (HB3.out.trans (hb.mono HB3.out.size))
    clear hb HB3 HE3 HR qs
    go_wp2_with fail
    refine (ref_scale s _).mono ?_
    rintro e w6 ⟨rfl, rfl⟩
    rw [HS.out]
    go_wp2
    go_ret
    refine ⟨?_, HB5.out⟩
    first | rfl | simp

set_option maxRecDepth 100000 in
theorem lifted (os : Os) (started : os.Started) (H : Type) (enc : TypeId × Value → H) :
    ReturnsInHanded {} Tryd.checked os 4 .any (fun w args => (Rows.decimalPrintsSpec.pre enc Tryd.prog Tryd.f4 [] false w args ∧ laidMetH Tryd.prog laidL w) ∧ sizedMet enc Tryd.prog Tryd.f4 (OpenSpec.ofChange Rows.decimalPrintsSpec) false w args)
      (Rows.decimalPrintsSpec.post enc Tryd.prog Tryd.f4 false true false false) := by
  refine wrap (C := Tryd.checked) (X := fun w _ => laidMetH Tryd.prog laidL w) (fun _ _ _ hh h => h.of_heap hh) own started (by kernel_rfl) Tryd.func4
    (ChangeSpec.witness_shaped (enc := enc) (C := Tryd.checked) (os := os) (X := fun w _ => laidMetH Tryd.prog laidL w) false (World.laidAll Tryd.prog os laidL) #[.int .i64 0, .int .i64 0] 8 (World.laidAll_os _ _ _)
      (World.shaped_of_ZipB (by kernel_rfl) (by kernel_rfl)) (by kernel_rfl) (by kernel_rfl) (by kernel_rfl)
      (by rw [MakeChecks.laidMetH_plain _ _ _ (by kernel_rfl)]; exact laidMet_laidAll _ (by kernel_rfl) (by kernel_rfl))) ?_
  intro W base args ds gs before hval0 hW hL hsh
  have hval : ∀ (j : Nat) t v, Tryd.f4.params[j]? = some t → args[j]? = some v → Value.okWide Tryd.prog W .any base t v := hval0
  have hW' := hW
  obtain ⟨p, q, hA0, hV, rfl, hfz, hnd⟩ := hW
  have hA : DataW.TrodAll enc Tryd.prog W 0 (fun _ => true) true Tryd.f4.params.toList args.toList ds p := hA0
  rw [Tryd.params4] at hA hval
  obtain ⟨v0, vs0, d0, ds0, p0, q0, hargs, rfl, rfl, h0, r0⟩ := trodAll_cons hA
  obtain ⟨v1, vs1, d1, ds1, p1, q1, rfl, rfl, rfl, h1, r1⟩ := trodAll_cons r0
  obtain ⟨rfl, rfl, rfl⟩ := trodAll_nil r1
  obtain rfl : args = #[v0, v1] := by cases args; simp_all
  obtain ⟨rfl, rfl⟩ := trodVars_none hV
  obtain ⟨a0, rfl, rfl, rfl, w0⟩ := open_int Tryd.underlying3 (hval 0 3 v0 rfl rfl) h0
  obtain ⟨a1, rfl, rfl, rfl, w1⟩ := open_int Tryd.underlying3 (hval 1 3 v1 rfl rfl) h1
  clear hA0 hval0
  refine (walk a0 a1 W (env_of hL hsh) (wf_i64 a0 w0) (wf_i64 a1 w1)).mono fun e W' ⟨he, bel⟩ => ?_
  subst he
  exact ⟨_, rfl, _, _, _, [], _, [], hW', trodAll_mk1 (shut_bool Tryd.underlying4 _), (trodAll_cons_mk (shut_int Tryd.underlying3 w0) (trodAll_cons_mk (shut_int Tryd.underlying3 w1) trodAll_mk0)), rfl, bel.frame _, fun h => by cases h⟩

theorem over : Rows.decimalPrintsRow.holds Tryd.pinned (OpenSpec.ofChange Rows.decimalPrintsSpec) :=
  OpenClaim.holds_of_wide 4 Tryd.f4 rfl rfl rfl rfl rfl rfl rfl ⟨rfl, rfl, rfl, rfl, rfl⟩ rfl rfl rfl rfl rfl (by kernel_rfl) Tryd.func4 (by kernel_rfl)
    (of_decide_eq_true (by kernel_rfl)) (by unfold Func.isWrapper; first | (rw [if_pos (by decide +kernel)]; kernel_rfl) | (rw [if_neg (by decide +kernel)]; exact ⟨rfl, rfl⟩))
    (fun os started H enc _ => lifted os started H enc)

theorem proved : Rows.DecimalPrintsCardSaid :=
  Claim7.holds_tied_plain_at .later [] [.data, .data, .data, .data, .sentinel, .sentinel, .pinned] true Rows.decimalPrintsCard.stood.harness Rows.decimalPrintsCard.stood.looks
    over (fun _ h => by cases h) (by kernel_rfl) (fun _ h => by cases h) decimalPrints_row_tie rfl ⟨rfl, rfl⟩ (by kernel_rfl) rfl
    (fun f fn hf hfn => by
      obtain rfl : f = 4 := Option.some.inj ((show Tryd.prog.funcNamed "refit/refitlaw02.DecimalPrints" = some 4 by kernel_rfl).symm.trans hf) |>.symm
      obtain rfl : fn = Tryd.f4 := (Option.some.inj (Tryd.func4.symm.trans hfn)).symm
      exact ⟨by kernel_rfl, fun j t ht => by
        rw [Tryd.params4] at ht
        have hm : t ∈ [3, 3] := by simpa using Array.mem_of_getElem? ht
        have hall : ([3, 3].all fun u => !Tryd.prog.wantsStandIn u) = true := by kernel_rfl
        exact (show Tryd.prog.wantsStandIn t = false by simpa using List.all_eq_true.1 hall t hm)⟩)
    (by kernel_rfl)
end Go.Proofs.YtgkjgaelclfffaaDoor.decimalPrints
