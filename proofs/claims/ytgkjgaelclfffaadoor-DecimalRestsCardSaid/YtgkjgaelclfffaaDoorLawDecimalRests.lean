/- DecimalRests returns true for every input: the remainder is less than the divisor and has the sign of the dividend. The listed package-level variables hold what the program's own text lays (tied); no other condition. -/
import Derived.Test.YtgkjgaelclfffaaDoorDecFrame
import Derived.Test.YtgkjgaelclfffaaDoorCards
import Derived.Test.YtgkjgaelclfffaaDoorDecLawMath
namespace Go.Proofs.YtgkjgaelclfffaaDoor.decimalRests
open Go.ChangeShapes Go.WideShapes Go.ChangeAt Go.RowKit Go.WideMaps

set_option maxRecDepth 100000 in
set_option maxHeartbeats 4000000 in
theorem walk (a b : Int) (w : World) (he : Env w) (ha : i64 a) (hb : i64 b) :
    Calls Tryd.prog 9 #[.int .i64 a, .int .i64 b] w fun e w' => e = .returned (.bool true) ∧ Below w.heap.size w w' := by
  have HE := Lib.hid he
  have HM := Lib.hid (dec_mod a b · ha hb)
  by_cases h0 : b = 0
  · have e0 : modM a b = (0, 21) := by unfold modM; rw [if_pos h0]
    rw [e0] at HM
    have q : (b == 0) = true := by simpa using h0
    clear he ha hb e0 h0
    go_enter Tryd.func9, Tryd.ntmps9
    go_wp2_with fail
    refine (first_true _ HE.out).mono ?_
    rintro e w1 ⟨rfl, hb⟩
    have HB1 := Lib.hid hb
    clear hb HE
    go_wp2_with fail
    refine (HM.out _).mono ?_
    rintro e w2 ⟨rfl, rfl⟩
    clear HM
    go_wp2
    go_ret
    refine ⟨?_, HB1.out⟩
    first | rfl | simp
  · have e0 : modM a b = (a.tmod b, 0) := by unfold modM; rw [if_neg h0]
    rw [e0] at HM
    have q : (b == 0) = false := by simpa using h0
    have R := rest a b ha hb h0
    have HS := Lib.hid (dec_sub a (a.tmod b) · ha R.i)
    have es : diffM a (a.tmod b) = (a - a.tmod b, 0) := by
      rw [diff_eq a _ ha R.i]; unfold inM; rw [if_pos ⟨R.sub.1, R.sub.2⟩]
    rw [es] at HS
    have HM2 := Lib.hid (dec_mod (a - a.tmod b) b · R.sub hb)
    have e2 : modM (a - a.tmod b) b = (0, 0) := by unfold modM; rw [if_neg h0, R.zero]
    rw [e2] at HM2
    obtain ⟨a1, a2⟩ := ha
    obtain ⟨b1, b2⟩ := hb
    clear he e0 es e2
    revert R HS HM HM2
    generalize a.tmod b = r
    intro HM R HS HM2
    obtain ⟨⟨r1, r2⟩, up, down, pos, neg, ⟨s1, s2⟩, _⟩ := R
    obtain ⟨d, hd⟩ : ∃ d, d = a - r := ⟨_, rfl⟩
    rw [← hd] at HS HM2
    clear hd s1 s2
    have n1 : r < 0 → a < 0 := fun h => Decidable.byContradiction fun h' => by have := up (by omega); omega
    have n2 : 0 < r → 0 ≤ a := fun h => Decidable.byContradiction fun h' => by have := down (by omega); omega
    by_cases hbp : 0 < b
    · obtain ⟨p1, p2⟩ := pos hbp
      clear up down pos neg
      by_cases hr : r < 0
      all_goals by_cases ha0 : 0 ≤ a
      all_goals first | omega | skip
      all_goals by_cases hr0 : 0 < r
      all_goals first | omega | skip
      all_goals clear n1 n2
      all_goals
        go_enter Tryd.func9, Tryd.ntmps9
        go_wp2_with fail
        refine (first_true _ HE.out).mono ?_
        rintro e w1 ⟨rfl, hb⟩
        have HB1 := Lib.hid hb
        clear hb HE
        go_wp2_with fail
        refine (HM.out _).mono ?_
        rintro e w2 ⟨rfl, rfl⟩
        clear HM
        go_wp2_with fail
        refine (HS.out _).mono ?_
        rintro e w2 ⟨rfl, rfl⟩
        clear HS
        go_wp2_with fail
        refine (HM2.out _).mono ?_
        rintro e w2 ⟨rfl, rfl⟩
        clear HM2
        go_wp2
        go_ret
        refine ⟨?_, HB1.out⟩
        first | rfl | simp
    · have hbn : b < 0 := by omega
      obtain ⟨p1, p2⟩ := neg hbn
      clear up down pos neg
      by_cases hr : r < 0
      all_goals by_cases ha0 : 0 ≤ a
      all_goals first | omega | skip
      all_goals by_cases hr0 : 0 < r
      all_goals first | omega | skip
      all_goals clear n1 n2
      all_goals
        go_enter Tryd.func9, Tryd.ntmps9
        go_wp2_with fail
        refine (first_true _ HE.out).mono ?_
        rintro e w1 ⟨rfl, hb⟩
        have HB1 := Lib.hid hb
        clear hb HE
        go_wp2_with fail
        refine (HM.out _).mono ?_
        rintro e w2 ⟨rfl, rfl⟩
        clear HM
        go_wp2_with fail
        refine (HS.out _).mono ?_
        rintro e w2 ⟨rfl, rfl⟩
        clear HS
        go_wp2_with fail
        refine (HM2.out _).mono ?_
        rintro e w2 ⟨rfl, rfl⟩
        clear HM2
        go_wp2
        go_ret
        refine ⟨?_, HB1.out⟩
        first | rfl | simp

set_option maxRecDepth 100000 in
theorem lifted (os : Os) (started : os.Started) (H : Type) (enc : TypeId × Value → H) :
    ReturnsInHanded {} Tryd.checked os 9 .any (fun w args => (Rows.decimalRestsSpec.pre enc Tryd.prog Tryd.f9 [] false w args ∧ laidMetH Tryd.prog laidL w) ∧ sizedMet enc Tryd.prog Tryd.f9 (OpenSpec.ofChange Rows.decimalRestsSpec) false w args)
      (Rows.decimalRestsSpec.post enc Tryd.prog Tryd.f9 false true false false) := by
  refine wrap (C := Tryd.checked) (X := fun w _ => laidMetH Tryd.prog laidL w) (fun _ _ _ hh h => h.of_heap hh) own started (by kernel_rfl) Tryd.func9
    (ChangeSpec.witness_shaped (enc := enc) (C := Tryd.checked) (os := os) (X := fun w _ => laidMetH Tryd.prog laidL w) false (World.laidAll Tryd.prog os laidL) #[.int .i64 0, .int .i64 0] 8 (World.laidAll_os _ _ _)
      (World.shaped_of_ZipB (by kernel_rfl) (by kernel_rfl)) (by kernel_rfl) (by kernel_rfl) (by kernel_rfl)
      (by rw [MakeChecks.laidMetH_plain _ _ _ (by kernel_rfl)]; exact laidMet_laidAll _ (by kernel_rfl) (by kernel_rfl))) ?_
  intro W base args ds gs before hval0 hW hL hsh
  have hval : ∀ (j : Nat) t v, Tryd.f9.params[j]? = some t → args[j]? = some v → Value.okWide Tryd.prog W .any base t v := hval0
  have hW' := hW
  obtain ⟨p, q, hA0, hV, rfl, hfz, hnd⟩ := hW
  have hA : DataW.TrodAll enc Tryd.prog W 0 (fun _ => true) true Tryd.f9.params.toList args.toList ds p := hA0
  rw [Tryd.params9] at hA hval
  obtain ⟨v0, vs0, d0, ds0, p0, q0, hargs, rfl, rfl, h0, r0⟩ := trodAll_cons hA
  obtain ⟨v1, vs1, d1, ds1, p1, q1, rfl, rfl, rfl, h1, r1⟩ := trodAll_cons r0
  obtain ⟨rfl, rfl, rfl⟩ := trodAll_nil r1
  obtain rfl : args = #[v0, v1] := by cases args; simp_all
  obtain ⟨rfl, rfl⟩ := trodVars_none hV
  obtain ⟨a0, rfl, rfl, rfl, w0⟩ := open_int Tryd.underlying3 (hval 0 3 v0 rfl rfl) h0
  obtain ⟨a1, rfl, rfl, rfl, w1⟩ := open_int Tryd.underlying3 (hval 1 3 v1 rfl rfl) h1
  clear hA0 hval0
  refine (walk a0 a1 W (env_of hL hsh) (wf_i64 a0 w0) (wf_i64 a1 w1)).mono fun e W' ⟨he, bel⟩ => ?_
  subst he
  exact ⟨_, rfl, _, _, _, [], _, [], hW', trodAll_mk1 (shut_bool Tryd.underlying4 _), (trodAll_cons_mk (shut_int Tryd.underlying3 w0) (trodAll_cons_mk (shut_int Tryd.underlying3 w1) trodAll_mk0)), rfl, bel.frame _, fun h => by cases h⟩

theorem over : Rows.decimalRestsRow.holds Tryd.pinned (OpenSpec.ofChange Rows.decimalRestsSpec) :=
  OpenClaim.holds_of_wide 9 Tryd.f9 rfl rfl rfl rfl rfl rfl rfl ⟨rfl, rfl, rfl, rfl, rfl⟩ rfl rfl rfl rfl rfl (by kernel_rfl) Tryd.func9 (by kernel_rfl)
    (of_decide_eq_true (by kernel_rfl)) (by unfold Func.isWrapper; first | (rw [if_pos (by decide +kernel)]; kernel_rfl) | (rw [if_neg (by decide +kernel)]; exact ⟨rfl, rfl⟩))
    (fun os started H enc _ => lifted os started H enc)

theorem proved : Rows.DecimalRestsCardSaid :=
  Claim7.holds_tied_plain_at .later [] [.data, .data, .data, .data, .sentinel, .sentinel, .pinned] true Rows.decimalRestsCard.stood.harness Rows.decimalRestsCard.stood.looks
    over (fun _ h => by cases h) (by kernel_rfl) (fun _ h => by cases h) decimalRests_row_tie rfl ⟨rfl, rfl⟩ (by kernel_rfl) rfl
    (fun f fn hf hfn => by
      obtain rfl : f = 9 := Option.some.inj ((show Tryd.prog.funcNamed "refit/refitlaw02.DecimalRests" = some 9 by kernel_rfl).symm.trans hf) |>.symm
      obtain rfl : fn = Tryd.f9 := (Option.some.inj (Tryd.func9.symm.trans hfn)).symm
      exact ⟨by kernel_rfl, fun j t ht => by
        rw [Tryd.params9] at ht
        have hm : t ∈ [3, 3] := by simpa using Array.mem_of_getElem? ht
        have hall : ([3, 3].all fun u => !Tryd.prog.wantsStandIn u) = true := by kernel_rfl
        exact (show Tryd.prog.wantsStandIn t = false by simpa using List.all_eq_true.1 hall t hm)⟩)
    (by kernel_rfl)
end Go.Proofs.YtgkjgaelclfffaaDoor.decimalRests
