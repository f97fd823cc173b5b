/- WireOrder returns true for every two numbers: different numbers have different encodings, none the beginning of another. No condition. -/
import Derived.Test.YtgpeombkdompdaaWireFirst
import Derived.ProofKit
import Derived.OpenShut
import Derived.ChangeOld
import Derived.Below
import Derived.Deep.RegionWith
import Derived.Deep.QuietTactic
import Derived.BigQuiet
import Derived.Lib.Strings
namespace Go.Proofs.Ytgpeombkdompdaa.wireOrder
open Go.ChangeShapes Go.WideShapes Go.ChangeAt Go.RowKit
set_option linter.unusedVariables false

theorem own : ownKnob Try.prog.godebug = none := by kernel_rfl
theorem laidOut : laidOutB Try.prog = true := by kernel_rfl

/-- the test of the law -/
theorem guard_true (a0 a1 : Int) (h0 : Wm.inR a0) (h1 : Wm.inR a1) (k : Nat) (hk : min ((bstr (Wm.enc a0)).size : Int) ((bstr (Wm.enc a1)).size : Int) = (k : Int)) :
    ((((bstr (Wm.enc a0)).extract 0 k).toList == ((bstr (Wm.enc a1)).extract 0 k).toList) == (a0 == a1)) = true := by
  rw [bstr_size, bstr_size] at hk
  have hk' : k = min (Wm.enc a0).length (Wm.enc a1).length := by omega
  rw [Lib.extract_toList, Lib.extract_toList, bstr_data, bstr_data]
  simp only [List.drop_zero, Nat.sub_zero]
  have hf := Wm.enc_free a0 a1 h0 h1
  rw [← hk'] at hf
  by_cases he : a0 = a1
  · subst he; simp
  · have hn : ¬ ((Wm.enc a0).take k = (Wm.enc a1).take k) := fun h => he (hf.1 h)
    have e1 : ((Wm.enc a0).take k == (Wm.enc a1).take k) = false := by simpa using hn
    have e2 : (a0 == a1) = false := by simpa using he
    rw [e1, e2]; rfl

set_option maxHeartbeats 2000000 in
set_option maxRecDepth 100000 in
theorem walk (a0 : Int) (a1 : Int) (w0 : (Lit.int .i64 a0).wf = true) (w1 : (Lit.int .i64 a1).wf = true) (w : World) :
    Calls Try.prog 6 #[.int .i64 a0, .int .i64 a1] w fun e w' => e = .returned (.bool true) ∧ Below w.heap.size w w' := by
  have hr0 := wf_in a0 w0
  have hr1 := wf_in a1 w1
  clear w0 w1
  go_enter Try.func6, Try.ntmps6
  go_wp2_with fail
  refine (first_true _).mono ?_
  rintro e wa ⟨rfl, hb⟩
  have HB := Lib.hid hb
  clear hb
  go_wp2_with fail
  refine (number_w wa.heap.size _ [] a0 _ ((Wr.fresh wa).keep (p := fun _ => False) ((Only.refl _ _).alloc _) id (fun _ _ => id)) (by simp) hr0).mono ?_
  rintro e wb ⟨rfl, v1, hw1, hf1, ho1⟩
  have hB1 : Below w.heap.size w wb := (((HB.out.alloc (by have := HB.out.size; omega) _).alloc (by have := HB.out.size; simp; omega) _)).trans (ho1.belowB (by have := HB.out.size; simp; omega) (by have := HB.out.size; simp [Value.ownBlock]; omega))
  have hy : Wr (wa.heap.size + 1) (.slice none 0 0) [] wb := by
    have h := Wr.fresh (wa.alloc (.cells #[.slice none 0 0] 28))
    rw [show (wa.alloc (.cells #[.slice none 0 0] 28)).heap.size = wa.heap.size + 1 by simp] at h
    exact h.keep ho1 (by simp [Value.ownBlock]) (by simp [Value.ownBlock])
  have hv1 : ∀ g, v1.ownBlock = some g → wa.heap.size + 2 ≤ g := by
    intro g hg; rcases hf1 with e | ⟨g', e, hg'⟩
    · rw [e] at hg; simp [Value.ownBlock] at hg
    · rw [e] at hg; simp at hg hg'; omega
  have HB1 := Lib.hid hB1
  have HY := Lib.hid hy
  have HX := Lib.hid hw1
  have HV := Lib.hid hv1
  clear hB1 hy hw1 hv1 hf1 ho1
  go_wp2_with fail
  refine (number_w (wa.heap.size + 1) _ [] a1 _ HY.out (by simp) hr1).mono ?_
  rintro e wc ⟨rfl, v2, hw2, hf2, ho2⟩
  have hsz := HB.out.size
  have HXB : Hid (WrB w.heap.size wa.heap.size (Wm.enc a0) w wc) := by
    refine ⟨⟨v1, HX.out.keep ho2 (by simp [Value.ownBlock]) (fun g hg => by have := HV.out g hg; simp [Value.ownBlock]; omega), fun g hg => by have := HV.out g hg; omega⟩, hsz, HB1.out.trans (ho2.belowB HB1.out.size (by simp [Value.ownBlock]; omega)), Nat.le_refl _⟩
  have HYB : Hid (WrB w.heap.size (wa.heap.size + 1) (Wm.enc a1) w wc) := by
    refine ⟨⟨v2, hw2, ?_⟩, by omega, HB1.out.trans (ho2.belowB HB1.out.size (by simp [Value.ownBlock]; omega)), Nat.le_refl _⟩
    intro g hg; rcases hf2 with e | ⟨g', e, hg'⟩
    · rw [e] at hg; simp [Value.ownBlock] at hg
    · rw [e] at hg; simp at hg; have := HB1.out.size; omega
  clear hw2 hf2 ho2 HB HB1 HY HX HV
  have hl0 := Wm.enc_length_le a0 hr0
  have hl1 := Wm.enc_length_le a1 hr1
  go_wp2_with fail
  go_region_with (first
    | (go_at_call_of 15 (Value.pointer (some ⟨wa.heap.size, 0, none⟩)); refine (bytes_B HXB.out.drew (by omega)).mono ?_; rintro e wd ⟨xa, xn, xc, rfl, hxn, hxby, _, hxw, hxbel⟩; have hxs := hxby.str; have HXBY := Lib.hid hxby; have HYB2 := Lib.hid (HYB.out.below (below_undrew hxbel)); clear hxby hxw)
    | (go_at_call 15; refine (bytes_B HYB2.out (by omega)).mono ?_; rintro e we ⟨ya, yn, yc, rfl, hyn, hyby, _, hyw, hybel⟩; have hys := hyby.str; have hxs2 := (HXBY.out.keep (Only.of_below hybel) (fun g hg => by have := HXBY.out.lt g hg; omega)).str; have HYB3 := Lib.hid hyw; clear hyby hyw))
  all_goals
    have HF := Lib.hid HYB3.out.bel
    clear hxs hys hxs2 HXB HYB HYB2 HYB3 HXBY hxbel hybel hxn hyn
    have hz0 := bstr_size (Wm.enc a0)
    have hz1 := bstr_size (Wm.enc a1)
    have hgd := guard_true a0 a1 hr0 hr1
    generalize bstr (Wm.enc a0) = s0 at *
    generalize bstr (Wm.enc a1) = s1 at *
    have HG := Lib.hid hgd
    clear hgd
    have HZ0 := Lib.hid hz0
    have HZ1 := Lib.hid hz1
    have z0 : s0.size ≤ 9 := by omega
    have z1 : s1.size ≤ 9 := by omega
    clear hz0 hz1
    go_wp2
    obtain ⟨k, hk⟩ : ∃ k : Nat, min (s0.size : Int) (s1.size : Int) = (k : Int) := ⟨min s0.size s1.size, by omega⟩
    rw [hk]
    have hk0 : (0 : Int) ≤ (k : Int) := by omega
    have hk1 : (k : Int) ≤ (s0.size : Int) := by omega
    have hk2 : (k : Int) ≤ (s1.size : Int) := by omega
    have hg := HG.out k hk
    have hs9 : decide ((s0.size : Int) ≤ 9) = true := by simp; omega
    clear hk
    go_quiet (fail)
    go_wp2
    go_ret
    refine ⟨?_, below_drewN HF.out _⟩
    first | rfl | simp | (simp; omega)

set_option maxRecDepth 100000 in
theorem lifted (os : Os) (started : os.Started) (H : Type) (enc : TypeId × Value → H) :
    ReturnsInHanded {} Try.checked os 6 .any (Rows.wireOrderSpec.pre6 enc Try.prog Try.f6 Rows.wireOrderRow.domain false) (Rows.wireOrderSpec.post enc Try.prog Try.f6 false true false false) := by
  refine returnsInHanded_of_change (C := Try.checked) own started (by kernel_rfl) Try.func6
    (ChangeSpec.witness6 (enc := enc) (C := Try.checked) false ⟨#[], #[.int .i64 0, .int .i64 0], []⟩ 8 (by kernel_rfl) (by kernel_rfl) (by kernel_rfl) (by kernel_rfl)) ?_
  intro W base args ds gs before hval0 hW hcnd _
  have hval : ∀ (j : Nat) t v, Try.f6.params[j]? = some t → args[j]? = some v → Value.okWide Try.prog W .any base t v := hval0
  have hW' := hW
  obtain ⟨p, q, hA0, hV, rfl, hfz, hnd⟩ := hW
  have hA : DataW.TrodAll enc Try.prog W 0 (fun _ => true) true Try.f6.params.toList args.toList ds p := hA0
  rw [Try.params6] at hA hval
  obtain ⟨v0, vs0, d0, ds0, p0, q0, hargs, rfl, rfl, h0, r0⟩ := trodAll_cons hA
  obtain ⟨v1, vs1, d1, ds1, p1, q1, rfl, rfl, rfl, h1, r1⟩ := trodAll_cons r0
  obtain ⟨rfl, rfl, rfl⟩ := trodAll_nil r1
  obtain rfl : args = #[v0, v1] := by cases args; simp_all
  obtain ⟨rfl, rfl⟩ := trodVars_none hV
  obtain ⟨a0, rfl, rfl, rfl, w0⟩ := open_int Try.underlying3 (hval 0 3 v0 rfl rfl) h0
  obtain ⟨a1, rfl, rfl, rfl, w1⟩ := open_int Try.underlying3 (hval 1 3 v1 rfl rfl) h1
  clear hA0 hval0
  refine (walk a0 a1 w0 w1 W).mono fun e W' ⟨he, bel⟩ => ?_
  subst he
  exact ⟨_, rfl, _, _, _, [], _, [], hW', trodAll_mk1 (shut_bool Try.underlying4 _), (trodAll_cons_mk (shut_int Try.underlying3 w0) (trodAll_cons_mk (shut_int Try.underlying3 w1) trodAll_mk0)), rfl, bel.frame _, fun h => by cases h⟩

theorem over : Rows.wireOrderRow.holds Try.pinned (OpenSpec.ofChange Rows.wireOrderSpec) :=
  OpenClaim.holds_of_wide 6 Try.f6 rfl rfl rfl rfl rfl rfl rfl ⟨rfl, rfl, rfl, rfl, rfl⟩ rfl rfl rfl rfl rfl (by kernel_rfl) Try.func6 (by kernel_rfl)
    (of_decide_eq_true (by kernel_rfl)) (by unfold Func.isWrapper; first | (rw [if_pos (by decide +kernel)]; kernel_rfl) | (rw [if_neg (by decide +kernel)]; exact ⟨rfl, rfl⟩))
    (fun os started H enc _ => lifted os started H enc)

theorem proved : Rows.WireOrderSaid :=
  over
end Go.Proofs.Ytgpeombkdompdaa.wireOrder
