/- WireCounts returns true for every two numbers and every string: Count and Flag accept exactly their ranges, and a bad reader reads nothing more. No condition. -/
import Derived.Test.YtgpeombkdompdaaWireFirst
import Derived.ProofKit
import Derived.OpenShut
import Derived.ShutString
import Derived.ChangeOld
import Derived.Below
namespace Go.Proofs.Ytgpeombkdompdaa.wireCounts
open Go.ChangeShapes Go.WideShapes Go.ChangeAt Go.RowKit
open Go.ChangeMaps (open_string shut_string)
set_option linter.unusedVariables false

theorem own : ownKnob Try.prog.godebug = none := by kernel_rfl

/-- what is written: the number n, then the string s -/
def two (n : Int) (s : ByteArray) : List UInt8 := [] ++ Wm.enc n ++ Wm.enc (s.size : Nat) ++ s.data.toList
theorem two_eq (n : Int) (s : ByteArray) : two n s = Wm.enc n ++ (Wm.enc (s.size : Nat) ++ s.data.toList) := by simp [two]

theorem btw_two (n lo hi : Int) (s : ByteArray) (hn : Wm.inR n) : btw lo hi (some (two n s)) = if n < lo ∨ hi < n then (0, none) else (n, some (Wm.enc (s.size : Nat) ++ s.data.toList)) := by
  rw [two_eq, btw_enc n lo hi _ hn]
theorem rtext_two (s : ByteArray) (hs : s.size ≤ 1000000000) : rtext (some (Wm.enc (s.size : Nat) ++ s.data.toList)) = (s.data.toList, some []) := by
  have hl : s.data.toList.length = s.size := by rw [Array.length_toList]; rfl
  have := rtext_enc s.data.toList [] (by omega)
  rw [hl, List.append_nil] at this
  exact this

theorem caseA (a0 a1 : Int) (a2 : ByteArray) (hn : Wm.inR a0) (hs : a2.size ≤ 500) :
    (∃ l1, btw 0 a1 (some (two a0 a2)) = (a0, some l1) ∧ rtext (some l1) = (a2.data.toList, some []) ∧ l1.length ≤ 1000 ∧ decide (0 ≤ a0) = true ∧ decide (a0 ≤ a1) = true) ∨
    (btw 0 a1 (some (two a0 a2)) = (0, none) ∧ decide (0 ≤ a0) = true ∧ decide (a0 ≤ a1) = false) ∨ (btw 0 a1 (some (two a0 a2)) = (0, none) ∧ decide (0 ≤ a0) = false) := by
  have hb := btw_two a0 0 a1 a2 hn
  have h2 := Wm.enc_length_le (a2.size : Nat) (by unfold Wm.inR; omega)
  have hl : a2.data.toList.length = a2.size := by rw [Array.length_toList]; rfl
  by_cases hq : a0 < 0 ∨ a1 < a0
  · rw [if_pos hq] at hb
    right
    by_cases h0 : 0 ≤ a0
    · left; exact ⟨hb, by simpa using h0, by simp; omega⟩
    · right; exact ⟨hb, by simpa using h0⟩
  · rw [if_neg hq] at hb
    left
    exact ⟨_, hb, rtext_two a2 (by omega), by simp only [List.length_append, hl]; omega, by simp; omega, by simp; omega⟩
theorem caseF (a0 : Int) (a2 : ByteArray) (hn : Wm.inR a0) (hs : a2.size ≤ 500) :
    (∃ l2, btw 0 1 (some (two a0 a2)) = (0, some l2) ∧ (a0 == 0) = true ∧ (a0 == 1) = false) ∨
    (∃ l2, btw 0 1 (some (two a0 a2)) = (1, some l2) ∧ (a0 == 0) = false ∧ (a0 == 1) = true) ∨ (btw 0 1 (some (two a0 a2)) = (0, none) ∧ (a0 == 0) = false ∧ (a0 == 1) = false) := by
  have hb := btw_two a0 0 1 a2 hn
  by_cases hq : a0 < 0 ∨ 1 < a0
  · rw [if_pos hq] at hb
    right; right; exact ⟨hb, by simp; omega, by simp; omega⟩
  · rw [if_neg hq] at hb
    by_cases hz : a0 = 0
    · left; subst hz; exact ⟨_, hb, rfl, rfl⟩
    · have h1 : a0 = 1 := by omega
      right; left; subst h1; exact ⟨_, hb, rfl, rfl⟩

/-- a writer is left alone by what changes the block of a reader alone -/
theorem keepW {B b r : Nat} {bs : List UInt8} {st : Option (List UInt8)} {W w w' : World} (h : WrB B b bs W w) (hr : RdB B r st W w) (ho : Only (fun k => k = r) w w') : WrB B b bs W w' := by
  obtain ⟨sv, hsv, _⟩ := hr.ex
  refine h.only ho (fun v hv => ⟨by intro e; subst e; exact absurd (hv.blk.symm.trans hsv.blk) (by simp), fun g hg e => ?_⟩) (ho.belowB (by have := h.bel.size; have := h.base; omega) (fun k hk e => by have := hr.le; omega))
  subst e
  rcases hv.own.2 with ⟨e1, _⟩ | ⟨g', cap, cur, e1, _, hgg, _⟩
  · rw [e1] at hg; simp [Value.ownBlock] at hg
  · rw [e1] at hg; simp [Value.ownBlock] at hg; subst hg
    exact absurd (hgg.symm.trans hsv.blk) (by simp)

theorem keepR {B b r : Nat} {st st' : Option (List UInt8)} {W w w' : World} (h : RdB B b st W w) (hr : RdB B r st' W w) (hne : b ≠ r) (ho : Only (fun k => k = r) w w') : RdB B b st W w' := by
  obtain ⟨sv, hsv, _⟩ := hr.ex
  obtain ⟨sv1, hsv1, h2⟩ := h.ex
  refine ⟨⟨sv1, hsv1.keep ho hne (fun g hg e => ?_), h2⟩, h.le, h.bel.trans (ho.belowB (by have := h.bel.size; have := h.base; omega) (fun k hk e => by have := hr.le; omega)), h.base⟩
  subst e
  rcases hsv1.byt with ⟨e1, _⟩ | ⟨g', off, cap, cs, t, fr, e1, _, hgg, ht, _⟩
  · rw [e1] at hg; simp [Value.ownBlock] at hg
  · rw [e1] at hg; simp [Value.ownBlock] at hg; subst hg
    subst ht
    exact absurd (hgg.symm.trans hsv.blk) (by simp)

set_option maxHeartbeats 4000000 in
set_option maxRecDepth 100000 in
theorem walk (a0 : Int) (a1 : Int) (a2 : ByteArray) (w0 : (Lit.int .i64 a0).wf = true) (w2 : a2.size ≤ maxLen) (w : World) :
    Calls Try.prog 7 #[.int .i64 a0, .int .i64 a1, .string a2] w fun e w' => e = .returned (.bool true) ∧ Below w.heap.size w w' := by
  unfold maxLen at w2
  have hr0 := wf_in a0 w0
  clear w0
  by_cases hlen : (500 : Int) < (a2.size : Int)
  · go_enter Try.func7, Try.ntmps7
    go_wp2_with fail
    refine (first_true _).mono ?_
    rintro e wa ⟨rfl, hb⟩
    have HB := Lib.hid hb
    clear hb
    go_wp2
    go_ret
    exact ⟨rfl, HB.out⟩
  · have hs : a2.size ≤ 500 := by omega
    have hld : decide ((500 : Int) < (a2.size : Int)) = false := by simpa using hlen
    have hlen0 : ((two a0 a2).length : Nat) ≤ 1000 := by
      have h1 := Wm.enc_length_le a0 hr0
      have h2 := Wm.enc_length_le (a2.size : Nat) (by unfold Wm.inR; omega)
      have hl : a2.data.toList.length = a2.size := by rw [Array.length_toList]; rfl
      rw [two_eq]; simp only [List.length_append, hl]; omega
    clear hlen
    go_enter Try.func7, Try.ntmps7
    go_wp2_with fail
    refine (first_true _).mono ?_
    rintro e wa ⟨rfl, hb⟩
    have HB := Lib.hid hb
    clear hb
    go_wp2_with fail
    refine (number_B a0 (WrB.fresh HB.out (Nat.le_refl _)) (by simp) hr0).mono ?_
    rintro e wb ⟨rfl, h⟩
    have H1 := Lib.hid h
    clear h
    go_wp2_with fail
    refine (text_B a2 H1.out (by have := Wm.enc_length_le a0 hr0; simp; omega) (by omega)).mono ?_
    rintro e wc ⟨rfl, h⟩
    have H2 : Hid (WrB w.heap.size wa.heap.size (two a0 a2) w wc) := h
    clear h H1
    go_wp2_with fail
    refine (bytes_B H2.out (by omega)).mono ?_
    rintro e wd ⟨a, n, c, rfl, _, hby, _, hw, _⟩
    have HBY := Lib.hid hby
    have H3 := Lib.hid hw
    clear hby hw H2
    go_wp2_with fail
    refine (read_B _ _ HBY.out (by omega) H3.out.bel (Nat.le_refl _)).mono ?_
    rintro e we ⟨r, rfl, hr, _, hbel⟩
    have HR := Lib.hid hr
    have H4 := Lib.hid (H3.out.below hbel)
    clear hr hbel H3 HBY
    go_wp2_with fail
    refine (count_RB a1 HR.out (by simp; omega)).mono ?_
    rintro e wf ⟨rfl, hr, ho⟩
    have H5 := Lib.hid (keepW H4.out HR.out ho)
    clear ho HR H4
    rcases caseA a0 a1 a2 hr0 hs with ⟨l1, hb1, hrt, hl1, q1, q2⟩ | ⟨hb1, q1, q2⟩ | ⟨hb1, q1⟩
    · rw [hb1] at hr ⊢
      have HR1 := Lib.hid hr
      have HRT := Lib.hid hrt
      clear hr hb1 hrt
      go_wp2_with fail
      refine (text_RB HR1.out (by simp; omega)).mono ?_
      rintro e wg ⟨rfl, hr, ho⟩
      have H6 := Lib.hid (keepW H5.out HR1.out ho)
      rw [HRT.out] at hr ⊢
      have HR2 := Lib.hid hr
      clear hr ho HR1 HRT H5
      have hst : bstr a2.data.toList = a2 := rfl
      simp only [hst]
      clear hst
      go_wp2_with fail
      refine (bytes_B H6.out (by omega)).mono ?_
      rintro e wh ⟨a', n', c', rfl, _, hby, _, hw, hbel0⟩
      have HBY := Lib.hid hby
      have H7 := Lib.hid hw
      have HR3 := Lib.hid (HR2.out.below hbel0)
      clear hby hw H6 HR2 hbel0
      go_wp2_with fail
      refine (read_B _ _ HBY.out (by omega) H7.out.bel (Nat.le_refl _)).mono ?_
      rintro e wi ⟨r2, rfl, hr, hrr, hbel⟩
      have HG := Lib.hid hr
      have HR4 := Lib.hid (HR3.out.below hbel)
      have hne : r ≠ r2 := by have := heap_lt HR3.out.ex.choose_spec.1.blk; omega
      have HNE := Lib.hid hne
      clear hr hbel H7 HBY hne HR3
      go_wp2_with fail
      refine (flag_RB HG.out (by simp; omega)).mono ?_
      rintro e wj ⟨rfl, hr, ho⟩
      have HR5 := Lib.hid (keepR HR4.out HG.out HNE.out ho)
      clear HR4 HG ho
      rcases caseF a0 a2 hr0 hs with ⟨l2, hb2, e0, e1⟩ | ⟨l2, hb2, e0, e1⟩ | ⟨hb2, e0, e1⟩
      all_goals
        rw [hb2] at hr ⊢
        have HG2 := Lib.hid hr
        clear hr hb2
        go_wp2_with fail
        refine (ok_RB HR5.out).mono ?_
        rintro e wk ⟨rfl, rfl⟩
        simp
        go_wp2_with fail
        refine (ok_RB HG2.out).mono ?_
        rintro e wk ⟨rfl, rfl⟩
        simp
        go_wp2
        go_ret
        exact ⟨rfl, HG2.out.bel⟩
    all_goals
      rw [hb1] at hr ⊢
      have HR1 := Lib.hid hr
      clear hr hb1
      go_wp2_with fail
      refine (text_RB HR1.out (by simp)).mono ?_
      rintro e wg ⟨rfl, hr, ho⟩
      have H6 := Lib.hid (keepW H5.out HR1.out ho)
      rw [rtext_none] at hr ⊢
      have HR2 := Lib.hid hr
      clear hr ho HR1 H5
      have hst : bstr [] = ⟨#[]⟩ := rfl
      simp only [hst]
      clear hst
      go_wp2_with fail
      refine (bytes_B H6.out (by omega)).mono ?_
      rintro e wh ⟨a', n', c', rfl, _, hby, _, hw, hbel0⟩
      have HBY := Lib.hid hby
      have H7 := Lib.hid hw
      have HR3 := Lib.hid (HR2.out.below hbel0)
      clear hby hw H6 HR2 hbel0
      go_wp2_with fail
      refine (read_B _ _ HBY.out (by omega) H7.out.bel (Nat.le_refl _)).mono ?_
      rintro e wi ⟨r2, rfl, hr, hrr, hbel⟩
      have HG := Lib.hid hr
      have HR4 := Lib.hid (HR3.out.below hbel)
      have hne : r ≠ r2 := by have := heap_lt HR3.out.ex.choose_spec.1.blk; omega
      have HNE := Lib.hid hne
      clear hr hbel H7 HBY hne HR3
      go_wp2_with fail
      refine (flag_RB HG.out (by simp; omega)).mono ?_
      rintro e wj ⟨rfl, hr, ho⟩
      have HR5 := Lib.hid (keepR HR4.out HG.out HNE.out ho)
      clear HR4 HG ho
      rcases caseF a0 a2 hr0 hs with ⟨l2, hb2, e0, e1⟩ | ⟨l2, hb2, e0, e1⟩ | ⟨hb2, e0, e1⟩
      all_goals
        rw [hb2] at hr ⊢
        have HG2 := Lib.hid hr
        clear hr hb2
        go_wp2_with fail
        refine (ok_RB HR5.out).mono ?_
        rintro e wk ⟨rfl, rfl⟩
        simp
        go_wp2_with fail
        refine (ok_RB HG2.out).mono ?_
        rintro e wk ⟨rfl, rfl⟩
        simp
        go_wp2
        go_ret
        exact ⟨rfl, HG2.out.bel⟩

set_option maxRecDepth 100000 in
theorem lifted (os : Os) (started : os.Started) (H : Type) (enc : TypeId × Value → H) :
    ReturnsInHanded {} Try.checked os 7 .any (Rows.wireCountsSpec.pre6 enc Try.prog Try.f7 Rows.wireCountsRow.domain false) (Rows.wireCountsSpec.post enc Try.prog Try.f7 false true false false) := by
  refine returnsInHanded_of_change (C := Try.checked) own started (by kernel_rfl) Try.func7
    (ChangeSpec.witness6 (enc := enc) (C := Try.checked) false ⟨#[], #[.int .i64 0, .int .i64 0, .string ByteArray.empty], []⟩ 8 (by kernel_rfl) (by kernel_rfl) (by kernel_rfl) (by kernel_rfl)) ?_
  intro W base args ds gs before hval0 hW hcnd _
  have hval : ∀ (j : Nat) t v, Try.f7.params[j]? = some t → args[j]? = some v → Value.okWide Try.prog W .any base t v := hval0
  have hW' := hW
  obtain ⟨p, q, hA0, hV, rfl, hfz, hnd⟩ := hW
  have hA : DataW.TrodAll enc Try.prog W 0 (fun _ => true) true Try.f7.params.toList args.toList ds p := hA0
  rw [Try.params7] at hA hval
  obtain ⟨v0, vs0, d0, ds0, p0, q0, hargs, rfl, rfl, h0, r0⟩ := trodAll_cons hA
  obtain ⟨v1, vs1, d1, ds1, p1, q1, rfl, rfl, rfl, h1, r1⟩ := trodAll_cons r0
  obtain ⟨v2, vs2, d2, ds2, p2, q2, rfl, rfl, rfl, h2, r2⟩ := trodAll_cons r1
  obtain ⟨rfl, rfl, rfl⟩ := trodAll_nil r2
  obtain rfl : args = #[v0, v1, v2] := by cases args; simp_all
  obtain ⟨rfl, rfl⟩ := trodVars_none hV
  obtain ⟨a0, rfl, rfl, rfl, w0⟩ := open_int Try.underlying3 (hval 0 3 v0 rfl rfl) h0
  obtain ⟨a1, rfl, rfl, rfl, w1⟩ := open_int Try.underlying3 (hval 1 3 v1 rfl rfl) h1
  obtain ⟨a2, rfl, rfl, rfl, w2⟩ := open_string Try.underlying9 (hval 2 9 v2 rfl rfl) h2
  clear hA0 hval0
  refine (walk a0 a1 a2 w0 w2 W).mono fun e W' ⟨he, bel⟩ => ?_
  subst he
  exact ⟨_, rfl, _, _, _, [], _, [], hW', trodAll_mk1 (shut_bool Try.underlying4 _), (trodAll_cons_mk (shut_int Try.underlying3 w0) (trodAll_cons_mk (shut_int Try.underlying3 w1) (trodAll_cons_mk (shut_string Try.underlying9 w2) trodAll_mk0))), rfl, bel.frame _, fun h => by cases h⟩

theorem over : Rows.wireCountsRow.holds Try.pinned (OpenSpec.ofChange Rows.wireCountsSpec) :=
  OpenClaim.holds_of_wide 7 Try.f7 rfl rfl rfl rfl rfl rfl rfl ⟨rfl, rfl, rfl, rfl, rfl⟩ rfl rfl rfl rfl rfl (by kernel_rfl) Try.func7 (by kernel_rfl)
    (of_decide_eq_true (by kernel_rfl)) (by unfold Func.isWrapper; first | (rw [if_pos (by decide +kernel)]; kernel_rfl) | (rw [if_neg (by decide +kernel)]; exact ⟨rfl, rfl⟩))
    (fun os started H enc _ => lifted os started H enc)

theorem proved : Rows.WireCountsSaid :=
  over
end Go.Proofs.Ytgpeombkdompdaa.wireCounts
