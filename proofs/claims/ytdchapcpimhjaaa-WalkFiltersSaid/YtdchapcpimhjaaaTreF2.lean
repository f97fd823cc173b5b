/- Package tree: what any node hands out from a key on, for every loop body. -/
import Derived.Test.YtdchapcpimhjaaaTreF1
namespace Go.Proofs.Ytdchapcpimhjaaa
open Go.RowKit Go.Shelf

attribute [local go_sem] Oper.semAt_some

theorem fr_app (A C : List Tm.E) (k : Tm.K) : Tm.from_ (A ++ C) k = Tm.from_ A k ++ Tm.from_ C k := by simp [Tm.from_]
theorem fr_lo {A : List Tm.E} {k : Tm.K} (h : Tm.Lo A k) : Tm.from_ A k = [] := by
  unfold Tm.from_
  rw [List.filter_eq_nil_iff]
  intro p hp
  rw [h p hp]; decide
set_option maxHeartbeats 2000000 in
set_option maxRecDepth 100000 in
theorem tre_from {ex : Nat → Prop} {B ly N : Nat} {k : Tm.K} {J Jx : List Tm.E → World → Prop} (hJ : AbidesFrom B J) (hY : ∀ m, Yl8 ex m ly N J Jx) : ∀ {h lo p m : Nat} {t : Tm.T} {pre0 : List Tm.E} {W : World}, Tn ex h p t W → (h = 0 ∨ 1 ≤ lo) → Tm.Wf h lo t → Tm.Asc (Tm.flat h t) →
    pre0.length + (Tm.from_ (Tm.flat h t) k).length ≤ N → J pre0 W →
    CallsIn Fence.wide m Try.prog 43 #[ptr p, .string (bstr k), .func (.yield ly) #[] #[]] W (Fr8 ex J Jx pre0 (Tm.from_ (Tm.flat h t) k) W)
  | 0, _, _, _, .inner _, _, _, ht, _, _, _, _, _ => by obtain ⟨l, e, _⟩ := ht; cases e
  | _ + 1, _, _, _, .leaf _, _, _, ht, _, _, _, _, _ => by obtain ⟨l, ps, e, _⟩ := ht; cases e
  | 0, lo, p, m, .leaf l, pre0, W, ht, _, hw, ha, hN, h0 => callsIn_wide.2 (callsIn_wide.1 (tre_fromL ht hw.2 ha hJ (hY m) hN h0))
  | h + 1, lo, p, m, .inner ks, pre0, W, ht, hlo, hw, ha, hN, h0 => by
    obtain ⟨h1, h2, h3⟩ := hw
    have hlo1 : 1 ≤ lo := by omega
    have HKID := Lib.hid (tre_hasKids ht)
    have hkd : decide (0 < (Tm.T.inner ks).ks.length) = true := decide_eq_true (show 0 < ks.length by omega)
    rw [hkd] at HKID
    have HK : Hid (Calls Try.prog 61 #[.pointer (some ⟨p, 0, none⟩)] W fun e w' => e = .returned (.bool true) ∧ W = w') := HKID.out
    have hak := Tm.keys_asc (h + 1) (.inner ks) h3 ha
    obtain ⟨i, hi⟩ : ∃ i, i = Tm.chd (ks.map (Tm.fk h)) k := ⟨_, rfl⟩
    obtain ⟨hil, hA, hC, hfl⟩ := Tm.split (i := i) k h3 (by omega) ha hi
    have HC : Hid (∀ w, Below W.heap.size W w → Calls Try.prog 62 #[.pointer (some ⟨p, 0, none⟩), .string (bstr k)] w fun e w' => e = .returned (.int .i64 (i : Int)) ∧ Below w.heap.size w w') := fun w hbw => by
      have := tre_child k (ht.below hbw) (show ks.length ≤ 100 by omega) hak
      rw [show Tm.keys (h + 1) (.inner ks) = ks.map (Tm.fk h) from rfl, ← hi] at this
      exact this
    obtain ⟨L, hL⟩ : ∃ L, L = Tm.from_ (Tm.flat (h + 1) (.inner ks)) k := ⟨_, rfl⟩
    rw [← hL] at hN ⊢
    have hLd : L = Tm.from_ (Tm.flats h (ks.drop i)) k := by
      rw [hL, Tm.flat_succ]
      conv => lhs; rw [← List.take_append_drop i ks, Tm.flats_app, fr_app, fr_lo hA, List.nil_append]
    obtain ⟨n, hn⟩ : ∃ n, n = ks.length := ⟨_, rfl⟩
    have HQ : Hid (∀ j, i + j < n → Tm.from_ (Tm.flats h ((ks.drop i).take (j + 1))) k = Tm.from_ (Tm.flats h ((ks.drop i).take j)) k ++ Tm.from_ (Tm.flat h (ks.getD (i + j) (.leaf []))) k ∧ Tm.from_ (Tm.flats h ((ks.drop i).take (j + 1))) k <+: L) := fun j hj => by
      have hjl : i + j < ks.length := by omega
      constructor
      · rw [List.take_add_one, List.getElem?_drop, List.getElem?_eq_getElem hjl, Tm.flats_app, fr_app]
        simp only [Option.toList_some, Tm.flats_one, List.getD, List.getElem?_eq_getElem hjl, Option.getD_some]
      · refine ⟨Tm.from_ (Tm.flats h ((ks.drop i).drop (j + 1))) k, ?_⟩
        rw [← fr_app, ← Tm.flats_app, List.take_append_drop, hLd]
    have HQE : Hid (∀ j, n ≤ i + j → Tm.from_ (Tm.flats h ((ks.drop i).take j)) k = L) := fun j hj => by
      rw [List.take_of_length_le (by rw [List.length_drop]; omega), hLd]
    have HQ0 : Hid (Tm.from_ (Tm.flats h ((ks.drop i).take 0)) k = []) := by show _ = _; simp [Tm.flats, Tm.from_]
    obtain ⟨bg, boff, bc, p2, hbc, hbc64, hbg, hpl, hkid⟩ := ht.each (by omega)
    have HKD : Hid (∀ w j m pre, Only ex W w → i + j < n → pre.length + (Tm.from_ (Tm.flat h (ks.getD (i + j) (.leaf []))) k).length ≤ N → J pre w → ∃ y, w.cell? ⟨bg, boff + i + j, none⟩ = some (.pointer (some ⟨y, 0, none⟩)) ∧ Hid (CallsIn Fence.wide m Try.prog 43 #[.pointer (some ⟨y, 0, none⟩), .string (bstr k), .func (.yield ly) #[] #[]] w (Fr8 ex J Jx pre (Tm.from_ (Tm.flat h (ks.getD (i + j) (.leaf []))) k) w))) := fun w j m pre ho hj hpN hpJ => by
      obtain ⟨y, hyc, hyT⟩ := hkid (i + j) (by omega)
      have hbx : ¬ ex bg := by
        obtain ⟨ks', ps, el, hxp, hpl2, ⟨ka, kc, va, vc, ba, bc', hnb, hk, hv, hcp⟩, hj'⟩ := ht
        injection el with el
        subst el
        rw [Lib.cell_of_heap hnb] at p2
        injection p2 with p2
        injection p2 with e1 e2 e3
        subst e1
        obtain ⟨g', off', e, _, _, hx, _⟩ := hv.row (by omega)
        injection e with e
        injection e with e
        rw [e]; exact hx
      refine ⟨y, ?_, ?_⟩
      · rw [show boff + i + j = boff + (i + j) by omega]
        exact (cell_only8 ho (q := ⟨bg, boff + (i + j), none⟩) hbg hbx).trans hyc
      · have hjl : i + j < ks.length := by omega
        refine tre_from hJ hY (hyT.keep ho) (.inr (show 1 ≤ 4 by decide)) (h3 _ (Tm.getD_mem hjl)) ?_ hpN hpJ
        have := ha
        rw [Tm.flat_succ, Tm.flats_split h ks hjl] at this
        exact (Tm.asc_app (Tm.asc_app this).2.1).1
    rw [← hn] at p2 hbc hil
    have HN := Lib.hid hN; have HJ := Lib.hid hJ; have H0 := Lib.hid h0
    have hP2 : Hid (∀ w, Below W.heap.size W w → w.cell? ⟨p, 2, none⟩ = some (.slice (some ⟨bg, boff, none⟩) n bc)) := fun w hb => (hb.cell (p := ⟨p, 2, none⟩) hpl).trans p2
    have hi0 : (0 : Int) ≤ (i : Int) := by omega
    have hin : (i : Int) ≤ (n : Int) := by omega
    have hnb : (n : Int) ≤ (bc : Int) := by omega
    have hbi : ¬ bc = i := by omega
    have hn8 : n ≤ 8 := by omega
    clear HKID hak ht h1 h3 hlo hlo1 hkd hi hA hC hfl ha hN h0 hL hLd hn hkid p2 h2
    generalize bstr k = S at *
    unfold ptr
    refine callsIn_of_wp Try.func43 rfl trivial ?_ rfl
    simp only [Try.ntmps43, List.size_toArray, List.length_cons, List.length_nil, Nat.reduceAdd, Nat.reduceSub, Array.replicate_succ, Array.replicate_zero, List.push_toArray, List.append_toArray, List.nil_append, List.cons_append]
    gi_wp2_with fail
    refine ⟨trivial, fun h => (by cases h), (callsIn_wide.2 HK.out).mono ?_⟩
    rintro e w0 ⟨rfl, rfl⟩
    gi_wp2_with fail
    have hmix : Try.prog.follows .mixedOrders = true := by kernel_rfl
    have pd := hP2.out W.drew (below_dr8 W)
    gi_region_with_o ((try refine ⟨trivial, ?_⟩); (try refine ⟨fun h => (by cases h), ?_⟩); refine (callsIn_wide.2 (HC.out W.drew (below_dr8 W))).mono ?_; rintro e w1 ⟨rfl, hb1⟩; have pd1 := hP2.out w1 ((below_dr8 W).trans (hb1.mono (Nat.le_refl _))))
    all_goals
      have hbw : Below W.heap.size W w1 := (below_dr8 W).trans (hb1.mono (Nat.le_refl _))
      have HO1 : Hid (Only ex W w1) := only_of8 hbw
      have HJ1 : Hid (J (pre0 ++ Tm.from_ (Tm.flats h ((ks.drop i).take 0)) k) w1) := by
        show J _ _
        rw [HQ0.out, List.append_nil]
        exact ab8 HJ.out H0.out hbw
      obtain ⟨r, hr⟩ : ∃ r, r = n - i := ⟨_, rfl⟩
      obtain ⟨c2, hc2⟩ : ∃ c2, c2 = bc - i := ⟨_, rfl⟩
      rw [← hr, ← hc2]
      have hrn : i + r = n := by omega
      have hrc : r ≤ c2 := by omega
      have hr8 : r ≤ 8 := by omega
      clear hb1 hbw pd pd1 hmix hr hc2 H0 HQ0 hP2
      gi_wp2_with fail
      gi_loopw [23] (fun iv wr => ∃ j : Nat, j ≤ r ∧ iv = .int .i64 (j : Int) ∧ Hid (J (pre0 ++ Tm.from_ (Tm.flats h ((ks.drop i).take j)) k) wr) ∧ Hid (Only ex W wr)) (fun iv _ => r - (ixOf iv).toNat)
      case atStart => exact ⟨0, Nat.zero_le _, rfl, HJ1.out, HO1.out⟩
      case round =>
        clear HJ1 HO1
        obtain ⟨j, hj, rfl, HJr, HOr⟩ := hrel
        by_cases hlt : j < r
        case neg =>
          have hjI : ¬ (j : Int) < (r : Int) := by omega
          have HE : Hid (Fr8 ex J Jx pre0 L W (.returned (.bool true)) wr) := .inl ⟨rfl, by
            have := HJr.out
            rw [HQE.out j (by omega)] at this
            exact this, HOr.out⟩
          clear HQ HQE HKD HJr HOr hlt
          gi_wp2
          go_ret
          exact HE.out
        case pos =>
          have hjI : (j : Int) < (r : Int) := by omega
          obtain ⟨hq1, hq2⟩ := HQ.out j (by omega)
          obtain ⟨y, yc, HFR⟩ := HKD.out wr j (m - 1) _ HOr.out (by omega) (by
            have h5 := hq2.length_le
            rw [hq1, List.length_append] at h5
            have h6 := HN.out
            rw [List.length_append]
            omega) HJr.out
          have HQ1 := Lib.hid hq1; have HQ2 := Lib.hid hq2
          clear HKD HQ HQE hq1 hq2 HJr
          gi_wp2_with fail
          refine ⟨trivial, fun h => (by cases h), HFR.out.mono ?_⟩
          rintro e1 w2 (⟨rfl, hJ2, hO2⟩ | ⟨rfl, q, hq, hx⟩)
          · have HJ2 : Hid (J (pre0 ++ Tm.from_ (Tm.flats h ((ks.drop i).take (j + 1))) k) w2) := by
              show J _ _
              rw [HQ1.out, ← List.append_assoc]; exact hJ2
            have HO2 : Hid (Only ex W w2) := HOr.out.trans hO2
            clear hJ2 hO2 HFR HOr yc
            gi_wp2_with fail
            go_roundw
            case rel => exact ⟨j + 1, by omega, by go_num, HJ2, HO2⟩
            case measure => simp [ixOf]; omega
          · have HF2 : Hid (Fr8 ex J Jx pre0 L W (.returned (.bool false)) w2) := .inr ⟨rfl, Tm.from_ (Tm.flats h ((ks.drop i).take j)) k ++ q, by
              refine List.IsPrefix.trans ?_ HQ2.out
              rw [HQ1.out]
              exact (List.prefix_append_right_inj _).2 hq, by rw [← List.append_assoc]; exact hx⟩
            clear hx hq HFR HOr yc
            gi_wp2
            go_ret
            exact HF2.out
end Go.Proofs.Ytdchapcpimhjaaa
