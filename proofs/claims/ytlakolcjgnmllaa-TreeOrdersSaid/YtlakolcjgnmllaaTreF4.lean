/- Package tree: what any node hands out from a key on, backwards, for every loop body. -/
import Derived.Test.YtlakolcjgnmllaaTreF3
namespace Go.Proofs.Ytlakolcjgnmllaa
open Go.RowKit Go.Shelf

attribute [local go_sem] Oper.semAt_some

theorem bk_app (A C : List Tm.E) (k : Tm.K) : Tm.back (A ++ C) k = Tm.back C k ++ Tm.back A k := by simp [Tm.back]
theorem bk_hi {A : List Tm.E} {k : Tm.K} (h : Tm.Hi A k) : Tm.back A k = [] := by
  unfold Tm.back
  rw [List.reverse_eq_nil_iff, List.filter_eq_nil_iff]
  intro p hp
  rw [h p hp]; decide
set_option maxHeartbeats 2000000 in
set_option maxRecDepth 100000 in
theorem tre_back {ex : Nat → Prop} {B ly N : Nat} {k : Tm.K} {J Jx : List Tm.E → World → Prop} (hJ : AbidesFrom B J) (hY : ∀ m, Yl8 ex m ly N J Jx) : ∀ {h lo p m : Nat} {t : Tm.T} {pre0 : List Tm.E} {W : World}, Tn ex h p t W → (h = 0 ∨ 1 ≤ lo) → Tm.Wf h lo t → Tm.Asc (Tm.flat h t) →
    pre0.length + (Tm.back (Tm.flat h t) k).length ≤ N → J pre0 W →
    CallsIn Fence.wide m Try.prog 37 #[ptr p, .string (bstr k), .func (.yield ly) #[] #[]] W (Fr8 ex J Jx pre0 (Tm.back (Tm.flat h t) k) W)
  | 0, _, _, _, .inner _, _, _, ht, _, _, _, _, _ => by obtain ⟨l, e, _⟩ := ht; cases e
  | _ + 1, _, _, _, .leaf _, _, _, ht, _, _, _, _, _ => by obtain ⟨l, ps, e, _⟩ := ht; cases e
  | 0, lo, p, m, .leaf l, pre0, W, ht, _, hw, ha, hN, h0 => callsIn_wide.2 (callsIn_wide.1 (tre_backL ht hw.2 ha hJ (hY m) hN h0))
  | h + 1, lo, p, m, .inner ks, pre0, W, ht, hlo, hw, ha, hN, h0 => by
    obtain ⟨h1, h2, h3⟩ := hw
    have hlo1 : 1 ≤ lo := by omega
    have HKID := Lib.hid (tre_hasKids ht)
    have hkd : decide (0 < (Tm.T.inner ks).ks.length) = true := decide_eq_true (show 0 < ks.length by omega)
    rw [hkd] at HKID
    have HK : Hid (Calls Try.prog 31 #[.pointer (some ⟨p, 0, none⟩)] W fun e w' => e = .returned (.bool true) ∧ W = w') := HKID.out
    have hak := Tm.keys_asc (h + 1) (.inner ks) h3 ha
    obtain ⟨i, hi⟩ : ∃ i, i = Tm.chd (ks.map (Tm.fk h)) k := ⟨_, rfl⟩
    obtain ⟨hil, hA, hC, hfl⟩ := Tm.split (i := i) k h3 (by omega) ha hi
    have HC : Hid (∀ w, Below W.heap.size W w → Calls Try.prog 32 #[.pointer (some ⟨p, 0, none⟩), .string (bstr k)] w fun e w' => e = .returned (.int .i64 (i : Int)) ∧ Below w.heap.size w w') := fun w hbw => by
      have := tre_child k (ht.below hbw) (show ks.length ≤ 100 by omega) hak
      rw [show Tm.keys (h + 1) (.inner ks) = ks.map (Tm.fk h) from rfl, ← hi] at this
      exact this
    obtain ⟨L, hL⟩ : ∃ L, L = Tm.back (Tm.flat (h + 1) (.inner ks)) k := ⟨_, rfl⟩
    rw [← hL] at hN ⊢
    have hLd : L = Tm.back (Tm.flats h (ks.take (i + 1))) k := by
      rw [hL, Tm.flat_succ]
      conv => lhs; rw [← List.take_append_drop (i + 1) ks, Tm.flats_app, bk_app, bk_hi hC, List.nil_append]
    obtain ⟨n, hn⟩ : ∃ n, n = ks.length := ⟨_, rfl⟩
    have HQ : Hid (∀ j, j ≤ i → Tm.back (Tm.flats h ((ks.take (i + 1)).drop j)) k = Tm.back (Tm.flats h ((ks.take (i + 1)).drop (j + 1))) k ++ Tm.back (Tm.flat h (ks.getD j (.leaf []))) k ∧ Tm.back (Tm.flats h ((ks.take (i + 1)).drop j)) k <+: L) := fun j hj => by
      have hjl : j < (ks.take (i + 1)).length := by rw [List.length_take]; omega
      have hjk : j < ks.length := by omega
      constructor
      · conv => lhs; rw [List.drop_eq_getElem_cons hjl, Tm.flats_cons, bk_app]
        congr 2
        simp [List.getD, List.getElem?_eq_getElem hjk]
      · refine ⟨Tm.back (Tm.flats h ((ks.take (i + 1)).take j)) k, ?_⟩
        rw [← bk_app, ← Tm.flats_app, List.take_append_drop, hLd]
    have HQE : Hid (Tm.back (Tm.flats h ((ks.take (i + 1)).drop 0)) k = L) := by show _ = _; rw [List.drop_zero, hLd]
    have HQ0 : Hid (Tm.back (Tm.flats h ((ks.take (i + 1)).drop (i + 1))) k = []) := by
      show _ = _
      rw [List.drop_eq_nil_of_le (by rw [List.length_take]; omega)]
      simp [Tm.flats, Tm.back]
    obtain ⟨bg, boff, bc, p2, hbc, hbc64, hbg, hpl, hkid⟩ := ht.each (by omega)
    have HKD : Hid (∀ w j m pre, Only ex W w → j < n → pre.length + (Tm.back (Tm.flat h (ks.getD j (.leaf []))) k).length ≤ N → J pre w → ∃ y, w.cell? ⟨bg, boff + j, none⟩ = some (.pointer (some ⟨y, 0, none⟩)) ∧ Hid (CallsIn Fence.wide m Try.prog 37 #[.pointer (some ⟨y, 0, none⟩), .string (bstr k), .func (.yield ly) #[] #[]] w (Fr8 ex J Jx pre (Tm.back (Tm.flat h (ks.getD j (.leaf []))) k) w))) := fun w j m pre ho hj hpN hpJ => by
      obtain ⟨y, hyc, hyT⟩ := hkid j (by omega)
      have hbx : ¬ ex bg := by
        obtain ⟨ks', ps, el, hxp, hpl2, ⟨ka, kc, va, vc, ba, bc', hnb, hk, hv, hcp⟩, hj'⟩ := ht
        injection el with el
        subst el
        rw [Lib.cell_of_heap hnb] at p2
        injection p2 with p2
        injection p2 with e1 e2 e3
        subst e1
        obtain ⟨g', off', e, _, _, hx, _⟩ := hv.row (by omega)
        injection e with e
        injection e with e
        rw [e]; exact hx
      refine ⟨y, ?_, ?_⟩
      · exact (cell_only8 ho (q := ⟨bg, boff + j, none⟩) hbg hbx).trans hyc
      · have hjl : j < ks.length := by omega
        refine tre_back hJ hY (hyT.keep ho) (.inr (show 1 ≤ 4 by decide)) (h3 _ (Tm.getD_mem hjl)) ?_ hpN hpJ
        have := ha
        rw [Tm.flat_succ, Tm.flats_split h ks hjl] at this
        exact (Tm.asc_app (Tm.asc_app this).2.1).1
    rw [← hn] at p2 hbc hil
    have HN := Lib.hid hN; have HJ := Lib.hid hJ; have H0 := Lib.hid h0
    have hpx : ¬ ex p := ht.lt.2
    have HP2 : Hid (∀ w, Only ex W w → w.cell? ⟨p, 2, none⟩ = some (.slice (some ⟨bg, boff, none⟩) n bc)) := fun w hb => (cell_only8 hb (q := ⟨p, 2, none⟩) hpl hpx).trans p2
    have hi0 : (0 : Int) ≤ (i : Int) := by omega
    have hin : (i : Int) ≤ (n : Int) := by omega
    have hnb : (n : Int) ≤ (bc : Int) := by omega
    have hn8 : n ≤ 8 := by omega
    clear hpx HKID hak ht h1 h3 hlo hlo1 hkd hi hA hC hfl ha hN h0 hL hLd hn hkid p2 h2
    generalize bstr k = S at *
    unfold ptr
    refine callsIn_of_wp Try.func37 rfl trivial ?_ rfl
    simp only [Try.ntmps37, List.size_toArray, List.length_cons, List.length_nil, Nat.reduceAdd, Nat.reduceSub, Array.replicate_succ, Array.replicate_zero, List.push_toArray, List.append_toArray, List.nil_append, List.cons_append]
    gi_wp2_with fail
    refine ⟨trivial, fun h => (by cases h), (callsIn_wide.2 HK.out).mono ?_⟩
    rintro e w0 ⟨rfl, rfl⟩
    gi_wp2_with fail
    refine ⟨trivial, fun h => (by cases h), (callsIn_wide.2 (HC.out W (Below.refl _ W))).mono ?_⟩
    rintro e w1 ⟨rfl, hbw⟩
    have HO1 : Hid (Only ex W w1) := only_of8 hbw
    have HJ1 : Hid (J (pre0 ++ Tm.back (Tm.flats h ((ks.take (i + 1)).drop (i + 1))) k) w1) := by
      show J _ _
      rw [HQ0.out, List.append_nil]
      exact ab8 HJ.out H0.out hbw
    clear hbw H0 HQ0
    gi_wp2_with fail
    gi_loopw [7] (fun iv wr => ∃ (c : Nat) (ci : Int), c ≤ i + 1 ∧ ci + 1 = (c : Int) ∧ iv = .int .i64 ci ∧ Hid (J (pre0 ++ Tm.back (Tm.flats h ((ks.take (i + 1)).drop c)) k) wr) ∧ Hid (Only ex W wr)) (fun iv _ => (ixOf iv + 1).toNat)
    case atStart => exact ⟨i + 1, (i : Int), Nat.le_refl _, by omega, rfl, HJ1.out, HO1.out⟩
    case round =>
      clear HJ1 HO1
      obtain ⟨c, ci, hj, hci, rfl, HJr, HOr⟩ := hrel
      cases c with
      | zero =>
        obtain rfl : ci = -1 := by omega
        have HE : Hid (Fr8 ex J Jx pre0 L W (.returned (.bool true)) wr) := .inl ⟨rfl, by
          have := HJr.out
          rw [HQE.out] at this
          exact this, HOr.out⟩
        clear HQ HQE HKD HJr HOr
        gi_wp2
        go_ret
        exact HE.out
      | succ j =>
        obtain rfl : ci = (j : Int) := by omega
        have hj0 : (0 : Int) ≤ (j : Int) := by omega
        have hjn : (j : Int) < (n : Int) := by omega
        obtain ⟨hq1, hq2⟩ := HQ.out j (by omega)
        obtain ⟨y, yc, HFR⟩ := HKD.out wr j (m - 1) _ HOr.out (by omega) (by
          have h5 := hq2.length_le
          rw [hq1, List.length_append] at h5
          have h6 := HN.out
          rw [List.length_append]
          omega) HJr.out
        have p2r := HP2.out wr HOr.out
        have HQ1 := Lib.hid hq1; have HQ2 := Lib.hid hq2
        clear HKD HQ HQE hq1 hq2 HJr HP2
        gi_wp2_with fail
        refine ⟨trivial, fun h => (by cases h), HFR.out.mono ?_⟩
        rintro e1 w2 (⟨rfl, hJ2, hO2⟩ | ⟨rfl, q, hq, hx⟩)
        · have HJ2 : Hid (J (pre0 ++ Tm.back (Tm.flats h ((ks.take (i + 1)).drop j)) k) w2) := by
            show J _ _
            rw [HQ1.out, ← List.append_assoc]; exact hJ2
          have HO2 : Hid (Only ex W w2) := HOr.out.trans hO2
          clear hJ2 hO2 HFR HOr yc p2r
          gi_wp2_with fail
          go_roundw
          case rel => exact ⟨j, (j : Int) - 1, by omega, by omega, by go_num, HJ2, HO2⟩
          case measure => simp [ixOf]
        · have HF2 : Hid (Fr8 ex J Jx pre0 L W (.returned (.bool false)) w2) := .inr ⟨rfl, Tm.back (Tm.flats h ((ks.take (i + 1)).drop (j + 1))) k ++ q, by
            refine List.IsPrefix.trans ?_ HQ2.out
            rw [HQ1.out]
            exact (List.prefix_append_right_inj _).2 hq, by rw [← List.append_assoc]; exact hx⟩
          clear hx hq HFR HOr yc p2r
          gi_wp2
          go_ret
          exact HF2.out
end Go.Proofs.Ytlakolcjgnmllaa
