/- Package tree: with; the tree's object; top, Len. -/
import Derived.Test.YtdchapcpimhjaaaTreC9
namespace Go.Proofs.Ytdchapcpimhjaaa
open Go.RowKit

set_option maxHeartbeats 4000000 in
set_option maxRecDepth 100000 in
theorem tre_with {ex : Nat → Prop} {k : Tm.K} {v : Int} : ∀ {h p lo : Nat} {t : Tm.T} {W : World}, Tn ex h p t W → (h = 0 ∨ 1 ≤ lo) → Tm.Wf h lo t → Tm.Asc (Tm.flat h t) → (Tm.flat h t).length ≤ 400000 → (∀ k, W.heap.size ≤ k → ¬ ex k) →
    Calls Try.prog 59 #[ptr p, .string (bstr k), .int .i64 v] W fun e w' => ∃ a n c, e = .returned (.slice a n c) ∧ Hid (Hs ex h (Tm.wi h t k v) a n c w') ∧ Below W.heap.size W w'
  | 0, _, _, .inner _, _, ht, _, _, _, _, _ => by obtain ⟨l, e, _⟩ := ht; cases e
  | _ + 1, _, _, .leaf _, _, ht, _, _, _, _, _ => by obtain ⟨l, ps, e, _⟩ := ht; cases e
  | 0, p, lo, .leaf l, W, ht, _, hw, ha, hs, hex => tre_withL ht hw.2 ha hex
  | h + 1, p, lo, .inner ks, W, ht, hlo, hw, ha, hs, hex => by
    obtain ⟨h1, h2, h3⟩ := hw
    have hlo2 : 1 ≤ lo := by omega
    have HKID := Lib.hid (fun W' (hb : Below W.heap.size W W') => tre_hasKids (ht.below hb))
    have hkd : decide (0 < (Tm.T.inner ks).ks.length) = true := decide_eq_true (show 0 < ks.length by omega)
    rw [hkd] at HKID
    have hak := Tm.keys_asc (h + 1) (.inner ks) h3 ha
    obtain ⟨i, hi⟩ : ∃ i, i = Tm.chd (ks.map (Tm.fk h)) k := ⟨_, rfl⟩
    have HC0 := tre_child k ht (show ks.length ≤ 100 by omega) hak
    rw [show Tm.keys (h + 1) (.inner ks) = ks.map (Tm.fk h) from rfl, ← hi] at HC0
    obtain ⟨hil, hA, hC, hfl⟩ := Tm.split (i := i) k h3 (by omega) ha hi
    obtain ⟨u, hu⟩ : ∃ u, u = ks.getD i (.leaf []) := ⟨_, rfl⟩
    have hwo : Tm.wi (h + 1) (.inner ks) k v = Tm.hv (.inner (Tm.spl ks i (i + 1) (Tm.wi h u k v))) := by rw [hu, hi]; rfl
    rw [hwo]
    have hwu : Tm.Wf h 4 u := by rw [hu]; exact h3 _ (Tm.getD_mem hil)
    rw [← hu] at hfl
    rw [Tm.flat_succ] at ha hs
    have hau : Tm.Asc (Tm.flat h u) := by
      have := ha
      rw [hfl] at this
      exact (Tm.asc_app (Tm.asc_app this).2.1).1
    have hsu : (Tm.flat h u).length ≤ (Tm.flats h ks).length := by rw [hfl]; simp; omega
    obtain ⟨X, hX⟩ : ∃ X, X = Tm.wi h u k v := ⟨_, rfl⟩
    obtain ⟨j, hj⟩ : ∃ j, j = i + 1 := ⟨_, rfl⟩
    obtain ⟨ok1, ok2⟩ := Tm.wi_ok h 4 u k v (.inr (by decide)) hwu hau
    rw [← hX] at ok1 ok2
    have hXw : (∀ t ∈ X, Tm.Wf h 4 t) ∧ 1 ≤ X.length ∧ X.length ≤ 2 := by
      rcases ok2 with ⟨a, e, wa⟩ | ⟨a, b, e, wa, wb⟩
      · rw [e]; exact ⟨fun t ht => by rw [List.mem_singleton.1 ht]; exact wa, by simp, by simp⟩
      · rw [e]
        refine ⟨fun t ht => ?_, by simp, by simp⟩
        rcases List.mem_cons.1 ht with rfl | ht
        · exact wa
        · rw [List.mem_singleton.1 ht]; exact wb
    obtain ⟨hXw, hX1, hX2⟩ := hXw
    have hXl : (Tm.flats h X).length ≤ (Tm.flat h u).length + 1 := by
      rw [ok1]
      have := Tm.ins_len (Tm.flat h u) k v hau
      split at this <;> omega
    have hsl := Tm.spl_len ks (a := i) (b := j) X (by omega) (by omega)
    have hsf : (Tm.flats h (Tm.spl ks i j X)).length ≤ 1000000 := by
      have h5 := Tm.flats_spl h ks X i j
      have h6 := Tm.flats_kid h ks hil
      rw [← hu, ← hj] at h6
      omega
    have hwf := Tm.mem_spl (a := i) (b := j) h3 hXw
    rw [← hX, ← hj]
    obtain ⟨ba, bc, p2, h1s, hpl, hkid⟩ := ht.kids
    obtain ⟨bg, boff, y, rfl, hbg, hbc, hycell, hy⟩ := hkid i hil
    rw [← hu] at hy
    obtain ⟨n, hnn⟩ : ∃ n, n = ks.length := ⟨_, rfl⟩
    have hex1 : ∀ W', Below W.heap.size W W' → ∀ k, W'.heap.size ≤ k → ¬ ex k := fun W' hb k hk => hex k (by have := hb.size; omega)
    have HWI : Hid (∀ w, Below W.heap.size W w → Calls Try.prog 59 #[.pointer (some ⟨y, 0, none⟩), .string (bstr k), .int .i64 v] w fun e w' => ∃ a n c, e = .returned (.slice a n c) ∧ Hid (Hs ex h X a n c w') ∧ Below w.heap.size w w') := fun w hb => by
      rw [hX]
      exact tre_with (hy.below hb) (.inr (show 1 ≤ 4 by decide)) hwu hau (by omega) (hex1 w hb)
    rw [← hnn] at h1s hil hbc p2 h1 h2 hsl
    have HSP : Hid (∀ w ea en ec, Below W.heap.size W w → Hs ex h X ea en ec w → Calls Try.prog 66 #[.slice (some ⟨bg, boff, none⟩) n bc, .int .i64 (i : Int), .int .i64 (j : Int), .slice ea en ec] w fun e w' => ∃ a N, e = .returned (.slice a N N) ∧ Hid (Hs ex h (Tm.spl ks i j X) a N N w') ∧ Below w.heap.size w w') := fun w ea en ec hb hh =>
      tre_splH i j (h1s.below hb) hh (by omega) (by omega) (by omega) (by omega) (by have := hh.1; omega) (hex1 w hb)
    have HIN : Hid (∀ w a N, Below W.heap.size W w → Hs ex h (Tm.spl ks i j X) a N N w → Calls Try.prog 65 #[.slice a N N] w fun e w' => ∃ z, e = .returned (.pointer (some ⟨z, 0, none⟩)) ∧ Hid (Tn ex (h + 1) z (.inner (Tm.spl ks i j X)) w') ∧ Below w.heap.size w w') := fun w a N hb hh =>
      tre_innerH hh (by have := hh.1; omega) (by have := hh.1; omega) hwf hsf (hex1 w hb)
    have HHV : Hid (∀ w z, Below W.heap.size W w → Tn ex (h + 1) z (.inner (Tm.spl ks i j X)) w → Calls Try.prog 67 #[.pointer (some ⟨z, 0, none⟩)] w fun e w' => ∃ a n c, e = .returned (.slice a n c) ∧ Hid (Hs ex (h + 1) (Tm.hv (.inner (Tm.spl ks i j X))) a n c w') ∧ Below w.heap.size w w') := fun w z hb hz =>
      tre_halves hz hwf (show (Tm.spl ks i j X).length ≤ 11 by omega) hsf (hex1 w hb)
    have HCH : Hid (Calls Try.prog 62 #[.pointer (some ⟨p, 0, none⟩), .string (bstr k)] W fun e w' => e = .returned (.int .i64 (i : Int)) ∧ Below W.heap.size W w') := HC0
    have HKID2 : Hid (∀ W', Below W.heap.size W W' → Calls Try.prog 61 #[.pointer (some ⟨p, 0, none⟩)] W' fun e w' => e = .returned (.bool true) ∧ W' = w') := HKID.out
    have SB : Hid (∀ w', Below W.heap.size W w' → w'.cell? ⟨p, 2, none⟩ = some (.slice (some ⟨bg, boff, none⟩) n bc) ∧ w'.cell? ⟨bg, boff + i, none⟩ = some (.pointer (some ⟨y, 0, none⟩))) := fun w' hb => ⟨(hb.cell (p := ⟨p, 2, none⟩) hpl).trans p2, (hb.cell (p := ⟨bg, boff + i, none⟩) hbg).trans hycell⟩
    have hi1 : (i : Int) < (n : Int) := by omega
    have hji : IntKind.i64.wrap ((i : Int) + 1) = (j : Int) := by rw [IntWalk.i64_in _ (by omega)]; omega
    clear HKID HC0 hak ht hex hex1 h1 h2 h3 hlo hlo2 hkd hi hA hC hfl hu hwo hwu ha hs hau hsu hX ok1 ok2 hXl hXw hX1 hX2 hsl hsf hwf p2 h1s hkid hycell hy hnn hj
    generalize bstr k = S at *
    unfold ptr
    go_enter Try.func59, Try.ntmps59
    go_wp2_with fail
    refine (HKID2.out W (Below.refl _ W)).mono ?_
    rintro e w0 ⟨rfl, rfl⟩
    go_wp2_with fail
    refine HCH.out.mono ?_
    rintro e w1 ⟨rfl, hb1⟩
    have HB0 : Hid (Below W.heap.size W w1.drew) := hb1.trans ((below_dr8 w1).mono hb1.size)
    clear hb1
    go_upto_region 3 with (fail)
    go_region_held3 (fun w' => w'.cell? ⟨p, 2, none⟩ = some (.slice (some ⟨bg, boff, none⟩) n bc) ∧ w'.cell? ⟨bg, boff + i, none⟩ = some (.pointer (some ⟨y, 0, none⟩))) (first | exact SB.out _ HB0.out | exact SB.out _ (by assumption))
      (first
        | (go_at_call 59; refine (HWI.out _ HB0.out).mono ?_; rintro e w2 ⟨a2, n2, c2, rfl, hr2, hb2⟩; have B2 := HB0.out.trans (hb2.mono HB0.out.size))
        | (go_at_call 66; refine (HSP.out _ _ _ _ B2 hr2.out).mono ?_; rintro e w3 ⟨a3, N3, rfl, hr3, hb3⟩; have B3 := B2.trans (hb3.mono B2.size))
        | (go_at_call 65; refine (HIN.out _ _ _ B3 hr3.out).mono ?_; rintro e w4 ⟨z, rfl, ht4, hb4⟩; have B4 := B3.trans (hb4.mono B3.size))
        | (go_at_call 67; refine (HHV.out _ _ B4 ht4.out).mono ?_; rintro e w5 ⟨a5, n5, c5, rfl, hr5, hb5⟩; have B5 := B4.trans (hb5.mono B4.size)))
    have HB5 := Lib.hid B5
    clear hr2 hr3 hb2 hb3 hb4 hb5 B2 B3 B4 B5 HWI HSP HIN HHV SB ht4
    go_wp2
    go_ret
    exact ⟨_, _, _, rfl, hr5, HB5.out⟩
end Go.Proofs.Ytdchapcpimhjaaa
