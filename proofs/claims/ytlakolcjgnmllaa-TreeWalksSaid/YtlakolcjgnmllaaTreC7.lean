/- Package tree: replace, above. -/
import Derived.Test.YtlakolcjgnmllaaTreC6
namespace Go.Proofs.Ytlakolcjgnmllaa
open Go.RowKit

theorem Tm.keys_len (h : Nat) : ∀ t : Tm.T, (Tm.keys h t).length = Tm.cnt t
  | .leaf _ => List.length_map _
  | .inner _ => List.length_map _
theorem Tm.hv_wf {h : Nat} {y : Tm.T} (hw : Tm.Wb h y) (hc : Tm.cnt y ≤ 11) (h4 : 4 ≤ Tm.cnt y) : (∀ t ∈ Tm.hv y, Tm.Wf h 4 t) ∧ 1 ≤ (Tm.hv y).length ∧ (Tm.hv y).length ≤ 2 ∧ Tm.flats h (Tm.hv y) = Tm.flat h y := by
  obtain ⟨h1, h2⟩ := Tm.hv_ok h y hw hc
  rcases h2 with ⟨h5, h6⟩ | ⟨h5, a, b, h6, h7, h8⟩
  · rw [h6] at h1 ⊢
    exact ⟨fun t ht => by rw [List.mem_singleton.1 ht]; exact (Tm.wf_iff h 4 y).2 ⟨h4, h5, hw⟩, by simp, by simp, h1⟩
  · rw [h6] at h1 ⊢
    refine ⟨fun t ht => ?_, by simp, by simp, h1⟩
    rcases List.mem_cons.1 ht with rfl | ht
    · exact h7
    · rw [List.mem_singleton.1 ht]; exact h8
theorem Tm.flats_spl (h : Nat) (l e : List Tm.T) (a b : Nat) : (Tm.flats h (Tm.spl l a b e)).length = (Tm.flats h (l.take a)).length + (Tm.flats h e).length + (Tm.flats h (l.drop b)).length := by
  unfold Tm.spl; rw [Tm.flats_app, Tm.flats_app, List.length_append, List.length_append]; omega
theorem Tm.mem_spl {h : Nat} {l e : List Tm.T} {a b : Nat} (hl : ∀ t ∈ l, Tm.Wf h 4 t) (he : ∀ t ∈ e, Tm.Wf h 4 t) : ∀ t ∈ Tm.spl l a b e, Tm.Wf h 4 t := fun t ht => by
  unfold Tm.spl at ht
  rcases List.mem_append.1 ht with ht | ht
  · exact hl t (List.mem_of_mem_take ht)
  rcases List.mem_append.1 ht with ht | ht
  · exact he t ht
  · exact hl t (List.mem_of_mem_drop ht)
theorem Tm.flats_len (h : Nat) (l : List Tm.T) (a : Nat) : (Tm.flats h (l.take a)).length + (Tm.flats h (l.drop a)).length = (Tm.flats h l).length := by
  conv => rhs; rw [← List.take_append_drop a l, Tm.flats_app, List.length_append]
theorem Tm.flats_kid (h : Nat) (l : List Tm.T) {i : Nat} (hi : i < l.length) : (Tm.flats h (l.take i)).length + (Tm.flat h (l.getD i (.leaf []))).length + (Tm.flats h (l.drop (i + 1))).length = (Tm.flats h l).length := by
  rw [Tm.flats_split h l hi, List.length_append, List.length_append]; omega
theorem Tm.flats_drop1 (h : Nat) (l : List Tm.T) (i : Nat) : (Tm.flats h (l.drop (i + 1))).length ≤ (Tm.flats h (l.drop i)).length := by
  rcases Nat.lt_or_ge i l.length with hi | hi
  · rw [List.drop_eq_getElem_cons hi, Tm.flats_cons, List.length_append]; omega
  · rw [List.drop_eq_nil_of_le (by omega)]; simp [Tm.flats]
/-- the children of an inner node, as a row -/
theorem Tn.kids {ex : Nat → Prop} {h p : Nat} {ks : List Tm.T} {W : World} (ht : Tn ex (h + 1) p (.inner ks) W) : ∃ ba bc, W.cell? ⟨p, 2, none⟩ = some (.slice ba ks.length bc) ∧ Hs ex h ks ba ks.length bc W ∧ p < W.heap.size ∧
    ∀ j, j < ks.length → ∃ bg boff q, ba = some ⟨bg, boff, none⟩ ∧ bg < W.heap.size ∧ ks.length ≤ bc ∧ W.cell? ⟨bg, boff + j, none⟩ = some (.pointer (some ⟨q, 0, none⟩)) ∧ Tn ex h q (ks.getD j (.leaf [])) W := by
  obtain ⟨ks', ps, el, hxp, hpl2, ⟨ka, kc, va, vc, ba, bc, hn, hk, hv, hcp⟩, hj⟩ := ht
  injection el with el
  subst el
  refine ⟨ba, bc, by rw [Lib.cell_of_heap hn]; rfl, ⟨rfl, hcp.2.2, ps, hpl2, hv, hj⟩, heap_lt hn, fun j hjl => ?_⟩
  obtain ⟨bg, boff, e, hc, hg, hcell⟩ := hv.at (by omega)
  exact ⟨bg, boff, ps.getD j 0, e, hg, hc, by rw [hcell j hjl, pv_get ps (by omega)]; rfl, hj j hjl⟩
/-- the number of keys of a node, as a row -/
theorem Tn.cnt {ex : Nat → Prop} {h p : Nat} {t : Tm.T} {W : World} (ht : Tn ex h p t W) : ∃ ka kc, W.cell? ⟨p, 0, none⟩ = some (.slice ka (Tm.cnt t) kc) := by
  obtain ⟨ka, kc, va, vn, vc, ba, bn, bc, hn, _⟩ := ht.node
  rw [Tm.keys_len] at hn
  exact ⟨ka, kc, by rw [Lib.cell_of_heap hn]; rfl⟩
set_option maxHeartbeats 4000000 in
set_option maxRecDepth 100000 in
theorem tre_replA {ex : Nat → Prop} {h p q i : Nat} {ks : List Tm.T} {x : Tm.T} {W : World} (ht : Tn ex (h + 1) p (.inner ks) W) (hx : Tn ex h q x W) (hi : i < ks.length) (hc : ks.length ≤ 8) (hw : ∀ t ∈ ks, Tm.Wf h 4 t) (hwx : Tm.Wf h 4 x) (hsz : (Tm.flats h ks).length + (Tm.flat h x).length ≤ 1000000) (hex : ∀ k, W.heap.size ≤ k → ¬ ex k) :
    Calls Try.prog 44 #[ptr p, .int .i64 (i : Int), ptr q] W fun e w' => ∃ z, e = .returned (.pointer (some ⟨z, 0, none⟩)) ∧ Hid (Tn ex (h + 1) z (.inner (Tm.spl ks i (i + 1) [x])) w') ∧ Below W.heap.size W w' := by
  obtain ⟨ba, bc, p2, h1s, hpl, -⟩ := ht.kids
  obtain ⟨ka, kc, q0⟩ := hx.cnt
  have hcx := ((Tm.wf_iff h 4 x).1 hwx).1
  have hsl := Tm.spl_len ks (a := i) (b := i + 1) [x] (by omega) (by omega)
  rw [List.length_singleton] at hsl
  have hfl : (Tm.flats h (Tm.spl ks i (i + 1) [x])).length ≤ 1000000 := by
    have h1 := Tm.flats_spl h ks [x] i (i + 1)
    have h2 := Tm.flats_kid h ks hi
    rw [Tm.flats_one] at h1
    omega
  have hwf := Tm.mem_spl (a := i) (b := i + 1) hw (e := [x]) (fun t ht => by rw [List.mem_singleton.1 ht]; exact hwx)
  obtain ⟨n, hnn⟩ : ∃ n, n = ks.length := ⟨_, rfl⟩
  obtain ⟨m, hm⟩ : ∃ m, m = Tm.cnt x := ⟨_, rfl⟩
  obtain ⟨j, hj⟩ : ∃ j, j = i + 1 := ⟨_, rfl⟩
  have hji : (i : Int) + 1 = (j : Int) := by omega
  rw [← hj] at hsl hfl hwf ⊢
  rw [← hnn] at p2 h1s hi hc hsl
  rw [← hm] at q0 hcx
  have hm4 : 4 ≤ (m : Int) := by omega
  obtain ⟨W1, hW1⟩ : ∃ W1, W1 = W.alloc (.cells #[.pointer (some ⟨q, 0, none⟩)] 58) := ⟨_, rfl⟩
  have hb1 : Below W.heap.size W W1 := by rw [hW1]; exact one_b8 W _
  have hq1 : Hs ex h [x] (some ⟨W.heap.size, 0, none⟩) 1 1 W1 := by rw [hW1]; exact Hs.one hx (hex _ (Nat.le_refl _)) _
  have hex1 : ∀ W', Below W.heap.size W W' → ∀ k, W'.heap.size ≤ k → ¬ ex k := fun W' hb k hk => hex k (by have := hb.size; omega)
  have HK1 : Hid (Calls Try.prog 39 #[.slice ba n bc, .int .i64 (i : Int), .int .i64 (j : Int), .slice (some ⟨W.heap.size, 0, none⟩) 1 1] W1 fun e w' => ∃ a N, e = .returned (.slice a N N) ∧ Hid (Hs ex h (Tm.spl ks i j [x]) a N N w') ∧ Below W1.heap.size W1 w') :=
    tre_splH i j (h1s.below hb1) hq1 (by omega) (by omega) (by omega) (by omega) (by omega) (hex1 W1 hb1)
  have HI1 : Hid (∀ w a N, Below W.heap.size W w → Hs ex h (Tm.spl ks i j [x]) a N N w → Calls Try.prog 38 #[.slice a N N] w fun e w' => ∃ z, e = .returned (.pointer (some ⟨z, 0, none⟩)) ∧ Hid (Tn ex (h + 1) z (.inner (Tm.spl ks i j [x])) w') ∧ Below w.heap.size w w') := fun w a N hb hh =>
    tre_innerH hh (by have := hh.1; omega) (by have := hh.1; omega) hwf hfl (hex1 w hb)
  have HB1 := Lib.hid hb1
  have HW1 := Lib.hid hW1
  clear ht hx h1s hq1 hw hwx hsz hex hex1 hfl hwf hsl hnn hm hj hb1 hW1 hcx
  unfold ptr
  go_enter Try.func44, Try.ntmps44
  go_wp2_with fail
  rw [← HW1.out]
  refine HK1.out.mono ?_
  rintro e w2 ⟨a2, N2, rfl, hr2, hb2⟩
  have HB2 := Lib.hid (HB1.out.trans (hb2.mono HB1.out.size))
  clear hb2
  go_wp2_with fail
  refine (HI1.out _ _ _ HB2.out hr2.out).mono ?_
  rintro e w3 ⟨z, rfl, ht3, hb3⟩
  have HB3 := Lib.hid (HB2.out.trans (hb3.mono HB2.out.size))
  clear hb3 hr2
  go_wp2
  go_ret
  exact ⟨_, rfl, ht3, HB3.out⟩
set_option maxHeartbeats 4000000 in
set_option maxRecDepth 100000 in
theorem tre_replB {ex : Nat → Prop} {h p q i : Nat} {ks : List Tm.T} {x : Tm.T} {W : World} (ht : Tn ex (h + 1) p (.inner ks) W) (hx : Tn ex h q x W) (h0 : 0 < i) (hi : i < ks.length) (hc : ks.length ≤ 8) (hw : ∀ t ∈ ks, Tm.Wf h 4 t) (hwx : Tm.Wf h 3 x) (hx4 : ¬ 4 ≤ Tm.cnt x) (hsz : (Tm.flats h ks).length + (Tm.flat h x).length ≤ 1000000) (hex : ∀ k, W.heap.size ≤ k → ¬ ex k) :
    Calls Try.prog 44 #[ptr p, .int .i64 (i : Int), ptr q] W fun e w' => ∃ z, e = .returned (.pointer (some ⟨z, 0, none⟩)) ∧ Hid (Tn ex (h + 1) z (.inner (Tm.spl ks (i - 1) (i + 1) (Tm.hv (Tm.jn (ks.getD (i - 1) (.leaf [])) x)))) w') ∧ Below W.heap.size W w' := by
  obtain ⟨ba, bc, p2, h1s, hpl, hkid⟩ := ht.kids
  obtain ⟨ka, kc, q0⟩ := hx.cnt
  obtain ⟨j0, hj0⟩ : ∃ j0, j0 = i - 1 := ⟨_, rfl⟩
  obtain ⟨j, hj⟩ : ∃ j, j = i + 1 := ⟨_, rfl⟩
  rw [← hj0, ← hj]
  obtain ⟨bg, boff, y, rfl, hbg, hbc, hycell, hy⟩ := hkid j0 (by omega)
  obtain ⟨u, hu⟩ : ∃ u, u = ks.getD j0 (.leaf []) := ⟨_, rfl⟩
  have hwu : Tm.Wf h 4 u := by rw [hu]; exact hw _ (Tm.getD_mem (by omega))
  rw [← hu] at hy ⊢
  have hwu3 := Tm.wf_up hwu (lo' := 3) (by have := ((Tm.wf_iff h 4 u).1 hwu).1; omega)
  have hcx := (Tm.wf_iff h 3 x).1 hwx
  have hcu := (Tm.wf_iff h 4 u).1 hwu
  obtain ⟨jw1, jw2, jw3⟩ := Tm.jn_wb h hcu.2.2 hcx.2.2
  have hfk := Tm.flats_kid h ks (i := j0) (by omega)
  rw [← hu] at hfk
  obtain ⟨J, hJ⟩ : ∃ J, J = Tm.jn u x := ⟨_, rfl⟩
  rw [← hJ] at jw1 jw2 jw3 ⊢
  have hJl : (Tm.flat h J).length = (Tm.flat h u).length + (Tm.flat h x).length := by rw [jw2, List.length_append]
  obtain ⟨hv1, hv2, hv3, hv4⟩ := Tm.hv_wf jw1 (by omega) (by omega)
  have hsl := Tm.spl_len ks (a := j0) (b := j) (Tm.hv J) (by omega) (by omega)
  have hfl : (Tm.flats h (Tm.spl ks j0 j (Tm.hv J))).length ≤ 1000000 := by
    have h1 := Tm.flats_spl h ks (Tm.hv J) j0 j
    have h3 := Tm.flats_drop1 h ks (j0 + 1)
    rw [hv4] at h1
    rw [show j0 + 1 + 1 = j by omega] at h3
    omega
  have hwf := Tm.mem_spl (a := j0) (b := j) hw hv1
  obtain ⟨n, hnn⟩ : ∃ n, n = ks.length := ⟨_, rfl⟩
  obtain ⟨m, hm⟩ : ∃ m, m = Tm.cnt x := ⟨_, rfl⟩
  have hji : IntKind.i64.wrap ((i : Int) + 1) = (j : Int) := by rw [IntWalk.i64_in _ (by omega)]; omega
  have hj0i : IntKind.i64.wrap ((i : Int) - 1) = (j0 : Int) := by rw [IntWalk.i64_in _ (by omega)]; omega
  rw [← hnn] at p2 h1s hi hc hsl hbc
  rw [← hm] at q0 hx4
  have hm4 : ¬ 4 ≤ (m : Int) := by omega
  have hi0 : (0 : Int) < (i : Int) := by omega
  have hj0a : (0 : Int) ≤ (j0 : Int) := by omega
  have hj0b : (j0 : Int) < (n : Int) := by omega
  have hex1 : ∀ W', Below W.heap.size W W' → ∀ k, W'.heap.size ≤ k → ¬ ex k := fun W' hb k hk => hex k (by have := hb.size; omega)
  have HJN : Hid (∀ w, Below W.heap.size W w → Calls Try.prog 49 #[.pointer (some ⟨y, 0, none⟩), .pointer (some ⟨q, 0, none⟩)] w fun e w' => ∃ z, e = .returned (.pointer (some ⟨z, 0, none⟩)) ∧ Hid (Tn ex h z J w') ∧ Below w.heap.size w w') := fun w hb => by
    have := tre_joined (hy.below hb) (hx.below hb) hwu3 hwx (by omega) (hex1 w hb)
    rw [← hJ] at this
    exact this
  have HHV : Hid (∀ w z, Below W.heap.size W w → Tn ex h z J w → Calls Try.prog 40 #[.pointer (some ⟨z, 0, none⟩)] w fun e w' => ∃ a n c, e = .returned (.slice a n c) ∧ Hid (Hs ex h (Tm.hv J) a n c w') ∧ Below w.heap.size w w') := fun w z hb hz =>
    tre_halves hz jw1 (by omega) (by omega) (hex1 w hb)
  have HK1 : Hid (∀ w ea en ec, Below W.heap.size W w → Hs ex h (Tm.hv J) ea en ec w → Calls Try.prog 39 #[.slice (some ⟨bg, boff, none⟩) n bc, .int .i64 (j0 : Int), .int .i64 (j : Int), .slice ea en ec] w fun e w' => ∃ a N, e = .returned (.slice a N N) ∧ Hid (Hs ex h (Tm.spl ks j0 j (Tm.hv J)) a N N w') ∧ Below w.heap.size w w') := fun w ea en ec hb hh =>
    tre_splH j0 j (h1s.below hb) hh (by omega) (by omega) (by omega) (by omega) (by have := hh.1; omega) (hex1 w hb)
  have HI1 : Hid (∀ w a N, Below W.heap.size W w → Hs ex h (Tm.spl ks j0 j (Tm.hv J)) a N N w → Calls Try.prog 38 #[.slice a N N] w fun e w' => ∃ z, e = .returned (.pointer (some ⟨z, 0, none⟩)) ∧ Hid (Tn ex (h + 1) z (.inner (Tm.spl ks j0 j (Tm.hv J))) w') ∧ Below w.heap.size w w') := fun w a N hb hh =>
    tre_innerH hh (by have := hh.1; omega) (by have := hh.1; omega) hwf hfl (hex1 w hb)
  have HB0 : Hid (Below W.heap.size W W.drew) := below_dr8 W
  have SB : Hid (∀ w', Below W.heap.size W w' → w'.cell? ⟨p, 2, none⟩ = some (.slice (some ⟨bg, boff, none⟩) n bc) ∧ w'.cell? ⟨bg, boff + j0, none⟩ = some (.pointer (some ⟨y, 0, none⟩))) := fun w' hb => ⟨(hb.cell (p := ⟨p, 2, none⟩) hpl).trans p2, (hb.cell (p := ⟨bg, boff + j0, none⟩) hbg).trans hycell⟩
  clear ht hx hy hkid h1s hw hwx hwu hwu3 hcx hcu jw1 jw2 jw3 hfk hJl hv1 hv2 hv3 hv4 hsz hex hex1 hfl hwf hsl hnn hm hj hj0 hx4 hu hJ p2 hycell
  unfold ptr
  go_enter Try.func44, Try.ntmps44
  go_upto_region 5 with (fail)
  go_region_held3 (fun w' => w'.cell? ⟨p, 2, none⟩ = some (.slice (some ⟨bg, boff, none⟩) n bc) ∧ w'.cell? ⟨bg, boff + j0, none⟩ = some (.pointer (some ⟨y, 0, none⟩))) (first | exact SB.out _ HB0.out | exact SB.out _ (by assumption))
    (first
      | (go_at_call 49; refine (HJN.out _ HB0.out).mono ?_; rintro e w1 ⟨z1, rfl, hr1, hb1⟩; have B1 := HB0.out.trans (hb1.mono HB0.out.size))
      | (go_at_call 40; refine (HHV.out _ _ B1 hr1.out).mono ?_; rintro e w2 ⟨a2, n2, c2, rfl, hr2, hb2⟩; have B2 := B1.trans (hb2.mono B1.size))
      | (go_at_call 39; refine (HK1.out _ _ _ _ B2 hr2.out).mono ?_; rintro e w3 ⟨a3, N3, rfl, hr3, hb3⟩; have B3 := B2.trans (hb3.mono B2.size))
      | (go_at_call 38; refine (HI1.out _ _ _ B3 hr3.out).mono ?_; rintro e w4 ⟨z, rfl, ht4, hb4⟩; have B4 := B3.trans (hb4.mono B3.size)))
  have HB4 := Lib.hid B4
  clear hr1 hr2 hr3 hb1 hb2 hb3 hb4 B1 B2 B3 B4 HJN HHV HK1 HI1 SB q0
  go_wp2
  go_ret
  exact ⟨_, rfl, ht4, HB4.out⟩
set_option maxHeartbeats 4000000 in
set_option maxRecDepth 100000 in
theorem tre_replC {ex : Nat → Prop} {h p q : Nat} {ks : List Tm.T} {x : Tm.T} {W : World} (ht : Tn ex (h + 1) p (.inner ks) W) (hx : Tn ex h q x W) (h2 : 2 ≤ ks.length) (hc : ks.length ≤ 8) (hw : ∀ t ∈ ks, Tm.Wf h 4 t) (hwx : Tm.Wf h 3 x) (hx4 : ¬ 4 ≤ Tm.cnt x) (hsz : (Tm.flats h ks).length + (Tm.flat h x).length ≤ 1000000) (hex : ∀ k, W.heap.size ≤ k → ¬ ex k) :
    Calls Try.prog 44 #[ptr p, .int .i64 0, ptr q] W fun e w' => ∃ z, e = .returned (.pointer (some ⟨z, 0, none⟩)) ∧ Hid (Tn ex (h + 1) z (.inner (Tm.spl ks 0 2 (Tm.hv (Tm.jn x (ks.getD 1 (.leaf [])))))) w') ∧ Below W.heap.size W w' := by
  obtain ⟨ba, bc, p2, h1s, hpl, hkid⟩ := ht.kids
  obtain ⟨ka, kc, q0⟩ := hx.cnt
  obtain ⟨bg, boff, y, rfl, hbg, hbc, hycell, hy⟩ := hkid 1 (by omega)
  obtain ⟨u, hu⟩ : ∃ u, u = ks.getD 1 (.leaf []) := ⟨_, rfl⟩
  have hwu : Tm.Wf h 4 u := by rw [hu]; exact hw _ (Tm.getD_mem (by omega))
  rw [← hu] at hy ⊢
  have hwu3 := Tm.wf_up hwu (lo' := 3) (by have := ((Tm.wf_iff h 4 u).1 hwu).1; omega)
  have hcx := (Tm.wf_iff h 3 x).1 hwx
  have hcu := (Tm.wf_iff h 4 u).1 hwu
  obtain ⟨jw1, jw2, jw3⟩ := Tm.jn_wb h hcx.2.2 hcu.2.2
  have hfk := Tm.flats_kid h ks (i := 1) (by omega)
  rw [← hu] at hfk
  obtain ⟨J, hJ⟩ : ∃ J, J = Tm.jn x u := ⟨_, rfl⟩
  rw [← hJ] at jw1 jw2 jw3 ⊢
  have hJl : (Tm.flat h J).length = (Tm.flat h x).length + (Tm.flat h u).length := by rw [jw2, List.length_append]
  obtain ⟨hv1, hv2, hv3, hv4⟩ := Tm.hv_wf jw1 (by omega) (by omega)
  have hsl := Tm.spl_len ks (a := 0) (b := 2) (Tm.hv J) (by omega) (by omega)
  have hfl : (Tm.flats h (Tm.spl ks 0 2 (Tm.hv J))).length ≤ 1000000 := by
    have h1 := Tm.flats_spl h ks (Tm.hv J) 0 2
    have h3 := Tm.flats_len h ks 1
    rw [show 1 + 1 = 2 from rfl] at hfk
    rw [show Tm.flats h (ks.take 0) = [] by simp [Tm.flats]] at h1
    rw [hv4] at h1
    simp only [List.length_nil] at h1
    omega
  have hwf := Tm.mem_spl (a := 0) (b := 2) hw hv1
  obtain ⟨n, hnn⟩ : ∃ n, n = ks.length := ⟨_, rfl⟩
  obtain ⟨m, hm⟩ : ∃ m, m = Tm.cnt x := ⟨_, rfl⟩
  rw [← hnn] at p2 h1s hc hsl hbc h2
  rw [← hm] at q0 hx4
  have hm4 : ¬ 4 ≤ (m : Int) := by omega
  have hn1i : (1 : Int) < (n : Int) := by omega
  have hw1 : IntKind.i64.wrap 1 = 1 := by rw [IntWalk.i64_in _ (by omega)]
  have hw2 : IntKind.i64.wrap 2 = 2 := by rw [IntWalk.i64_in _ (by omega)]
  have hex1 : ∀ W', Below W.heap.size W W' → ∀ k, W'.heap.size ≤ k → ¬ ex k := fun W' hb k hk => hex k (by have := hb.size; omega)
  have HJN : Hid (∀ w, Below W.heap.size W w → Calls Try.prog 49 #[.pointer (some ⟨q, 0, none⟩), .pointer (some ⟨y, 0, none⟩)] w fun e w' => ∃ z, e = .returned (.pointer (some ⟨z, 0, none⟩)) ∧ Hid (Tn ex h z J w') ∧ Below w.heap.size w w') := fun w hb => by
    have := tre_joined (hx.below hb) (hy.below hb) hwx hwu3 (by omega) (hex1 w hb)
    rw [← hJ] at this
    exact this
  have HHV : Hid (∀ w z, Below W.heap.size W w → Tn ex h z J w → Calls Try.prog 40 #[.pointer (some ⟨z, 0, none⟩)] w fun e w' => ∃ a n c, e = .returned (.slice a n c) ∧ Hid (Hs ex h (Tm.hv J) a n c w') ∧ Below w.heap.size w w') := fun w z hb hz =>
    tre_halves hz jw1 (by omega) (by omega) (hex1 w hb)
  have HK1 : Hid (∀ w ea en ec, Below W.heap.size W w → Hs ex h (Tm.hv J) ea en ec w → Calls Try.prog 39 #[.slice (some ⟨bg, boff, none⟩) n bc, .int .i64 0, .int .i64 2, .slice ea en ec] w fun e w' => ∃ a N, e = .returned (.slice a N N) ∧ Hid (Hs ex h (Tm.spl ks 0 2 (Tm.hv J)) a N N w') ∧ Below w.heap.size w w') := fun w ea en ec hb hh =>
    tre_splH 0 2 (h1s.below hb) hh (by omega) (by omega) (by omega) (by omega) (by have := hh.1; omega) (hex1 w hb)
  have HI1 : Hid (∀ w a N, Below W.heap.size W w → Hs ex h (Tm.spl ks 0 2 (Tm.hv J)) a N N w → Calls Try.prog 38 #[.slice a N N] w fun e w' => ∃ z, e = .returned (.pointer (some ⟨z, 0, none⟩)) ∧ Hid (Tn ex (h + 1) z (.inner (Tm.spl ks 0 2 (Tm.hv J))) w') ∧ Below w.heap.size w w') := fun w a N hb hh =>
    tre_innerH hh (by have := hh.1; omega) (by have := hh.1; omega) hwf hfl (hex1 w hb)
  have HB0 : Hid (Below W.heap.size W W.drew) := below_dr8 W
  have SB : Hid (∀ w', Below W.heap.size W w' → w'.cell? ⟨p, 2, none⟩ = some (.slice (some ⟨bg, boff, none⟩) n bc) ∧ w'.cell? ⟨bg, boff + 1, none⟩ = some (.pointer (some ⟨y, 0, none⟩))) := fun w' hb => ⟨(hb.cell (p := ⟨p, 2, none⟩) hpl).trans p2, (hb.cell (p := ⟨bg, boff + 1, none⟩) hbg).trans hycell⟩
  clear ht hx hy hkid h1s hw hwx hwu hwu3 hcx hcu jw1 jw2 jw3 hfk hJl hv1 hv2 hv3 hv4 hsz hex hex1 hfl hwf hsl hnn hm hx4 hu hJ p2 hycell
  unfold ptr
  go_enter Try.func44, Try.ntmps44
  go_upto_region 1 with (fail)
  go_region_held3 (fun w' => w'.cell? ⟨p, 2, none⟩ = some (.slice (some ⟨bg, boff, none⟩) n bc) ∧ w'.cell? ⟨bg, boff + 1, none⟩ = some (.pointer (some ⟨y, 0, none⟩))) (first | exact SB.out _ HB0.out | exact SB.out _ (by assumption))
    (first
      | (go_at_call 49; refine (HJN.out _ HB0.out).mono ?_; rintro e w1 ⟨z1, rfl, hr1, hb1⟩; have B1 := HB0.out.trans (hb1.mono HB0.out.size))
      | (go_at_call 40; refine (HHV.out _ _ B1 hr1.out).mono ?_; rintro e w2 ⟨a2, n2, c2, rfl, hr2, hb2⟩; have B2 := B1.trans (hb2.mono B1.size))
      | (go_at_call 39; refine (HK1.out _ _ _ _ B2 hr2.out).mono ?_; rintro e w3 ⟨a3, N3, rfl, hr3, hb3⟩; have B3 := B2.trans (hb3.mono B2.size))
      | (go_at_call 38; refine (HI1.out _ _ _ B3 hr3.out).mono ?_; rintro e w4 ⟨z, rfl, ht4, hb4⟩; have B4 := B3.trans (hb4.mono B3.size)))
  have HB4 := Lib.hid B4
  clear hr1 hr2 hr3 hb1 hb2 hb3 hb4 B1 B2 B3 B4 HJN HHV HK1 HI1 SB q0
  go_wp2
  go_ret
  exact ⟨_, rfl, ht4, HB4.out⟩
theorem tre_replace {ex : Nat → Prop} {h p q i : Nat} {ks : List Tm.T} {x : Tm.T} {W : World} (ht : Tn ex (h + 1) p (.inner ks) W) (hx : Tn ex h q x W) (hi : i < ks.length) (h2 : 2 ≤ ks.length) (hc : ks.length ≤ 8) (hw : ∀ t ∈ ks, Tm.Wf h 4 t) (hwx : Tm.Wf h 3 x) (hsz : (Tm.flats h ks).length + (Tm.flat h x).length ≤ 1000000) (hex : ∀ k, W.heap.size ≤ k → ¬ ex k) :
    Calls Try.prog 44 #[ptr p, .int .i64 (i : Int), ptr q] W fun e w' => ∃ z, e = .returned (.pointer (some ⟨z, 0, none⟩)) ∧ Hid (Tn ex (h + 1) z (Tm.rpl (.inner ks) i x) w') ∧ Below W.heap.size W w' := by
  unfold Tm.rpl
  by_cases h4 : 4 ≤ Tm.cnt x
  · rw [if_pos h4]
    exact tre_replA ht hx hi hc hw (Tm.wf_up hwx h4) hsz hex
  · rw [if_neg h4]
    by_cases h0 : 0 < i
    · rw [if_pos h0]
      exact tre_replB ht hx h0 hi hc hw hwx h4 hsz hex
    · rw [if_neg h0]
      obtain rfl : i = 0 := by omega
      exact tre_replC ht hx h2 hc hw hwx h4 hsz hex
set_option maxRecDepth 100000 in
theorem tre_above {ex : Nat → Prop} {h n c : Nat} {a : Option Addr} {ts : List Tm.T} {W : World} (hs : Hs ex h ts a n c W) (hn1 : 1 ≤ n) (hn2 : n ≤ 2) (hw : n = 2 → ∀ t ∈ ts, Tm.Wf h 4 t) (hsz : (Tm.flats h ts).length ≤ 1000000) (hex : ∀ k, W.heap.size ≤ k → ¬ ex k) :
    Calls Try.prog 27 #[.slice a n c] W fun e w' => ∃ z r, e = .returned (.pointer (some ⟨z, 0, none⟩)) ∧ Hid (Tm.abv h ts = some r ∧ Tn ex r.1 z r.2 w') ∧ Below W.heap.size W w' := by
  by_cases h1 : n = 1
  · subst h1
    obtain ⟨hl, hc, ps, hpl, hrv, hT⟩ := hs
    obtain ⟨g, off, rfl, hgc, hg, hcell⟩ := hrv.at (by omega)
    obtain ⟨t, rfl⟩ : ∃ t, ts = [t] := List.length_eq_one_iff.1 hl.symm
    obtain ⟨p, rfl⟩ : ∃ p, ps = [p] := List.length_eq_one_iff.1 hpl
    have hc0 := hcell 0 (by omega)
    rw [pv_get [p] (by simp)] at hc0
    have HT : Hid (Tm.abv h [t] = some (h, t) ∧ Tn ex h p t W) := ⟨rfl, hT 0 (by simp)⟩
    replace hc0 : W.cell? ⟨g, off, none⟩ = some (.pointer (some ⟨p, 0, none⟩)) := hc0
    clear hcell hT hrv hw hsz hex hl hpl hn1 hn2 hc
    go_enter Try.func27, Try.ntmps27
    go_wp2
    go_ret
    exact ⟨_, (h, t), rfl, HT, Below.refl _ _⟩
  · obtain rfl : n = 2 := by omega
    have hl := hs.1
    obtain ⟨t, u, rfl⟩ : ∃ t u, ts = [t, u] := by
      match ts, hl with
      | [t, u], _ => exact ⟨t, u, rfl⟩
    have HI := Lib.hid (tre_innerH hs (by omega) (by omega) (hw rfl) hsz hex)
    clear hs hw hsz hex hl
    go_enter Try.func27, Try.ntmps27
    go_wp2_with fail
    refine HI.out.mono ?_
    rintro e w1 ⟨z, rfl, ht, hb⟩
    have HB := Lib.hid hb
    clear hb
    go_wp2
    go_ret
    exact ⟨_, (h + 1, .inner [t, u]), rfl, ⟨rfl, ht.out⟩, HB.out⟩
end Go.Proofs.Ytlakolcjgnmllaa
