/- Package tree: halves. -/
import Derived.Test.YtdchapcpimhjaaaTreC4
namespace Go.Proofs.Ytdchapcpimhjaaa
open Go.RowKit

/-- some nodes, in a row -/
def Hs (ex : Nat → Prop) (h : Nat) (ts : List Tm.T) (a : Option Addr) (n c : Nat) (W : World) : Prop :=
  n = ts.length ∧ c ≤ 64 ∧ ∃ ps : List Nat, ps.length = ts.length ∧ Rv ex a n c (pv ps) W ∧ ∀ j, j < ts.length → Tn ex h (ps.getD j 0) (ts.getD j (.leaf [])) W
theorem rv_new {ex : Nat → Prop} (W : World) (ps : List Nat) (ty : TypeId) (hx : ¬ ex W.heap.size) : Rv ex (some ⟨W.heap.size, 0, none⟩) ps.length ps.length (pv ps) (W.alloc (.cells (pv ps).toArray ty)) :=
  ⟨by simp [pv], fun _ => ⟨W.heap.size, 0, rfl, Nat.le_refl _, by simp, hx, fun j hj => by
    rw [Lib.cell_of_heap (heap_alloc_new W _), Nat.zero_add]
    have hj' : j < (pv ps).length := by simpa [pv] using hj
    simp [List.getD, List.getElem?_eq_getElem hj']⟩⟩
theorem Hs.below {ex : Nat → Prop} {h : Nat} {ts : List Tm.T} {a : Option Addr} {n c : Nat} {W W' : World} (hh : Hs ex h ts a n c W) (hb : Below W.heap.size W W') : Hs ex h ts a n c W' := by
  obtain ⟨h1, h2, ps, h3, h4, h5⟩ := hh
  exact ⟨h1, h2, ps, h3, h4.below hb, fun j hj => (h5 j hj).below hb⟩
theorem Hs.one {ex : Nat → Prop} {h p : Nat} {t : Tm.T} {W : World} (ht : Tn ex h p t W) (hx : ¬ ex W.heap.size) (ty : TypeId) : Hs ex h [t] (some ⟨W.heap.size, 0, none⟩) 1 1 (W.alloc (.cells #[ptr p] ty)) :=
  ⟨rfl, by omega, [p], rfl, rv_new W [p] ty hx, fun j hj => by
    have : j = 0 := by simpa using hj
    subst this
    exact ht.below (one_b8 W _)⟩
theorem Hs.two {ex : Nat → Prop} {h p q : Nat} {t u : Tm.T} {W : World} (ht : Tn ex h p t W) (hu : Tn ex h q u W) (hx : ¬ ex W.heap.size) (ty : TypeId) : Hs ex h [t, u] (some ⟨W.heap.size, 0, none⟩) 2 2 (W.alloc (.cells #[ptr p, ptr q] ty)) :=
  ⟨rfl, by omega, [p, q], rfl, rv_new W [p, q] ty hx, fun j hj => by
    have : j = 0 ∨ j = 1 := by have : j < 2 := hj; omega
    rcases this with rfl | rfl
    · exact ht.below (one_b8 W _)
    · exact hu.below (one_b8 W _)⟩
theorem pw_app {R : Nat → Tm.T → Prop} {ps qs : List Nat} {ks es : List Tm.T} (h1 : ps.length = ks.length) (h2 : qs.length = es.length) (a : ∀ j, j < ks.length → R (ps.getD j 0) (ks.getD j (.leaf []))) (b : ∀ j, j < es.length → R (qs.getD j 0) (es.getD j (.leaf []))) :
    (ps ++ qs).length = (ks ++ es).length ∧ ∀ j, j < (ks ++ es).length → R ((ps ++ qs).getD j 0) ((ks ++ es).getD j (.leaf [])) := by
  refine ⟨by simp [h1, h2], fun j hj => ?_⟩
  rw [List.length_append] at hj
  by_cases hlt : j < ks.length
  · have := a j hlt
    simpa [List.getD, List.getElem?_append_left (show j < ps.length by omega), List.getElem?_append_left hlt] using this
  · have := b (j - ks.length) (by omega)
    simpa [List.getD, List.getElem?_append_right (show ps.length ≤ j by omega), List.getElem?_append_right (show ks.length ≤ j by omega), h1] using this
theorem pw_take {R : Nat → Tm.T → Prop} {ps : List Nat} {ks : List Tm.T} (m : Nat) (h1 : ps.length = ks.length) (a : ∀ j, j < ks.length → R (ps.getD j 0) (ks.getD j (.leaf []))) :
    (ps.take m).length = (ks.take m).length ∧ ∀ j, j < (ks.take m).length → R ((ps.take m).getD j 0) ((ks.take m).getD j (.leaf [])) := by
  refine ⟨by simp [h1], fun j hj => ?_⟩
  rw [List.length_take] at hj
  have := a j (by omega)
  simpa [List.getD, List.getElem?_take, show j < m by omega] using this
theorem pw_drop {R : Nat → Tm.T → Prop} {ps : List Nat} {ks : List Tm.T} (m : Nat) (h1 : ps.length = ks.length) (a : ∀ j, j < ks.length → R (ps.getD j 0) (ks.getD j (.leaf []))) :
    (ps.drop m).length = (ks.drop m).length ∧ ∀ j, j < (ks.drop m).length → R ((ps.drop m).getD j 0) ((ks.drop m).getD j (.leaf [])) := by
  refine ⟨by simp [h1], fun j hj => ?_⟩
  rw [List.length_drop] at hj
  have := a (m + j) (by omega)
  simpa [List.getD, List.getElem?_drop] using this
theorem pv_spl (ps qs : List Nat) (fr tt : Nat) : Tm.spl (pv ps) fr tt (pv qs) = pv (Tm.spl ps fr tt qs) := by
  unfold Tm.spl pv
  simp [List.map_take, List.map_drop]
theorem Hs.nil (ex : Nat → Prop) (h : Nat) (W : World) : Hs ex h [] none 0 0 W := ⟨rfl, by omega, [], rfl, Rv.nil _ _ _ _, fun j hj => by simp at hj⟩
/-- spliced and inner, in these words -/
theorem tre_splH {ex : Nat → Prop} {h : Nat} {a ea : Option Addr} {n c en ec : Nat} {ks es : List Tm.T} {W : World} (fr tt : Nat) (h1 : Hs ex h ks a n c W) (h2 : Hs ex h es ea en ec W) (hn1 : 1 ≤ n) (hft : fr ≤ tt) (htn : tt ≤ n) (hn : n ≤ 20) (hen : en ≤ 20) (hex : ∀ k, W.heap.size ≤ k → ¬ ex k) :
    Calls Try.prog 66 #[.slice a n c, .int .i64 (fr : Int), .int .i64 (tt : Int), .slice ea en ec] W fun e w' => ∃ a' N, e = .returned (.slice a' N N) ∧ Hid (Hs ex h (Tm.spl ks fr tt es) a' N N w') ∧ Below W.heap.size W w' := by
  obtain ⟨e1, c1, ps, l1, r1, t1⟩ := h1
  obtain ⟨e2, c2, qs, l2, r2, t2⟩ := h2
  obtain ⟨g, off, ha, hnc, -, -⟩ := r1.at hn1
  refine (tre_splp fr tt r1 (.inr ⟨g, off, ha⟩) r2 (pv_one _) (pv_one _) hft htn hnc (by omega) (by omega) (by omega)).mono ?_
  rintro e w' ⟨a', N, rfl, -, hN, hr, hb⟩
  refine ⟨a', N, rfl, ?_, hb⟩
  have hr := hr ex hex
  rw [pv_spl] at hN hr
  have hpt := pw_take (R := fun p t => Tn ex h p t w') fr l1 (fun j hj => (t1 j hj).below hb)
  have hpd := pw_drop (R := fun p t => Tn ex h p t w') tt l1 (fun j hj => (t1 j hj).below hb)
  have hpe := pw_app (R := fun p t => Tn ex h p t w') l2 hpd.1 (fun j hj => (t2 j hj).below hb) hpd.2
  have hpa := pw_app (R := fun p t => Tn ex h p t w') hpt.1 hpe.1 hpt.2 hpe.2
  have hlen : (pv (Tm.spl ps fr tt qs)).length = (Tm.spl ks fr tt es).length := by
    have := hpa.1
    simpa [pv, Tm.spl] using this
  have hle := Tm.spl_len ks es hft (by omega : tt ≤ ks.length)
  exact ⟨by rw [hN, hlen], by rw [hN, hlen]; omega, Tm.spl ps fr tt qs, hpa.1, hr, hpa.2⟩
theorem tre_innerH {ex : Nat → Prop} {h : Nat} {a : Option Addr} {n c : Nat} {ks : List Tm.T} {W : World} (hs : Hs ex h ks a n c W) (hn1 : 1 ≤ n) (hn : n ≤ 20) (hw : ∀ t ∈ ks, Tm.Wf h 4 t) (hsz : (Tm.flats h ks).length ≤ 1000000) (hex : ∀ k, W.heap.size ≤ k → ¬ ex k) :
    Calls Try.prog 65 #[.slice a n c] W fun e w' => ∃ p, e = .returned (.pointer (some ⟨p, 0, none⟩)) ∧ Hid (Tn ex (h + 1) p (.inner ks) w') ∧ Below W.heap.size W w' := by
  obtain ⟨e1, c1, ps, l1, r1, t1⟩ := hs
  refine (tre_inner r1 l1 hn1 hn c1 (fun j hj => t1 j (by omega)) hw hsz hex).mono ?_
  rintro e w' ⟨p, rfl, hT, hb⟩
  exact ⟨p, rfl, hT, hb⟩
/-- too few for two -/
theorem tre_halves1 {ex : Nat → Prop} {h p : Nat} {t : Tm.T} {W : World} (ht : Tn ex h p t W) (hc : (Tm.keys h t).length ≤ 8) (hx : ¬ ex W.heap.size) :
    Calls Try.prog 67 #[ptr p] W fun e w' => ∃ a n c, e = .returned (.slice a n c) ∧ Hs ex h [t] a n c w' ∧ Below W.heap.size W w' := by
  obtain ⟨ka, kc, va, vn, vc, ba, bn, bc, hn, hk, _⟩ := ht.node
  obtain ⟨n, hnn⟩ : ∃ n, n = (Tm.keys h t).length := ⟨_, rfl⟩
  rw [← hnn] at hn hk hc
  have q0 : W.cell? ⟨p, 0, none⟩ = some (.slice ka n kc) := by rw [Lib.cell_of_heap hn]; rfl
  have hn8 : (n : Int) ≤ 8 := by omega
  have HT : Hid (∀ w', w' = W.alloc (.cells #[.pointer (some ⟨p, 0, none⟩)] 72) → Hs ex h [t] (some ⟨W.heap.size, 0, none⟩) 1 1 w' ∧ Below W.heap.size W w') := fun w' e => by
    subst e
    exact ⟨Hs.one ht hx _, one_b8 W _⟩
  clear ht hc hx hn hk hnn
  unfold ptr
  go_enter Try.func67, Try.ntmps67
  go_wp2
  go_ret
  exact ⟨_, _, _, rfl, HT.out _ rfl⟩
set_option maxHeartbeats 4000000 in
set_option maxRecDepth 100000 in
theorem tre_halvesL {ex : Nat → Prop} {p : Nat} {l : List Tm.E} {W : World} (ht : Tn ex 0 p (.leaf l) W) (hc : 8 < l.length) (hc2 : l.length ≤ 11) (hex : ∀ k, W.heap.size ≤ k → ¬ ex k) :
    Calls Try.prog 67 #[ptr p] W fun e w' => ∃ a n c, e = .returned (.slice a n c) ∧ Hs ex 0 [.leaf (l.take (l.length / 2)), .leaf (l.drop (l.length / 2))] a n c w' ∧ Below W.heap.size W w' := by
  have HKID := Lib.hid (fun W' (hb : Below W.heap.size W W') => tre_hasKids (ht.below hb))
  obtain ⟨l', el, hxp, ka, kc, va, vc, ba, bc, hn, hk, hv, hcp⟩ := ht
  injection el with el
  subst el
  obtain ⟨n, hnn⟩ : ∃ n, n = l.length := ⟨_, rfl⟩
  obtain ⟨m, hm⟩ : ∃ m, m = l.length / 2 := ⟨_, rfl⟩
  rw [← hm]
  have hk0 := hk.at (by omega)
  have hv0 := hv.at (by omega)
  obtain ⟨gk, ok, rfl, hkk, hgk, -⟩ := hk0
  obtain ⟨gv, ov, rfl, hvv, hgv, -⟩ := hv0
  rw [← hnn] at hn hk hv hc hc2 hm hkk hvv
  have q0 : W.cell? ⟨p, 0, none⟩ = some (.slice (some ⟨gk, ok, none⟩) n kc) := by rw [Lib.cell_of_heap hn]; rfl
  have q1 : W.cell? ⟨p, 1, none⟩ = some (.slice (some ⟨gv, ov, none⟩) n vc) := by rw [Lib.cell_of_heap hn]; rfl
  have hpl : p < W.heap.size := heap_lt hn
  have hex1 : ∀ W', Below W.heap.size W W' → ∀ k, W'.heap.size ≤ k → ¬ ex k := fun W' hb k hk => hex k (by have := hb.size; omega)
  have HK1 : Hid (∀ w, Below W.heap.size W w → Calls Try.prog 69 #[.slice (some ⟨gk, ok, none⟩) n kc, .int .i64 (m : Int), .int .i64 (n : Int), .slice none 0 0] w fun e w' => ∃ a N, e = .returned (.slice a N N) ∧ Hid (N = (l.take m).length ∧ Rv ex a N N (sk ((l.take m).map (·.1))) w' ∧ Fm a N N) ∧ Below w.heap.size w w') := fun w hb => by
    refine (tre_spls m n (hk.below hb) (.inr ⟨_, _, rfl⟩) (Rv.nil ex none 0 w) (sk_one _) (fun u hu => by simp at hu) (by omega) (Nat.le_refl _) hkk (by omega) (by omega) (by have := hcp.1.1; omega)).mono ?_
    rintro e w' ⟨a, N, rfl, hF, hN, hr, hb'⟩
    have e : Tm.spl (sk (l.map (·.1))) m n [] = sk ((l.take m).map (·.1)) := by
      unfold Tm.spl sk
      rw [List.drop_of_length_le (by simp [hnn])]
      simp [List.map_take]
    rw [e] at hN hr
    exact ⟨a, N, rfl, ⟨by rw [hN]; simp [sk], hr ex (hex1 w hb), hF⟩, hb'⟩
  have HK2 : Hid (∀ w, Below W.heap.size W w → Calls Try.prog 69 #[.slice (some ⟨gk, ok, none⟩) n kc, .int .i64 0, .int .i64 (m : Int), .slice none 0 0] w fun e w' => ∃ a N, e = .returned (.slice a N N) ∧ Hid (N = (l.drop m).length ∧ Rv ex a N N (sk ((l.drop m).map (·.1))) w' ∧ Fm a N N) ∧ Below w.heap.size w w') := fun w hb => by
    refine (tre_spls 0 m (hk.below hb) (.inr ⟨_, _, rfl⟩) (Rv.nil ex none 0 w) (sk_one _) (fun u hu => by simp at hu) (by omega) (by omega) hkk (by omega) (by omega) (by have := hcp.1.1; omega)).mono ?_
    rintro e w' ⟨a, N, rfl, hF, hN, hr, hb'⟩
    have e : Tm.spl (sk (l.map (·.1))) 0 m [] = sk ((l.drop m).map (·.1)) := by
      unfold Tm.spl sk
      simp [List.map_drop]
    rw [e] at hN hr
    exact ⟨a, N, rfl, ⟨by rw [hN]; simp [sk], hr ex (hex1 w hb), hF⟩, hb'⟩
  have HV1 : Hid (∀ w, Below W.heap.size W w → Calls Try.prog 70 #[.slice (some ⟨gv, ov, none⟩) n vc, .int .i64 (m : Int), .int .i64 (n : Int), .slice none 0 0] w fun e w' => ∃ a N, e = .returned (.slice a N N) ∧ Hid (N = (l.take m).length ∧ Rv ex a N N (iv ((l.take m).map (·.2))) w' ∧ Fm a N N) ∧ Below w.heap.size w w') := fun w hb => by
    refine (tre_spli m n (hv.below hb) (.inr ⟨_, _, rfl⟩) (Rv.nil ex none 0 w) (iv_one _) (fun u hu => by simp at hu) (by omega) (Nat.le_refl _) hvv (by omega) (by omega) (by have := hcp.1.2.1; omega)).mono ?_
    rintro e w' ⟨a, N, rfl, hF, hN, hr, hb'⟩
    have e : Tm.spl (iv (l.map (·.2))) m n [] = iv ((l.take m).map (·.2)) := by
      unfold Tm.spl iv
      rw [List.drop_of_length_le (by simp [hnn])]
      simp [List.map_take]
    rw [e] at hN hr
    exact ⟨a, N, rfl, ⟨by rw [hN]; simp [iv], hr ex (hex1 w hb), hF⟩, hb'⟩
  have HV2 : Hid (∀ w, Below W.heap.size W w → Calls Try.prog 70 #[.slice (some ⟨gv, ov, none⟩) n vc, .int .i64 0, .int .i64 (m : Int), .slice none 0 0] w fun e w' => ∃ a N, e = .returned (.slice a N N) ∧ Hid (N = (l.drop m).length ∧ Rv ex a N N (iv ((l.drop m).map (·.2))) w' ∧ Fm a N N) ∧ Below w.heap.size w w') := fun w hb => by
    refine (tre_spli 0 m (hv.below hb) (.inr ⟨_, _, rfl⟩) (Rv.nil ex none 0 w) (iv_one _) (fun u hu => by simp at hu) (by omega) (by omega) hvv (by omega) (by omega) (by have := hcp.1.2.1; omega)).mono ?_
    rintro e w' ⟨a, N, rfl, hF, hN, hr, hb'⟩
    have e : Tm.spl (iv (l.map (·.2))) 0 m [] = iv ((l.drop m).map (·.2)) := by
      unfold Tm.spl iv
      simp [List.map_drop]
    rw [e] at hN hr
    exact ⟨a, N, rfl, ⟨by rw [hN]; simp [iv], hr ex (hex1 w hb), hF⟩, hb'⟩
  have HLF : Hid (∀ (w : World) (r : List Tm.E) (a1 b1 : Option Addr) (N1 M1 : Nat), r.length ≤ 11 → Below W.heap.size W w → (N1 = r.length ∧ Rv ex a1 N1 N1 (sk (r.map (·.1))) w ∧ Fm a1 N1 N1) → (M1 = r.length ∧ Rv ex b1 M1 M1 (iv (r.map (·.2))) w ∧ Fm b1 M1 M1) → Calls Try.prog 68 #[.slice a1 N1 N1, .slice b1 M1 M1] w fun e w' => ∃ q, e = .returned (.pointer (some ⟨q, 0, none⟩)) ∧ Hid (Tn ex 0 q (.leaf r) w') ∧ Below w.heap.size w w') := fun w r a1 b1 N1 M1 hr hb h1 h2 => by
    refine (tre_leaf h1.1 h2.1 h1.2.1 h2.2.1 (hex1 w hb _ (Nat.le_refl _)) (by omega) (by omega) h1.2.2 h2.2.2).mono ?_
    rintro e w' ⟨rfl, hT, hb'⟩
    exact ⟨_, rfl, hT, hb'⟩
  have HL11 : Hid (l.length ≤ 11) := by show _ ≤ _; omega
  have hni : ¬ (n : Int) ≤ 8 := by omega
  have hm6 : m ≤ 6 := by omega
  have hdv : (n : Int).tdiv 2 = (m : Int) := by rw [Int.tdiv_eq_ediv_of_nonneg (by omega)]; omega
  have hkd : decide (0 < (Tm.T.leaf l).ks.length) = false := rfl
  have HKID2 : Hid (∀ W', Below W.heap.size W W' → Calls Try.prog 61 #[.pointer (some ⟨p, 0, none⟩)] W' fun e w' => e = .returned (.bool false) ∧ W' = w') := HKID.out
  have HB0 : Hid (Below W.heap.size W W.drew) := below_dr8 W
  have SB : Hid (∀ w', Below W.heap.size W w' → w'.cell? ⟨p, 0, none⟩ = some (.slice (some ⟨gk, ok, none⟩) n kc) ∧ w'.cell? ⟨p, 1, none⟩ = some (.slice (some ⟨gv, ov, none⟩) n vc)) := fun w' hb => ⟨(hb.cell (p := ⟨p, 0, none⟩) hpl).trans q0, (hb.cell (p := ⟨p, 1, none⟩) hpl).trans q1⟩
  have HX2 := Lib.hid hex1
  clear HKID hn hk hv hcp hex hex1 q1 hnn hm hkd hxp
  unfold ptr
  go_enter Try.func67, Try.ntmps67
  go_upto_region 5 with (fail)
  go_wp2_with fail
  refine (HKID2.out W (Below.refl _ W)).mono ?_
  rintro e w0 ⟨rfl, rfl⟩
  go_upto_region 7 with (fail)
  have T1 := Lib.hid True.intro
  have T2 := Lib.hid True.intro
  have T3 := Lib.hid True.intro
  go_region_held3 (fun w' => w'.cell? ⟨p, 0, none⟩ = some (.slice (some ⟨gk, ok, none⟩) n kc) ∧ w'.cell? ⟨p, 1, none⟩ = some (.slice (some ⟨gv, ov, none⟩) n vc)) (first | exact SB.out _ HB0.out | exact SB.out _ (by assumption) | exact SB.out _ (B6.alloc B6.size _))
    (first
      | (go_at_call 69; clear T1; refine (HK1.out _ HB0.out).mono ?_; rintro e w1 ⟨a1, N1, rfl, hr1, hb1⟩; have B1 := HB0.out.trans (hb1.mono HB0.out.size))
      | (go_at_call 70; clear T2; refine (HV1.out _ B1).mono ?_; rintro e w2 ⟨a2, N2, rfl, hr2, hb2⟩; have B2 := B1.trans (hb2.mono B1.size))
      | (go_at_call 68; clear T3; refine (HLF.out _ (l.take m) _ _ _ _ (by have := HL11.out; rw [List.length_take]; omega) B2 ⟨hr1.out.1, hr1.out.2.1.below hb2, hr1.out.2.2⟩ hr2.out).mono ?_; rintro e w3 ⟨p1, rfl, ht1, hb3⟩; have B3 := B2.trans (hb3.mono B2.size))
      | (go_at_call 69; refine (HK2.out _ B3).mono ?_; rintro e w4 ⟨a4, N4, rfl, hr4, hb4⟩; have B4 := B3.trans (hb4.mono B3.size))
      | (go_at_call 70; refine (HV2.out _ B4).mono ?_; rintro e w5 ⟨a5, N5, rfl, hr5, hb5⟩; have B5 := B4.trans (hb5.mono B4.size))
      | (go_at_call 68; refine (HLF.out _ (l.drop m) _ _ _ _ (by have := HL11.out; rw [List.length_drop]; omega) B5 ⟨hr4.out.1, hr4.out.2.1.below hb5, hr4.out.2.2⟩ hr5.out).mono ?_; rintro e w6 ⟨p2, rfl, ht2, hb6⟩; have B6 := B5.trans (hb6.mono B5.size)))
  have HF : Hid (Hs ex 0 [.leaf (l.take m), .leaf (l.drop m)] (some ⟨w6.heap.size, 0, none⟩) 2 2 (w6.alloc (.cells #[.pointer (some ⟨p1, 0, none⟩), .pointer (some ⟨p2, 0, none⟩)] 72)) ∧ Below W.heap.size W (w6.alloc (.cells #[.pointer (some ⟨p1, 0, none⟩), .pointer (some ⟨p2, 0, none⟩)] 72))) :=
    ⟨Hs.two (((ht1.out.below hb4).below hb5).below hb6) ht2.out (HX2.out _ B6 _ (Nat.le_refl _)) _, B6.alloc B6.size _⟩
  clear hr1 hr2 hr4 hr5 hb1 hb2 hb3 hb4 hb5 hb6 ht1 ht2 B1 B2 B3 B4 B5 B6 HK1 HK2 HV1 HV2 HLF SB q0
  go_wp2
  go_ret
  exact ⟨_, _, _, rfl, HF.out⟩
set_option maxHeartbeats 4000000 in
set_option maxRecDepth 100000 in
theorem tre_halvesI {ex : Nat → Prop} {h p : Nat} {ks : List Tm.T} {W : World} (ht : Tn ex (h + 1) p (.inner ks) W) (hc : 8 < ks.length) (hc2 : ks.length ≤ 11) (hw : ∀ t ∈ ks, Tm.Wf h 4 t) (hsz : (Tm.flats h ks).length ≤ 1000000) (hex : ∀ k, W.heap.size ≤ k → ¬ ex k) :
    Calls Try.prog 67 #[ptr p] W fun e w' => ∃ a n c, e = .returned (.slice a n c) ∧ Hs ex (h + 1) [.inner (ks.take (ks.length / 2)), .inner (ks.drop (ks.length / 2))] a n c w' ∧ Below W.heap.size W w' := by
  have HKID := Lib.hid (fun W' (hb : Below W.heap.size W W') => tre_hasKids (ht.below hb))
  obtain ⟨ks', ps, el, hxp, hpl2, ⟨ka, kc, va, vc, ba, bc, hn, hk, hv, hcp⟩, hj⟩ := ht
  injection el with el
  subst el
  obtain ⟨n, hnn⟩ : ∃ n, n = ks.length := ⟨_, rfl⟩
  obtain ⟨m, hm⟩ : ∃ m, m = ks.length / 2 := ⟨_, rfl⟩
  rw [← hm]
  have hHs : Hs ex h ks ba ks.length bc W := ⟨rfl, hcp.2.2, ps, hpl2, hv, hj⟩
  rw [← hnn] at hn hHs hc hc2 hm
  have q0 : W.cell? ⟨p, 0, none⟩ = some (.slice ka n kc) := by rw [Lib.cell_of_heap hn]; rfl
  have q2 : W.cell? ⟨p, 2, none⟩ = some (.slice ba n bc) := by rw [Lib.cell_of_heap hn]; rfl
  have hpl : p < W.heap.size := heap_lt hn
  have hex1 : ∀ W', Below W.heap.size W W' → ∀ k, W'.heap.size ≤ k → ¬ ex k := fun W' hb k hk => hex k (by have := hb.size; omega)
  have hsp1 : Tm.spl ks m n [] = ks.take m := by unfold Tm.spl; rw [hnn, List.drop_length]; simp
  have hsp2 : Tm.spl ks 0 m [] = ks.drop m := by unfold Tm.spl; simp
  have hz1 : (Tm.flats h (ks.take m)).length ≤ 1000000 ∧ (Tm.flats h (ks.drop m)).length ≤ 1000000 := by
    have := hsz
    rw [← List.take_append_drop m ks, Tm.flats_app, List.length_append] at this
    omega
  have HK1 : Hid (∀ w, Below W.heap.size W w → Calls Try.prog 66 #[.slice ba n bc, .int .i64 (m : Int), .int .i64 (n : Int), .slice none 0 0] w fun e w' => ∃ a N, e = .returned (.slice a N N) ∧ Hid (Hs ex h (ks.take m) a N N w') ∧ Below w.heap.size w w') := fun w hb => by
    have := tre_splH m n (hHs.below hb) (Hs.nil ex h w) (by omega) (by omega) (Nat.le_refl _) (by omega) (by omega) (hex1 w hb)
    rw [hsp1] at this
    exact this
  have HK2 : Hid (∀ w, Below W.heap.size W w → Calls Try.prog 66 #[.slice ba n bc, .int .i64 0, .int .i64 (m : Int), .slice none 0 0] w fun e w' => ∃ a N, e = .returned (.slice a N N) ∧ Hid (Hs ex h (ks.drop m) a N N w') ∧ Below w.heap.size w w') := fun w hb => by
    have := tre_splH 0 m (hHs.below hb) (Hs.nil ex h w) (by omega) (by omega) (by omega) (by omega) (by omega) (hex1 w hb)
    rw [hsp2] at this
    exact this
  have HI1 : Hid (∀ w a N, Below W.heap.size W w → Hs ex h (ks.take m) a N N w → Calls Try.prog 65 #[.slice a N N] w fun e w' => ∃ q, e = .returned (.pointer (some ⟨q, 0, none⟩)) ∧ Hid (Tn ex (h + 1) q (.inner (ks.take m)) w') ∧ Below w.heap.size w w') := fun w a N hb hh =>
    tre_innerH hh (by have := hh.1; rw [List.length_take] at this; omega) (by have := hh.1; rw [List.length_take] at this; omega) (fun t ht => hw t (List.mem_of_mem_take ht)) hz1.1 (hex1 w hb)
  have HI2 : Hid (∀ w a N, Below W.heap.size W w → Hs ex h (ks.drop m) a N N w → Calls Try.prog 65 #[.slice a N N] w fun e w' => ∃ q, e = .returned (.pointer (some ⟨q, 0, none⟩)) ∧ Hid (Tn ex (h + 1) q (.inner (ks.drop m)) w') ∧ Below w.heap.size w w') := fun w a N hb hh =>
    tre_innerH hh (by have := hh.1; rw [List.length_drop] at this; omega) (by have := hh.1; rw [List.length_drop] at this; omega) (fun t ht => hw t (List.mem_of_mem_drop ht)) hz1.2 (hex1 w hb)
  have hni : ¬ (n : Int) ≤ 8 := by omega
  have hm6 : m ≤ 6 := by omega
  have hdv : (n : Int).tdiv 2 = (m : Int) := by rw [Int.tdiv_eq_ediv_of_nonneg (by omega)]; omega
  have hkd : decide (0 < (Tm.T.inner ks).ks.length) = true := decide_eq_true (show 0 < ks.length by omega)
  rw [hkd] at HKID
  have HKID2 : Hid (∀ W', Below W.heap.size W W' → Calls Try.prog 61 #[.pointer (some ⟨p, 0, none⟩)] W' fun e w' => e = .returned (.bool true) ∧ W' = w') := HKID.out
  have HB0 : Hid (Below W.heap.size W W.drew) := below_dr8 W
  have SB : Hid (∀ w', Below W.heap.size W w' → w'.cell? ⟨p, 2, none⟩ = some (.slice ba n bc)) := fun w' hb => (hb.cell (p := ⟨p, 2, none⟩) hpl).trans q2
  have HX2 := Lib.hid hex1
  clear HKID hn hk hv hcp hex hex1 q2 hnn hm hkd hxp hHs hj hpl2 hw hsz hz1 hsp1 hsp2
  unfold ptr
  go_enter Try.func67, Try.ntmps67
  go_upto_region 5 with (fail)
  go_wp2_with fail
  refine (HKID2.out W (Below.refl _ W)).mono ?_
  rintro e w0 ⟨rfl, rfl⟩
  go_upto_region 6 with (fail)
  have T1 := Lib.hid True.intro
  have T2 := Lib.hid True.intro
  go_region_held3 (fun w' => w'.cell? ⟨p, 2, none⟩ = some (.slice ba n bc)) (first | exact SB.out _ HB0.out | exact SB.out _ (by assumption) | exact SB.out _ (B6.alloc B6.size _))
    (first
      | (go_at_call 66; clear T1; refine (HK1.out _ HB0.out).mono ?_; rintro e w1 ⟨a1, N1, rfl, hr1, hb1⟩; have B1 := HB0.out.trans (hb1.mono HB0.out.size))
      | (go_at_call 65; clear T2; refine (HI1.out _ _ _ B1 hr1.out).mono ?_; rintro e w3 ⟨p1, rfl, ht1, hb3⟩; have B3 := B1.trans (hb3.mono B1.size))
      | (go_at_call 66; refine (HK2.out _ B3).mono ?_; rintro e w4 ⟨a4, N4, rfl, hr4, hb4⟩; have B4 := B3.trans (hb4.mono B3.size))
      | (go_at_call 65; refine (HI2.out _ _ _ B4 hr4.out).mono ?_; rintro e w6 ⟨p2, rfl, ht2, hb6⟩; have B6 := B4.trans (hb6.mono B4.size)))
  have HF : Hid (Hs ex (h + 1) [.inner (ks.take m), .inner (ks.drop m)] (some ⟨w6.heap.size, 0, none⟩) 2 2 (w6.alloc (.cells #[.pointer (some ⟨p1, 0, none⟩), .pointer (some ⟨p2, 0, none⟩)] 72)) ∧ Below W.heap.size W (w6.alloc (.cells #[.pointer (some ⟨p1, 0, none⟩), .pointer (some ⟨p2, 0, none⟩)] 72))) :=
    ⟨Hs.two ((ht1.out.below hb4).below hb6) ht2.out (HX2.out _ B6 _ (Nat.le_refl _)) _, B6.alloc B6.size _⟩
  clear hr1 hr4 hb1 hb3 hb4 hb6 ht1 ht2 B1 B3 B4 B6 HK1 HK2 HI1 HI2 SB q0
  go_wp2
  go_ret
  exact ⟨_, _, _, rfl, HF.out⟩
end Go.Proofs.Ytdchapcpimhjaaa
