/- Package tree: joined, above, halves of any node. -/
import Derived.Test.YtlakolcjgnmllaaTreC5
namespace Go.Proofs.Ytlakolcjgnmllaa
open Go.RowKit

theorem Rv.nc {ex : Nat → Prop} {a : Option Addr} {n c : Nat} {vs : List Value} {W : World} (h : Rv ex a n c vs W) : n ≤ c := by
  rcases Nat.eq_zero_or_pos n with h0 | h0
  · omega
  · obtain ⟨g, off, -, hc, -⟩ := h.at h0; exact hc
/-- rows of keys and of values, spliced -/
theorem tre_splK {ex : Nat → Prop} {a ea : Option Addr} {n c en ec : Nat} {l es : List Tm.K} {W : World} (fr tt : Nat) (h : Rv ex a n c (sk l) W) (hf : Fm a n c) (he : Rv ex ea en ec (sk es) W) (hft : fr ≤ tt) (htn : tt ≤ n) (hn : n ≤ 100) (hen : en ≤ 100) (hc : c ≤ 64) (hex : ∀ k, W.heap.size ≤ k → ¬ ex k) :
    Calls Try.prog 42 #[.slice a n c, .int .i64 (fr : Int), .int .i64 (tt : Int), .slice ea en ec] W fun e w' => ∃ a' N, e = .returned (.slice a' N N) ∧ Hid (N = (Tm.spl l fr tt es).length ∧ Rv ex a' N N (sk (Tm.spl l fr tt es)) w' ∧ Fm a' N N) ∧ Below W.heap.size W w' := by
  refine (tre_spls fr tt h hf he (sk_one _) (sk_one _) hft htn h.nc (by omega) (by omega) (by omega)).mono ?_
  rintro e w' ⟨a', N, rfl, hF, hN, hr, hb⟩
  have e : Tm.spl (sk l) fr tt (sk es) = sk (Tm.spl l fr tt es) := by unfold Tm.spl sk; simp [List.map_take, List.map_drop]
  rw [e] at hN hr
  exact ⟨a', N, rfl, ⟨by rw [hN]; simp [sk], hr ex hex, hF⟩, hb⟩
theorem tre_splV {ex : Nat → Prop} {a ea : Option Addr} {n c en ec : Nat} {l es : List Int} {W : World} (fr tt : Nat) (h : Rv ex a n c (iv l) W) (hf : Fm a n c) (he : Rv ex ea en ec (iv es) W) (hft : fr ≤ tt) (htn : tt ≤ n) (hn : n ≤ 100) (hen : en ≤ 100) (hc : c ≤ 64) (hex : ∀ k, W.heap.size ≤ k → ¬ ex k) :
    Calls Try.prog 43 #[.slice a n c, .int .i64 (fr : Int), .int .i64 (tt : Int), .slice ea en ec] W fun e w' => ∃ a' N, e = .returned (.slice a' N N) ∧ Hid (N = (Tm.spl l fr tt es).length ∧ Rv ex a' N N (iv (Tm.spl l fr tt es)) w' ∧ Fm a' N N) ∧ Below W.heap.size W w' := by
  refine (tre_spli fr tt h hf he (iv_one _) (iv_one _) hft htn h.nc (by omega) (by omega) (by omega)).mono ?_
  rintro e w' ⟨a', N, rfl, hF, hN, hr, hb⟩
  have e : Tm.spl (iv l) fr tt (iv es) = iv (Tm.spl l fr tt es) := by unfold Tm.spl iv; simp [List.map_take, List.map_drop]
  rw [e] at hN hr
  exact ⟨a', N, rfl, ⟨by rw [hN]; simp [iv], hr ex hex, hF⟩, hb⟩
theorem map_spl {α β : Type} (f : α → β) (l e : List α) (a b : Nat) : (Tm.spl l a b e).map f = Tm.spl (l.map f) a b (e.map f) := by
  unfold Tm.spl; simp [List.map_take, List.map_drop]
/-- a leaf of two rows -/
theorem tre_leafH {ex : Nat → Prop} {r : List Tm.E} {a1 b1 : Option Addr} {N1 M1 : Nat} {l1 : List Tm.K} {l2 : List Int} {W : World} (e1 : l1 = r.map (·.1)) (e2 : l2 = r.map (·.2)) (hr : r.length ≤ 60) (h1 : N1 = l1.length ∧ Rv ex a1 N1 N1 (sk l1) W ∧ Fm a1 N1 N1) (h2 : M1 = l2.length ∧ Rv ex b1 M1 M1 (iv l2) W ∧ Fm b1 M1 M1) (hex : ∀ k, W.heap.size ≤ k → ¬ ex k) :
    Calls Try.prog 41 #[.slice a1 N1 N1, .slice b1 M1 M1] W fun e w' => ∃ q, e = .returned (.pointer (some ⟨q, 0, none⟩)) ∧ Hid (Tn ex 0 q (.leaf r) w') ∧ Below W.heap.size W w' := by
  subst e1 e2
  have n1 : N1 = r.length := by rw [h1.1, List.length_map]
  have n2 : M1 = r.length := by rw [h2.1, List.length_map]
  refine (tre_leaf n1 n2 h1.2.1 h2.2.1 (hex _ (Nat.le_refl _)) (by omega) (by omega) h1.2.2 h2.2.2).mono ?_
  rintro e w' ⟨rfl, hT, hb'⟩
  exact ⟨_, rfl, hT, hb'⟩
theorem tre_halves {ex : Nat → Prop} {W : World} : ∀ {h p : Nat} {t : Tm.T}, Tn ex h p t W → Tm.Wb h t → Tm.cnt t ≤ 11 → (Tm.flat h t).length ≤ 1000000 → (∀ k, W.heap.size ≤ k → ¬ ex k) →
    Calls Try.prog 40 #[ptr p] W fun e w' => ∃ a n c, e = .returned (.slice a n c) ∧ Hid (Hs ex h (Tm.hv t) a n c w') ∧ Below W.heap.size W w'
  | 0, p, .inner _, ht, _, _, _, _ => by obtain ⟨l, e, _⟩ := ht; cases e
  | _ + 1, p, .leaf _, ht, _, _, _, _ => by obtain ⟨l, ps, e, _⟩ := ht; cases e
  | 0, p, .leaf l, ht, hw, hc, hs, hex => by
    have hc' : l.length ≤ 11 := hc
    by_cases h8 : l.length ≤ 8
    · have e : Tm.hv (.leaf l) = [.leaf l] := by show (Tm.halves l).map Tm.T.leaf = _; rw [Tm.halves_one h8]; rfl
      rw [e]
      exact tre_halves1 ht (by show (l.map (·.1)).length ≤ 8; simpa using h8) (hex _ (Nat.le_refl _))
    · have e : Tm.hv (.leaf l) = [.leaf (l.take (l.length / 2)), .leaf (l.drop (l.length / 2))] := by show (Tm.halves l).map Tm.T.leaf = _; rw [Tm.halves_two h8]; rfl
      rw [e]
      exact tre_halvesL ht (by omega) hc' hex
  | h + 1, p, .inner ks, ht, hw, hc, hs, hex => by
    have hc' : ks.length ≤ 11 := hc
    by_cases h8 : ks.length ≤ 8
    · have e : Tm.hv (.inner ks) = [.inner ks] := by show (Tm.halves ks).map Tm.T.inner = _; rw [Tm.halves_one h8]; rfl
      rw [e]
      exact tre_halves1 ht (by show (ks.map (Tm.fk h)).length ≤ 8; simpa using h8) (hex _ (Nat.le_refl _))
    · have e : Tm.hv (.inner ks) = [.inner (ks.take (ks.length / 2)), .inner (ks.drop (ks.length / 2))] := by show (Tm.halves ks).map Tm.T.inner = _; rw [Tm.halves_two h8]; rfl
      rw [e]
      exact tre_halvesI ht (by omega) hc' hw hs hex
set_option maxHeartbeats 4000000 in
set_option maxRecDepth 100000 in
theorem tre_joinedL {ex : Nat → Prop} {p q : Nat} {l r : List Tm.E} {W : World} (ht : Tn ex 0 p (.leaf l) W) (hu : Tn ex 0 q (.leaf r) W) (hc : l.length ≤ 8) (hc2 : r.length ≤ 8) (hex : ∀ k, W.heap.size ≤ k → ¬ ex k) :
    Calls Try.prog 49 #[ptr p, ptr q] W fun e w' => ∃ z, e = .returned (.pointer (some ⟨z, 0, none⟩)) ∧ Hid (Tn ex 0 z (.leaf (l ++ r)) w') ∧ Below W.heap.size W w' := by
  have HKID := Lib.hid (fun W' (hb : Below W.heap.size W W') => tre_hasKids (ht.below hb))
  obtain ⟨l', el, hxp, ka, kc, va, vc, ba, bc, hn, hk, hv, hcp⟩ := ht
  obtain ⟨r', er, hxq, ka2, kc2, va2, vc2, ba2, bc2, hn2, hk2, hv2, hcp2⟩ := hu
  injection el with el
  injection er with er
  subst el er
  obtain ⟨n, hnn⟩ : ∃ n, n = l.length := ⟨_, rfl⟩
  obtain ⟨m, hmm⟩ : ∃ m, m = r.length := ⟨_, rfl⟩
  rw [← hnn] at hn hk hv hc hcp
  rw [← hmm] at hn2 hk2 hv2 hc2 hcp2
  have p0 : W.cell? ⟨p, 0, none⟩ = some (.slice ka n kc) := by rw [Lib.cell_of_heap hn]; rfl
  have p1 : W.cell? ⟨p, 1, none⟩ = some (.slice va n vc) := by rw [Lib.cell_of_heap hn]; rfl
  have q0 : W.cell? ⟨q, 0, none⟩ = some (.slice ka2 m kc2) := by rw [Lib.cell_of_heap hn2]; rfl
  have q1 : W.cell? ⟨q, 1, none⟩ = some (.slice va2 m vc2) := by rw [Lib.cell_of_heap hn2]; rfl
  have hpl : p < W.heap.size := heap_lt hn
  have hql : q < W.heap.size := heap_lt hn2
  have hex1 : ∀ W', Below W.heap.size W W' → ∀ k, W'.heap.size ≤ k → ¬ ex k := fun W' hb k hk => hex k (by have := hb.size; omega)
  have HK1 : Hid (∀ w, Below W.heap.size W w → Calls Try.prog 42 #[.slice ka n kc, .int .i64 (n : Int), .int .i64 (n : Int), .slice ka2 m kc2] w fun e w' => ∃ a N, e = .returned (.slice a N N) ∧ Hid (N = (Tm.spl (l.map (·.1)) n n (r.map (·.1))).length ∧ Rv ex a N N (sk (Tm.spl (l.map (·.1)) n n (r.map (·.1)))) w' ∧ Fm a N N) ∧ Below w.heap.size w w') := fun w hb =>
    tre_splK n n (hk.below hb) hcp.2.1 (hk2.below hb) (Nat.le_refl _) (Nat.le_refl _) (by omega) (by omega) hcp.1.1 (hex1 w hb)
  have HV1 : Hid (∀ w, Below W.heap.size W w → Calls Try.prog 43 #[.slice va n vc, .int .i64 (n : Int), .int .i64 (n : Int), .slice va2 m vc2] w fun e w' => ∃ a N, e = .returned (.slice a N N) ∧ Hid (N = (Tm.spl (l.map (·.2)) n n (r.map (·.2))).length ∧ Rv ex a N N (iv (Tm.spl (l.map (·.2)) n n (r.map (·.2)))) w' ∧ Fm a N N) ∧ Below w.heap.size w w') := fun w hb =>
    tre_splV n n (hv.below hb) hcp.2.2 (hv2.below hb) (Nat.le_refl _) (Nat.le_refl _) (by omega) (by omega) hcp.1.2.1 (hex1 w hb)
  have es : Tm.spl l n n r = l ++ r := by unfold Tm.spl; rw [hnn]; simp
  have HLF : Hid (∀ (w : World) (a1 b1 : Option Addr) (N1 M1 : Nat), Below W.heap.size W w → (N1 = (Tm.spl (l.map (·.1)) n n (r.map (·.1))).length ∧ Rv ex a1 N1 N1 (sk (Tm.spl (l.map (·.1)) n n (r.map (·.1)))) w ∧ Fm a1 N1 N1) → (M1 = (Tm.spl (l.map (·.2)) n n (r.map (·.2))).length ∧ Rv ex b1 M1 M1 (iv (Tm.spl (l.map (·.2)) n n (r.map (·.2)))) w ∧ Fm b1 M1 M1) → Calls Try.prog 41 #[.slice a1 N1 N1, .slice b1 M1 M1] w fun e w' => ∃ z, e = .returned (.pointer (some ⟨z, 0, none⟩)) ∧ Hid (Tn ex 0 z (.leaf (l ++ r)) w') ∧ Below w.heap.size w w') := fun w a1 b1 N1 M1 hb h1 h2 => by
    rw [← es]
    exact tre_leafH (map_spl _ _ _ _ _).symm (map_spl _ _ _ _ _).symm (by rw [es, List.length_append]; omega) h1 h2 (hex1 w hb)
  have HKID2 : Hid (∀ W', Below W.heap.size W W' → Calls Try.prog 31 #[.pointer (some ⟨p, 0, none⟩)] W' fun e w' => e = .returned (.bool false) ∧ W' = w') := HKID.out
  have HB0 : Hid (Below W.heap.size W W.drew) := below_dr8 W
  have SB : Hid (∀ w', Below W.heap.size W w' → w'.cell? ⟨p, 0, none⟩ = some (.slice ka n kc) ∧ w'.cell? ⟨p, 1, none⟩ = some (.slice va n vc) ∧ w'.cell? ⟨q, 0, none⟩ = some (.slice ka2 m kc2) ∧ w'.cell? ⟨q, 1, none⟩ = some (.slice va2 m vc2)) := fun w' hb => ⟨(hb.cell (p := ⟨p, 0, none⟩) hpl).trans p0, (hb.cell (p := ⟨p, 1, none⟩) hpl).trans p1, (hb.cell (p := ⟨q, 0, none⟩) hql).trans q0, (hb.cell (p := ⟨q, 1, none⟩) hql).trans q1⟩
  clear HKID hn hk hv hcp hn2 hk2 hv2 hcp2 hex hex1 p1 q0 q1 hnn hmm hxp hxq es hc hc2
  unfold ptr
  go_enter Try.func49, Try.ntmps49
  go_upto_region 2 with (fail)
  go_wp2_with fail
  refine (HKID2.out W (Below.refl _ W)).mono ?_
  rintro e w0 ⟨rfl, rfl⟩
  go_upto_region 4 with (fail)
  go_region_held3 (fun w' => w'.cell? ⟨p, 0, none⟩ = some (.slice ka n kc) ∧ w'.cell? ⟨p, 1, none⟩ = some (.slice va n vc) ∧ w'.cell? ⟨q, 0, none⟩ = some (.slice ka2 m kc2) ∧ w'.cell? ⟨q, 1, none⟩ = some (.slice va2 m vc2)) (first | exact SB.out _ HB0.out | exact SB.out _ (by assumption))
    (first
      | (go_at_call 42; refine (HK1.out _ HB0.out).mono ?_; rintro e w1 ⟨a1, N1, rfl, hr1, hb1⟩; have B1 := HB0.out.trans (hb1.mono HB0.out.size))
      | (go_at_call 43; refine (HV1.out _ B1).mono ?_; rintro e w2 ⟨a2, N2, rfl, hr2, hb2⟩; have B2 := B1.trans (hb2.mono B1.size))
      | (go_at_call 41; refine (HLF.out _ _ _ _ _ B2 ⟨hr1.out.1, hr1.out.2.1.below hb2, hr1.out.2.2⟩ hr2.out).mono ?_; rintro e w3 ⟨z, rfl, ht1, hb3⟩; have B3 := B2.trans (hb3.mono B2.size)))
  have HB3 := Lib.hid B3
  clear hr1 hr2 hb1 hb2 hb3 B1 B2 B3 HK1 HV1 HLF SB p0
  go_wp2
  go_ret
  exact ⟨_, rfl, ht1, HB3.out⟩
set_option maxHeartbeats 4000000 in
set_option maxRecDepth 100000 in
theorem tre_joinedI {ex : Nat → Prop} {h p q : Nat} {ks es : List Tm.T} {W : World} (ht : Tn ex (h + 1) p (.inner ks) W) (hu : Tn ex (h + 1) q (.inner es) W) (hc1 : 1 ≤ ks.length) (hc : ks.length ≤ 8) (hc2 : es.length ≤ 8) (hw : ∀ t ∈ ks, Tm.Wf h 4 t) (hw2 : ∀ t ∈ es, Tm.Wf h 4 t) (hsz : (Tm.flats h ks).length + (Tm.flats h es).length ≤ 1000000) (hex : ∀ k, W.heap.size ≤ k → ¬ ex k) :
    Calls Try.prog 49 #[ptr p, ptr q] W fun e w' => ∃ z, e = .returned (.pointer (some ⟨z, 0, none⟩)) ∧ Hid (Tn ex (h + 1) z (.inner (ks ++ es)) w') ∧ Below W.heap.size W w' := by
  have HKID := Lib.hid (fun W' (hb : Below W.heap.size W W') => tre_hasKids (ht.below hb))
  obtain ⟨ks', ps, el, hxp, hpl2, ⟨ka, kc, va, vc, ba, bc, hn, hk, hv, hcp⟩, hj⟩ := ht
  obtain ⟨es', qs, er, hxq, hql2, ⟨ka2, kc2, va2, vc2, ba2, bc2, hn2, hk2, hv2, hcp2⟩, hj2⟩ := hu
  injection el with el
  injection er with er
  subst el er
  obtain ⟨n, hnn⟩ : ∃ n, n = ks.length := ⟨_, rfl⟩
  obtain ⟨m, hmm⟩ : ∃ m, m = es.length := ⟨_, rfl⟩
  have h1s : Hs ex h ks ba ks.length bc W := ⟨rfl, hcp.2.2, ps, hpl2, hv, hj⟩
  have h2s : Hs ex h es ba2 es.length bc2 W := ⟨rfl, hcp2.2.2, qs, hql2, hv2, hj2⟩
  rw [← hnn] at hn h1s hc hc1
  rw [← hmm] at hn2 h2s hc2
  have p0 : W.cell? ⟨p, 0, none⟩ = some (.slice ka n kc) := by rw [Lib.cell_of_heap hn]; rfl
  have p2 : W.cell? ⟨p, 2, none⟩ = some (.slice ba n bc) := by rw [Lib.cell_of_heap hn]; rfl
  have q2 : W.cell? ⟨q, 2, none⟩ = some (.slice ba2 m bc2) := by rw [Lib.cell_of_heap hn2]; rfl
  have hpl : p < W.heap.size := heap_lt hn
  have hql : q < W.heap.size := heap_lt hn2
  have hex1 : ∀ W', Below W.heap.size W W' → ∀ k, W'.heap.size ≤ k → ¬ ex k := fun W' hb k hk => hex k (by have := hb.size; omega)
  have e1 : Tm.spl ks n n es = ks ++ es := by unfold Tm.spl; rw [hnn]; simp
  have HK1 : Hid (∀ w, Below W.heap.size W w → Calls Try.prog 39 #[.slice ba n bc, .int .i64 (n : Int), .int .i64 (n : Int), .slice ba2 m bc2] w fun e w' => ∃ a N, e = .returned (.slice a N N) ∧ Hid (Hs ex h (ks ++ es) a N N w') ∧ Below w.heap.size w w') := fun w hb => by
    have := tre_splH n n (h1s.below hb) (h2s.below hb) hc1 (Nat.le_refl _) (Nat.le_refl _) (by omega) (by omega) (hex1 w hb)
    rw [e1] at this
    exact this
  have HI1 : Hid (∀ w a N, Below W.heap.size W w → Hs ex h (ks ++ es) a N N w → Calls Try.prog 38 #[.slice a N N] w fun e w' => ∃ z, e = .returned (.pointer (some ⟨z, 0, none⟩)) ∧ Hid (Tn ex (h + 1) z (.inner (ks ++ es)) w') ∧ Below w.heap.size w w') := fun w a N hb hh =>
    tre_innerH hh (by have := hh.1; rw [List.length_append] at this; omega) (by have := hh.1; rw [List.length_append] at this; omega) (fun t ht => by
      rcases List.mem_append.1 ht with ht | ht
      · exact hw t ht
      · exact hw2 t ht) (by rw [Tm.flats_app, List.length_append]; exact hsz) (hex1 w hb)
  have hkd : decide (0 < (Tm.T.inner ks).ks.length) = true := decide_eq_true (show 0 < ks.length by omega)
  rw [hkd] at HKID
  have HKID2 : Hid (∀ W', Below W.heap.size W W' → Calls Try.prog 31 #[.pointer (some ⟨p, 0, none⟩)] W' fun e w' => e = .returned (.bool true) ∧ W' = w') := HKID.out
  have HB0 : Hid (Below W.heap.size W W.drew) := below_dr8 W
  have SB : Hid (∀ w', Below W.heap.size W w' → w'.cell? ⟨p, 2, none⟩ = some (.slice ba n bc) ∧ w'.cell? ⟨q, 2, none⟩ = some (.slice ba2 m bc2)) := fun w' hb => ⟨(hb.cell (p := ⟨p, 2, none⟩) hpl).trans p2, (hb.cell (p := ⟨q, 2, none⟩) hql).trans q2⟩
  clear HKID hn hk hv hcp hn2 hk2 hv2 hcp2 hex hex1 p2 q2 hnn hmm hxp hxq h1s h2s hj hj2 hpl2 hql2 hw hw2 hsz e1 hkd hc1 hc hc2
  unfold ptr
  go_enter Try.func49, Try.ntmps49
  go_upto_region 2 with (fail)
  go_wp2_with fail
  refine (HKID2.out W (Below.refl _ W)).mono ?_
  rintro e w0 ⟨rfl, rfl⟩
  go_upto_region 3 with (fail)
  go_region_held3 (fun w' => w'.cell? ⟨p, 2, none⟩ = some (.slice ba n bc) ∧ w'.cell? ⟨q, 2, none⟩ = some (.slice ba2 m bc2)) (first | exact SB.out _ HB0.out | exact SB.out _ (by assumption))
    (first
      | (go_at_call 39; refine (HK1.out _ HB0.out).mono ?_; rintro e w1 ⟨a1, N1, rfl, hr1, hb1⟩; have B1 := HB0.out.trans (hb1.mono HB0.out.size))
      | (go_at_call 38; refine (HI1.out _ _ _ B1 hr1.out).mono ?_; rintro e w3 ⟨z, rfl, ht1, hb3⟩; have B3 := B1.trans (hb3.mono B1.size)))
  have HB3 := Lib.hid B3
  clear hr1 hb1 hb3 B1 B3 HK1 HI1 SB p0
  go_wp2
  go_ret
  exact ⟨_, rfl, ht1, HB3.out⟩
theorem tre_joined {ex : Nat → Prop} {W : World} : ∀ {h p q : Nat} {t u : Tm.T}, Tn ex h p t W → Tn ex h q u W → Tm.Wf h 3 t → Tm.Wf h 3 u → (Tm.flat h t).length + (Tm.flat h u).length ≤ 1000000 → (∀ k, W.heap.size ≤ k → ¬ ex k) →
    Calls Try.prog 49 #[ptr p, ptr q] W fun e w' => ∃ z, e = .returned (.pointer (some ⟨z, 0, none⟩)) ∧ Hid (Tn ex h z (Tm.jn t u) w') ∧ Below W.heap.size W w'
  | 0, p, q, .inner _, _, ht, _, _, _, _, _ => by obtain ⟨l, e, _⟩ := ht; cases e
  | 0, p, q, _, .inner _, _, ht, _, _, _, _ => by obtain ⟨l, e, _⟩ := ht; cases e
  | _ + 1, p, q, .leaf _, _, ht, _, _, _, _, _ => by obtain ⟨l, ps, e, _⟩ := ht; cases e
  | _ + 1, p, q, _, .leaf _, _, ht, _, _, _, _ => by obtain ⟨l, ps, e, _⟩ := ht; cases e
  | 0, p, q, .leaf l, .leaf r, ht, hu, hw, hw2, hs, hex => tre_joinedL ht hu hw.2 hw2.2 hex
  | h + 1, p, q, .inner ks, .inner es, ht, hu, hw, hw2, hs, hex => by
    have h1 : 3 ≤ ks.length := hw.1
    exact tre_joinedI ht hu (by omega) hw.2.1 hw2.2.1 hw.2.2 hw2.2.2 hs hex
end Go.Proofs.Ytlakolcjgnmllaa
