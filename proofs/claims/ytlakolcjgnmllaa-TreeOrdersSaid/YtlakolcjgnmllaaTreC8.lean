/- Package tree: without, with. -/
import Derived.Test.YtlakolcjgnmllaaTreC7
namespace Go.Proofs.Ytlakolcjgnmllaa
open Go.RowKit

/-- what a drawn region may rely on -/
theorem Hs.one_of {ex : Nat → Prop} {h : Nat} {ts : List Tm.T} {a : Option Addr} {n c : Nat} {W : World} (hs : Hs ex h ts a n c W) : n = ts.length := hs.1
set_option maxHeartbeats 4000000 in
set_option maxRecDepth 100000 in
theorem tre_withoutL {ex : Nat → Prop} {p : Nat} {l : List Tm.E} {k : Tm.K} {W : World} (ht : Tn ex 0 p (.leaf l) W) (hc : l.length ≤ 8) (ha : Tm.Asc l) (hk0 : Tm.has l k = true) (hex : ∀ k, W.heap.size ≤ k → ¬ ex k) :
    Calls Try.prog 30 #[ptr p, .string (bstr k)] W fun e w' => ∃ z, e = .returned (.pointer (some ⟨z, 0, none⟩)) ∧ Hid (Tn ex 0 z (Tm.wo 0 (.leaf l) k) w') ∧ Below W.heap.size W w' := by
  have HKID := Lib.hid (fun W' (hb : Below W.heap.size W W') => tre_hasKids (ht.below hb))
  have hak := Tm.keys_asc 0 (.leaf l) trivial ha
  have HF0 := fun W' (hb : Below W.heap.size W W') => tre_find k (ht.below hb) (show l.length ≤ 100 by omega) hak
  have hok := Tm.leaf_has l k ha
  rw [hk0] at hok
  have hfl : Tm.fnd (l.map (·.1)) k < l.length := by
    have := hok.symm
    unfold Tm.fok at this
    have h2 := of_decide_eq_true this
    have := (List.getElem?_eq_some_iff.1 h2).1
    simpa using this
  obtain ⟨l', el, hxp, ka, kc, va, vc, ba, bc, hn, hk, hv, hcp⟩ := ht
  injection el with el
  subst el
  obtain ⟨n, hnn⟩ : ∃ n, n = l.length := ⟨_, rfl⟩
  obtain ⟨f, hf⟩ : ∃ f, f = Tm.fnd (l.map (·.1)) k := ⟨_, rfl⟩
  obtain ⟨j, hj⟩ : ∃ j, j = f + 1 := ⟨_, rfl⟩
  have hwo : Tm.wo 0 (.leaf l) k = .leaf (Tm.spl l f j []) := by rw [hj, hf]; rfl
  rw [hwo]
  rw [← hnn] at hn hk hv hc hcp hfl
  rw [← hf] at hfl
  have HF : Hid (∀ W', Below W.heap.size W W' → Calls Try.prog 33 #[.pointer (some ⟨p, 0, none⟩), .string (bstr k)] W' fun e w' => e = .returned (.tuple #[.int .i64 (f : Int), .bool true]) ∧ Below W'.heap.size W' w') := fun W' hb => by
    have h := HF0 W' hb
    rw [show Tm.keys 0 (.leaf l) = l.map (·.1) from rfl, ← hok, ← hf] at h
    exact h
  have p0 : W.cell? ⟨p, 0, none⟩ = some (.slice ka n kc) := by rw [Lib.cell_of_heap hn]; rfl
  have p1 : W.cell? ⟨p, 1, none⟩ = some (.slice va n vc) := by rw [Lib.cell_of_heap hn]; rfl
  have hpl : p < W.heap.size := heap_lt hn
  have hex1 : ∀ W', Below W.heap.size W W' → ∀ k, W'.heap.size ≤ k → ¬ ex k := fun W' hb k hk => hex k (by have := hb.size; omega)
  have HK1 : Hid (∀ w, Below W.heap.size W w → Calls Try.prog 42 #[.slice ka n kc, .int .i64 (f : Int), .int .i64 (j : Int), .slice none 0 0] w fun e w' => ∃ a N, e = .returned (.slice a N N) ∧ Hid (N = (Tm.spl (l.map (·.1)) f j []).length ∧ Rv ex a N N (sk (Tm.spl (l.map (·.1)) f j [])) w' ∧ Fm a N N) ∧ Below w.heap.size w w') := fun w hb =>
    tre_splK f j (hk.below hb) hcp.2.1 (Rv.nil ex none 0 w) (by omega) (by omega) (by omega) (by omega) hcp.1.1 (hex1 w hb)
  have HV1 : Hid (∀ w, Below W.heap.size W w → Calls Try.prog 43 #[.slice va n vc, .int .i64 (f : Int), .int .i64 (j : Int), .slice none 0 0] w fun e w' => ∃ a N, e = .returned (.slice a N N) ∧ Hid (N = (Tm.spl (l.map (·.2)) f j []).length ∧ Rv ex a N N (iv (Tm.spl (l.map (·.2)) f j [])) w' ∧ Fm a N N) ∧ Below w.heap.size w w') := fun w hb =>
    tre_splV f j (hv.below hb) hcp.2.2 (Rv.nil ex none 0 w) (by omega) (by omega) (by omega) (by omega) hcp.1.2.1 (hex1 w hb)
  have hsl := Tm.spl_len l (a := f) (b := j) [] (by omega) (by omega)
  have HLF : Hid (∀ (w : World) (a1 b1 : Option Addr) (N1 M1 : Nat), Below W.heap.size W w → (N1 = (Tm.spl (l.map (·.1)) f j []).length ∧ Rv ex a1 N1 N1 (sk (Tm.spl (l.map (·.1)) f j [])) w ∧ Fm a1 N1 N1) → (M1 = (Tm.spl (l.map (·.2)) f j []).length ∧ Rv ex b1 M1 M1 (iv (Tm.spl (l.map (·.2)) f j [])) w ∧ Fm b1 M1 M1) → Calls Try.prog 41 #[.slice a1 N1 N1, .slice b1 M1 M1] w fun e w' => ∃ z, e = .returned (.pointer (some ⟨z, 0, none⟩)) ∧ Hid (Tn ex 0 z (.leaf (Tm.spl l f j [])) w') ∧ Below w.heap.size w w') := fun w a1 b1 N1 M1 hb h1 h2 =>
    tre_leafH (map_spl _ _ [] _ _).symm (map_spl _ _ [] _ _).symm (by rw [List.length_nil] at hsl; omega) h1 h2 (hex1 w hb)
  have HKID2 : Hid (∀ W', Below W.heap.size W W' → Calls Try.prog 31 #[.pointer (some ⟨p, 0, none⟩)] W' fun e w' => e = .returned (.bool false) ∧ W' = w') := HKID.out
  have SB : Hid (∀ w', Below W.heap.size W w' → w'.cell? ⟨p, 0, none⟩ = some (.slice ka n kc) ∧ w'.cell? ⟨p, 1, none⟩ = some (.slice va n vc)) := fun w' hb => ⟨(hb.cell (p := ⟨p, 0, none⟩) hpl).trans p0, (hb.cell (p := ⟨p, 1, none⟩) hpl).trans p1⟩
  have hji : IntKind.i64.wrap ((f : Int) + 1) = (j : Int) := by rw [IntWalk.i64_in _ (by omega)]; omega
  clear HKID HF0 hak hn hk hv hcp hex hex1 p1 p0 hnn hxp hc hwo hok hf hj hfl hsl ha hk0
  generalize bstr k = S at *
  unfold ptr
  go_enter Try.func30, Try.ntmps30
  go_wp2_with fail
  refine (HKID2.out W (Below.refl _ W)).mono ?_
  rintro e w0 ⟨rfl, rfl⟩
  go_wp2_with fail
  refine (HF.out W (Below.refl _ W)).mono ?_
  rintro e w1 ⟨rfl, hb1⟩
  have HB1 := Lib.hid hb1
  have HB0 : Hid (Below W.heap.size W w1.drew) := hb1.trans ((below_dr8 w1).mono hb1.size)
  clear hb1
  go_upto_region 5 with (fail)
  go_region_held3 (fun w' => w'.cell? ⟨p, 0, none⟩ = some (.slice ka n kc) ∧ w'.cell? ⟨p, 1, none⟩ = some (.slice va n vc)) (first | exact SB.out _ HB0.out | exact SB.out _ (by assumption))
    (first
      | (go_at_call 42; refine (HK1.out _ HB0.out).mono ?_; rintro e w2 ⟨a2, N2, rfl, hr2, hb2⟩; have B2 := HB0.out.trans (hb2.mono HB0.out.size))
      | (go_at_call 43; refine (HV1.out _ B2).mono ?_; rintro e w3 ⟨a3, N3, rfl, hr3, hb3⟩; have B3 := B2.trans (hb3.mono B2.size))
      | (go_at_call 41; refine (HLF.out _ _ _ _ _ B3 ⟨hr2.out.1, hr2.out.2.1.below hb3, hr2.out.2.2⟩ hr3.out).mono ?_; rintro e w4 ⟨z, rfl, ht4, hb4⟩; have B4 := B3.trans (hb4.mono B3.size)))
  have HB4 := Lib.hid B4
  clear hr2 hr3 hb2 hb3 hb4 B2 B3 B4 HK1 HV1 HLF SB
  go_wp2
  go_ret
  exact ⟨_, rfl, ht4, HB4.out⟩
set_option maxHeartbeats 4000000 in
set_option maxRecDepth 100000 in
theorem tre_without {ex : Nat → Prop} {k : Tm.K} : ∀ {h p lo : Nat} {t : Tm.T} {W : World}, Tn ex h p t W → (h = 0 ∨ 2 ≤ lo) → Tm.Wf h lo t → Tm.Asc (Tm.flat h t) → Tm.has (Tm.flat h t) k = true → (Tm.flat h t).length ≤ 400000 → (∀ k, W.heap.size ≤ k → ¬ ex k) →
    Calls Try.prog 30 #[ptr p, .string (bstr k)] W fun e w' => ∃ z, e = .returned (.pointer (some ⟨z, 0, none⟩)) ∧ Hid (Tn ex h z (Tm.wo h t k) w') ∧ Below W.heap.size W w'
  | 0, _, _, .inner _, _, ht, _, _, _, _, _, _ => by obtain ⟨l, e, _⟩ := ht; cases e
  | _ + 1, _, _, .leaf _, _, ht, _, _, _, _, _, _ => by obtain ⟨l, ps, e, _⟩ := ht; cases e
  | 0, p, lo, .leaf l, W, ht, _, hw, ha, hk, hs, hex => tre_withoutL ht hw.2 ha hk hex
  | h + 1, p, lo, .inner ks, W, ht, hlo, hw, ha, hk, hs, hex => by
    obtain ⟨h1, h2, h3⟩ := hw
    have hlo2 : 2 ≤ lo := by omega
    have HKID := Lib.hid (fun W' (hb : Below W.heap.size W W') => tre_hasKids (ht.below hb))
    have hkd : decide (0 < (Tm.T.inner ks).ks.length) = true := decide_eq_true (show 0 < ks.length by omega)
    rw [hkd] at HKID
    have hak := Tm.keys_asc (h + 1) (.inner ks) h3 ha
    obtain ⟨i, hi⟩ : ∃ i, i = Tm.chd (ks.map (Tm.fk h)) k := ⟨_, rfl⟩
    have HC0 := tre_child k ht (show ks.length ≤ 100 by omega) hak
    rw [show Tm.keys (h + 1) (.inner ks) = ks.map (Tm.fk h) from rfl, ← hi] at HC0
    obtain ⟨hil, hA, hC, hfl⟩ := Tm.split (i := i) k h3 (by omega) ha hi
    obtain ⟨u, hu⟩ : ∃ u, u = ks.getD i (.leaf []) := ⟨_, rfl⟩
    have hwo : Tm.wo (h + 1) (.inner ks) k = Tm.rpl (.inner ks) i (Tm.wo h u k) := by rw [hu, hi]; rfl
    rw [hwo]
    have hwu : Tm.Wf h 4 u := by rw [hu]; exact h3 _ (Tm.getD_mem hil)
    rw [← hu] at hfl
    rw [Tm.flat_succ, hfl, Tm.has_mid hA hC] at hk
    rw [Tm.flat_succ] at ha hs
    have hau : Tm.Asc (Tm.flat h u) := by
      have := ha
      rw [hfl] at this
      exact (Tm.asc_app (Tm.asc_app this).2.1).1
    have hsu : (Tm.flat h u).length ≤ (Tm.flats h ks).length := by rw [hfl]; simp; omega
    obtain ⟨x, hx⟩ : ∃ x, x = Tm.wo h u k := ⟨_, rfl⟩
    obtain ⟨ok1, ok2⟩ := Tm.wo_ok h 4 u k (.inr (by decide)) hwu hau hk
    have hxl : (Tm.flat h x).length ≤ (Tm.flats h ks).length := by
      rw [hx, ok1]
      have := Tm.del_len (Tm.flat h u) k hau
      split at this <;> omega
    rw [← hx] at ok2 ⊢
    obtain ⟨ba, bc, p2, h1s, hpl, hkid⟩ := ht.kids
    obtain ⟨bg, boff, y, rfl, hbg, hbc, hycell, hy⟩ := hkid i hil
    rw [← hu] at hy
    obtain ⟨n, hnn⟩ : ∃ n, n = ks.length := ⟨_, rfl⟩
    have hex1 : ∀ W', Below W.heap.size W W' → ∀ k, W'.heap.size ≤ k → ¬ ex k := fun W' hb k hk => hex k (by have := hb.size; omega)
    have HWO : Hid (∀ w, Below W.heap.size W w → Calls Try.prog 30 #[.pointer (some ⟨y, 0, none⟩), .string (bstr k)] w fun e w' => ∃ z, e = .returned (.pointer (some ⟨z, 0, none⟩)) ∧ Hid (Tn ex h z x w') ∧ Below w.heap.size w w') := fun w hb => by
      rw [hx]
      exact tre_without (hy.below hb) (.inr (show 2 ≤ 4 by decide)) hwu hau hk (by omega) (hex1 w hb)
    have HRE : Hid (∀ w q, Below W.heap.size W w → Tn ex h q x w → Calls Try.prog 44 #[.pointer (some ⟨p, 0, none⟩), .int .i64 (i : Int), .pointer (some ⟨q, 0, none⟩)] w fun e w' => ∃ z, e = .returned (.pointer (some ⟨z, 0, none⟩)) ∧ Hid (Tn ex (h + 1) z (Tm.rpl (.inner ks) i x) w') ∧ Below w.heap.size w w') := fun w q hb hq =>
      tre_replace (ht.below hb) hq hil (by omega) h2 h3 ok2 (by omega) (hex1 w hb)
    have HCH : Hid (Calls Try.prog 32 #[.pointer (some ⟨p, 0, none⟩), .string (bstr k)] W fun e w' => e = .returned (.int .i64 (i : Int)) ∧ Below W.heap.size W w') := HC0
    have HKID2 : Hid (∀ W', Below W.heap.size W W' → Calls Try.prog 31 #[.pointer (some ⟨p, 0, none⟩)] W' fun e w' => e = .returned (.bool true) ∧ W' = w') := HKID.out
    have SB : Hid (∀ w', Below W.heap.size W w' → w'.cell? ⟨p, 2, none⟩ = some (.slice (some ⟨bg, boff, none⟩) n bc) ∧ w'.cell? ⟨bg, boff + i, none⟩ = some (.pointer (some ⟨y, 0, none⟩))) := fun w' hb => ⟨(hb.cell (p := ⟨p, 2, none⟩) hpl).trans (by rw [hnn]; exact p2), (hb.cell (p := ⟨bg, boff + i, none⟩) hbg).trans hycell⟩
    rw [← hnn] at hil hbc
    have hi1 : (i : Int) < (n : Int) := by omega
    clear HKID HC0 hak ht hex hex1 h1 h2 h3 hlo hlo2 hkd hi hA hC hfl hu hwo hwu hk ha hs hau hsu hx ok1 ok2 hxl p2 h1s hkid hycell hy hnn
    generalize bstr k = S at *
    unfold ptr
    go_enter Try.func30, Try.ntmps30
    go_wp2_with fail
    refine (HKID2.out W (Below.refl _ W)).mono ?_
    rintro e w0 ⟨rfl, rfl⟩
    go_wp2_with fail
    refine HCH.out.mono ?_
    rintro e w1 ⟨rfl, hb1⟩
    have HB1 := Lib.hid hb1
    obtain ⟨s2, sk2⟩ := SB.out w1 hb1
    clear hb1
    go_wp2_with fail
    refine (HWO.out w1 HB1.out).mono ?_
    rintro e w2 ⟨q, rfl, ht2, hb2⟩
    have HB2 := Lib.hid (HB1.out.trans (hb2.mono HB1.out.size))
    clear hb2
    go_wp2_with fail
    refine (HRE.out w2 _ HB2.out ht2.out).mono ?_
    rintro e w3 ⟨z, rfl, ht3, hb3⟩
    have HB3 := Lib.hid (HB2.out.trans (hb3.mono HB2.out.size))
    clear hb3
    go_wp2
    go_ret
    exact ⟨_, rfl, ht3, HB3.out⟩
end Go.Proofs.Ytlakolcjgnmllaa
