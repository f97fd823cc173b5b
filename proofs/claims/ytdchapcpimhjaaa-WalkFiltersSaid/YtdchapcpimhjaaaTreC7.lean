/- Package tree: replace, above. -/
import Derived.Test.YtdchapcpimhjaaaTreC6
namespace Go.Proofs.Ytdchapcpimhjaaa
open Go.RowKit

theorem Tm.keys_len (h : Nat) : ∀ t : Tm.T, (Tm.keys h t).length = Tm.cnt t
  | .leaf _ => List.length_map _
  | .inner _ => List.length_map _
theorem Tm.hv_wf {h : Nat} {y : Tm.T} (hw : Tm.Wb h y) (hc : Tm.cnt y ≤ 11) (h4 : 4 ≤ Tm.cnt y) : (∀ t ∈ Tm.hv y, Tm.Wf h 4 t) ∧ 1 ≤ (Tm.hv y).length ∧ (Tm.hv y).length ≤ 2 ∧ Tm.flats h (Tm.hv y) = Tm.flat h y := by
  obtain ⟨h1, h2⟩ := Tm.hv_ok h y hw hc
  rcases h2 with ⟨h5, h6⟩ | ⟨h5, a, b, h6, h7, h8⟩
  · rw [h6] at h1 ⊢
    exact ⟨fun t ht => by rw [List.mem_singleton.1 ht]; exact (Tm.wf_iff h 4 y).2 ⟨h4, h5, hw⟩, by simp, by simp, h1⟩
  · rw [h6] at h1 ⊢
    refine ⟨fun t ht => ?_, by simp, by simp, h1⟩
    rcases List.mem_cons.1 ht with rfl | ht
    · exact h7
    · rw [List.mem_singleton.1 ht]; exact h8
theorem Tm.flats_spl (h : Nat) (l e : List Tm.T) (a b : Nat) : (Tm.flats h (Tm.spl l a b e)).length = (Tm.flats h (l.take a)).length + (Tm.flats h e).length + (Tm.flats h (l.drop b)).length := by
  unfold Tm.spl; rw [Tm.flats_app, Tm.flats_app, List.length_append, List.length_append]; omega
theorem Tm.mem_spl {h : Nat} {l e : List Tm.T} {a b : Nat} (hl : ∀ t ∈ l, Tm.Wf h 4 t) (he : ∀ t ∈ e, Tm.Wf h 4 t) : ∀ t ∈ Tm.spl l a b e, Tm.Wf h 4 t := fun t ht => by
  unfold Tm.spl at ht
  rcases List.mem_append.1 ht with ht | ht
  · exact hl t (List.mem_of_mem_take ht)
  rcases List.mem_append.1 ht with ht | ht
  · exact he t ht
  · exact hl t (List.mem_of_mem_drop ht)
theorem Tm.flats_len (h : Nat) (l : List Tm.T) (a : Nat) : (Tm.flats h (l.take a)).length + (Tm.flats h (l.drop a)).length = (Tm.flats h l).length := by
  conv => rhs; rw [← List.take_append_drop a l, Tm.flats_app, List.length_append]
theorem Tm.flats_kid (h : Nat) (l : List Tm.T) {i : Nat} (hi : i < l.length) : (Tm.flats h (l.take i)).length + (Tm.flat h (l.getD i (.leaf []))).length + (Tm.flats h (l.drop (i + 1))).length = (Tm.flats h l).length := by
  rw [Tm.flats_split h l hi, List.length_append, List.length_append]; omega
theorem Tm.flats_drop1 (h : Nat) (l : List Tm.T) (i : Nat) : (Tm.flats h (l.drop (i + 1))).length ≤ (Tm.flats h (l.drop i)).length := by
  rcases Nat.lt_or_ge i l.length with hi | hi
  · rw [List.drop_eq_getElem_cons hi, Tm.flats_cons, List.length_append]; omega
  · rw [List.drop_eq_nil_of_le (by omega)]; simp [Tm.flats]
/-- the children of an inner node, as a row -/
theorem Tn.kids {ex : Nat → Prop} {h p : Nat} {ks : List Tm.T} {W : World} (ht : Tn ex (h + 1) p (.inner ks) W) : ∃ ba bc, W.cell? ⟨p, 2, none⟩ = some (.slice ba ks.length bc) ∧ Hs ex h ks ba ks.length bc W ∧ p < W.heap.size ∧
    ∀ j, j < ks.length → ∃ bg boff q, ba = some ⟨bg, boff, none⟩ ∧ bg < W.heap.size ∧ ks.length ≤ bc ∧ W.cell? ⟨bg, boff + j, none⟩ = some (.pointer (some ⟨q, 0, none⟩)) ∧ Tn ex h q (ks.getD j (.leaf [])) W := by
  obtain ⟨ks', ps, el, hxp, hpl2, ⟨ka, kc, va, vc, ba, bc, hn, hk, hv, hcp⟩, hj⟩ := ht
  injection el with el
  subst el
  refine ⟨ba, bc, by rw [Lib.cell_of_heap hn]; rfl, ⟨rfl, hcp.2.2, ps, hpl2, hv, hj⟩, heap_lt hn, fun j hjl => ?_⟩
  obtain ⟨bg, boff, e, hc, hg, hcell⟩ := hv.at (by omega)
  exact ⟨bg, boff, ps.getD j 0, e, hg, hc, by rw [hcell j hjl, pv_get ps (by omega)]; rfl, hj j hjl⟩
/-- the number of keys of a node, as a row -/
theorem Tn.cnt {ex : Nat → Prop} {h p : Nat} {t : Tm.T} {W : World} (ht : Tn ex h p t W) : ∃ ka kc, W.cell? ⟨p, 0, none⟩ = some (.slice ka (Tm.cnt t) kc) := by
  obtain ⟨ka, kc, va, vn, vc, ba, bn, bc, hn, _⟩ := ht.node
  rw [Tm.keys_len] at hn
  exact ⟨ka, kc, by rw [Lib.cell_of_heap hn]; rfl⟩
set_option maxRecDepth 100000 in
theorem tre_above {ex : Nat → Prop} {h n c : Nat} {a : Option Addr} {ts : List Tm.T} {W : World} (hs : Hs ex h ts a n c W) (hn1 : 1 ≤ n) (hn2 : n ≤ 2) (hw : n = 2 → ∀ t ∈ ts, Tm.Wf h 4 t) (hsz : (Tm.flats h ts).length ≤ 1000000) (hex : ∀ k, W.heap.size ≤ k → ¬ ex k) :
    Calls Try.prog 58 #[.slice a n c] W fun e w' => ∃ z r, e = .returned (.pointer (some ⟨z, 0, none⟩)) ∧ Hid (Tm.abv h ts = some r ∧ Tn ex r.1 z r.2 w') ∧ Below W.heap.size W w' := by
  by_cases h1 : n = 1
  · subst h1
    obtain ⟨hl, hc, ps, hpl, hrv, hT⟩ := hs
    obtain ⟨g, off, rfl, hgc, hg, hcell⟩ := hrv.at (by omega)
    obtain ⟨t, rfl⟩ : ∃ t, ts = [t] := List.length_eq_one_iff.1 hl.symm
    obtain ⟨p, rfl⟩ : ∃ p, ps = [p] := List.length_eq_one_iff.1 hpl
    have hc0 := hcell 0 (by omega)
    rw [pv_get [p] (by simp)] at hc0
    have HT : Hid (Tm.abv h [t] = some (h, t) ∧ Tn ex h p t W) := ⟨rfl, hT 0 (by simp)⟩
    replace hc0 : W.cell? ⟨g, off, none⟩ = some (.pointer (some ⟨p, 0, none⟩)) := hc0
    clear hcell hT hrv hw hsz hex hl hpl hn1 hn2 hc
    go_enter Try.func58, Try.ntmps58
    go_wp2
    go_ret
    exact ⟨_, (h, t), rfl, HT, Below.refl _ _⟩
  · obtain rfl : n = 2 := by omega
    have hl := hs.1
    obtain ⟨t, u, rfl⟩ : ∃ t u, ts = [t, u] := by
      match ts, hl with
      | [t, u], _ => exact ⟨t, u, rfl⟩
    have HI := Lib.hid (tre_innerH hs (by omega) (by omega) (hw rfl) hsz hex)
    clear hs hw hsz hex hl
    go_enter Try.func58, Try.ntmps58
    go_wp2_with fail
    refine HI.out.mono ?_
    rintro e w1 ⟨z, rfl, ht, hb⟩
    have HB := Lib.hid hb
    clear hb
    go_wp2
    go_ret
    exact ⟨_, (h + 1, .inner [t, u]), rfl, ⟨rfl, ht.out⟩, HB.out⟩
end Go.Proofs.Ytdchapcpimhjaaa
