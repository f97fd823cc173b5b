/- Package tree: spliced. -/
import Derived.Test.YtdchapcpimhjaaaTreC2
import Derived.Deep.RegionWith
import Derived.Deep.RegionHeld3
import Derived.BigRegion
namespace Go.Proofs.Ytdchapcpimhjaaa
open Go.RowKit

set_option maxHeartbeats 4000000 in
set_option maxRecDepth 100000 in
theorem tre_splas {ex : Nat → Prop} {g off n : Nat} {ea : Option Addr} {en ec : Nat} {vs es : List Value} {W : World} (fr : Nat) (h : Rv ex (some ⟨g, off, none⟩) n n vs W) (he : Rv ex ea en ec es W) (h1 : ∀ u ∈ vs, u.oneCell' = true) (h2 : ∀ u ∈ es, u.oneCell' = true) (hft : fr ≤ n) (hn : n ≤ 1000) (hen : en ≤ 1000) (_hc : n ≤ 9223372036854775807) :
    Calls Try.prog 69 #[.slice (some ⟨g, off, none⟩) n n, .int .i64 (fr : Int), .int .i64 (n : Int), .slice ea en ec] W fun e w' => ∃ a N, e = .returned (.slice a N N) ∧ Fm a N N ∧ N = (Tm.spl vs fr n es).length ∧ (∀ ex, (∀ k, W.heap.size ≤ k → ¬ ex k) → Rv ex a N N (Tm.spl vs fr n es) w') ∧ Below W.heap.size W w' := by
  have h0f : (0 : Int) ≤ (fr : Int) := by omega
  have h0t : (0 : Int) ≤ (n : Int) := by omega
  have hfc : (fr : Int) ≤ (n : Int) := by omega
  have hti : (n : Int) ≤ (n : Int) := by omega
  have hnci : (n : Int) ≤ (n : Int) := by omega
  obtain ⟨W1, hW1⟩ : ∃ W1, W1 = (W.alloc (.cells #[.slice (some ⟨g, off, none⟩) fr n, .slice ea en ec, .slice (some ⟨g, off, none⟩) (0) (0)] 22)).drew := ⟨_, rfl⟩
  have hb1 : Below W.heap.size W W1 := by rw [hW1]; exact (one_b8 W _).trans ((below_dr8 _).mono (by simp))
  have hq : W1.heap[W.heap.size]? = some (.cells #[.slice (some ⟨g, off, none⟩) fr n, .slice ea en ec, .slice (some ⟨g, off, none⟩) (0) (0)] 22 (0, 0)) := by rw [hW1]; exact heap_alloc_new W _
  have hrc : Rcs ex W.heap.size 0 [(some ⟨g, off, none⟩, fr, n, vs.take fr), (ea, en, ec, es), ((some ⟨g, off, none⟩), 0, 0, vs.drop n)] W1 := by
    refine ⟨heap_lt hq, fun j hj => ?_⟩
    have hl : en = es.length := he.ln
    rcases (show j = 0 ∨ j = 1 ∨ j = 2 by omega) with rfl | rfl | rfl
    · exact ⟨_, rfl, by rw [Lib.cell_of_heap hq]; rfl, (h.take fr (by omega) n (fun hh => by omega)).below hb1, by show fr ≤ 1000; omega, fun u hu => h1 u (List.mem_of_mem_take hu)⟩
    · exact ⟨_, rfl, by rw [Lib.cell_of_heap hq]; rfl, he.below hb1, hen, h2⟩
    · exact ⟨_, rfl, by rw [Lib.cell_of_heap hq]; rfl, by
        have h4 : vs.drop n = [] := List.drop_eq_nil_of_le (by have := h.ln; omega)
        show Rv ex _ 0 0 (vs.drop n) W1
        rw [h4]
        exact Rv.nil _ _ _ _, by show 0 ≤ 1000; omega, fun u hu => h1 u (List.mem_of_mem_drop hu)⟩
  have HCO := Lib.hid (tre_concats (c := 3) rfl (Nat.le_refl _) hrc)
  have HVS : Hid ((([(some ⟨g, off, none⟩, fr, n, vs.take fr), (ea, en, ec, es), ((some ⟨g, off, none⟩), 0, 0, vs.drop n)] : List (Option Addr × Nat × Nat × List Value)).map (fun x => x.2.2.2)).flatten = Tm.spl vs fr n es) := by show _ = _; simp [Tm.spl]
  rw [HVS.out] at HCO
  have HB1 := Lib.hid hb1
  clear h he h1 h2 hb1 hq hrc hen HVS
  go_enter Try.func69, Try.ntmps69
  go_upto_region 1 with (fail)
  have HW1 := Lib.hid hW1
  go_region_with (go_at_call 73; rw [← HW1.out]; refine HCO.out.mono ?_; rintro e w2 ⟨ra, rn, rc, rfl, hown, hb2⟩)
  have HB2 : Hid (Below W.heap.size W w2) := HB1.out.trans (hb2.mono HB1.out.size)
  have hln : rn = (Tm.spl vs fr n es).length := by have := hown.1; omega
  have HLN := Lib.hid hln
  have HRV : Hid (∀ ex, (∀ k, W.heap.size ≤ k → ¬ ex k) → Rv ex ra rn rn (Tm.spl vs fr n es) w2) := fun ex hex => by
    have h := Rv.of_own (ex := ex) hown (fun k hk => hex k (by have := HB1.out.size; omega))
    have h2 := h.take rn (Nat.le_refl _) rn (fun _ => Nat.le_refl _)
    rw [List.take_of_length_le (by have := h.ln; omega)] at h2
    exact h2
  have hcase : (ra = none ∧ rn = 0 ∧ rc = 0) ∨ ∃ g, ra = some ⟨g, 0, none⟩ ∧ rn ≤ rc ∧ (rc : Int) ≤ 9223372036854775807 := by
    obtain ⟨_, h2⟩ := hown
    rcases h2 with ⟨e, _⟩ | ⟨b, cap, cur, e, _, _, hnc, hm, _⟩
    · injection e with e1 e2 e3; exact .inl ⟨e1, e2, e3⟩
    · injection e with e1 e2 e3; exact .inr ⟨b, e1, by omega, by rw [e3]; unfold maxLen at hm; omega⟩
  clear hown hb2 hln HCO HW1 hW1
  rcases hcase with ⟨rfl, rfl, rfl⟩ | ⟨rg, rfl, hrn, hrc⟩
  · go_wp2
    go_ret
    exact ⟨none, 0, rfl, .inl ⟨rfl, rfl, rfl⟩, HLN.out, HRV.out, HB2.out⟩
  · have r0 : (0 : Int) ≤ (rn : Int) := by omega
    have r1 : (rn : Int) ≤ (rc : Int) := by omega
    go_wp2
    go_ret
    exact ⟨_, _, rfl, .inr ⟨_, _, rfl⟩, HLN.out, HRV.out, HB2.out⟩
set_option maxHeartbeats 4000000 in
set_option maxRecDepth 100000 in
theorem tre_splbs {ex : Nat → Prop} {g off n c : Nat} {ea : Option Addr} {en ec : Nat} {vs es : List Value} {W : World} (fr tt : Nat) (h : Rv ex (some ⟨g, off, none⟩) n c vs W) (he : Rv ex ea en ec es W) (h1 : ∀ u ∈ vs, u.oneCell' = true) (h2 : ∀ u ∈ es, u.oneCell' = true) (hft : fr ≤ tt) (htn : tt ≤ n) (hnc : n ≤ c) (hn : n ≤ 1000) (hen : en ≤ 1000) (_hc : c ≤ 9223372036854775807) (hct : ¬ c = tt) :
    Calls Try.prog 69 #[.slice (some ⟨g, off, none⟩) n c, .int .i64 (fr : Int), .int .i64 (tt : Int), .slice ea en ec] W fun e w' => ∃ a N, e = .returned (.slice a N N) ∧ Fm a N N ∧ N = (Tm.spl vs fr tt es).length ∧ (∀ ex, (∀ k, W.heap.size ≤ k → ¬ ex k) → Rv ex a N N (Tm.spl vs fr tt es) w') ∧ Below W.heap.size W w' := by
  have h0f : (0 : Int) ≤ (fr : Int) := by omega
  have h0t : (0 : Int) ≤ (tt : Int) := by omega
  have hfc : (fr : Int) ≤ (c : Int) := by omega
  have hti : (tt : Int) ≤ (n : Int) := by omega
  have hnci : (n : Int) ≤ (c : Int) := by omega
  obtain ⟨W1, hW1⟩ : ∃ W1, W1 = (W.alloc (.cells #[.slice (some ⟨g, off, none⟩) fr c, .slice ea en ec, .slice (some ⟨g, off + tt, none⟩) (n - tt) (c - tt)] 22)).drew := ⟨_, rfl⟩
  have hb1 : Below W.heap.size W W1 := by rw [hW1]; exact (one_b8 W _).trans ((below_dr8 _).mono (by simp))
  have hq : W1.heap[W.heap.size]? = some (.cells #[.slice (some ⟨g, off, none⟩) fr c, .slice ea en ec, .slice (some ⟨g, off + tt, none⟩) (n - tt) (c - tt)] 22 (0, 0)) := by rw [hW1]; exact heap_alloc_new W _
  have hrc : Rcs ex W.heap.size 0 [(some ⟨g, off, none⟩, fr, c, vs.take fr), (ea, en, ec, es), ((some ⟨g, off + tt, none⟩), n - tt, c - tt, vs.drop tt)] W1 := by
    refine ⟨heap_lt hq, fun j hj => ?_⟩
    have hl : en = es.length := he.ln
    rcases (show j = 0 ∨ j = 1 ∨ j = 2 by omega) with rfl | rfl | rfl
    · exact ⟨_, rfl, by rw [Lib.cell_of_heap hq]; rfl, (h.take fr (by omega) c (fun hh => by omega)).below hb1, by show fr ≤ 1000; omega, fun u hu => h1 u (List.mem_of_mem_take hu)⟩
    · exact ⟨_, rfl, by rw [Lib.cell_of_heap hq]; rfl, he.below hb1, hen, h2⟩
    · exact ⟨_, rfl, by rw [Lib.cell_of_heap hq]; rfl, (h.drop tt htn).below hb1, by show n - tt ≤ 1000; omega, fun u hu => h1 u (List.mem_of_mem_drop hu)⟩
  have HCO := Lib.hid (tre_concats (c := 3) rfl (Nat.le_refl _) hrc)
  have HVS : Hid ((([(some ⟨g, off, none⟩, fr, c, vs.take fr), (ea, en, ec, es), ((some ⟨g, off + tt, none⟩), n - tt, c - tt, vs.drop tt)] : List (Option Addr × Nat × Nat × List Value)).map (fun x => x.2.2.2)).flatten = Tm.spl vs fr tt es) := by show _ = _; simp [Tm.spl]
  rw [HVS.out] at HCO
  have HB1 := Lib.hid hb1
  clear h he h1 h2 hb1 hq hrc hen HVS
  go_enter Try.func69, Try.ntmps69
  go_upto_region 1 with (fail)
  have HW1 := Lib.hid hW1
  go_region_with (go_at_call 73; rw [← HW1.out]; refine HCO.out.mono ?_; rintro e w2 ⟨ra, rn, rc, rfl, hown, hb2⟩)
  have HB2 : Hid (Below W.heap.size W w2) := HB1.out.trans (hb2.mono HB1.out.size)
  have hln : rn = (Tm.spl vs fr tt es).length := by have := hown.1; omega
  have HLN := Lib.hid hln
  have HRV : Hid (∀ ex, (∀ k, W.heap.size ≤ k → ¬ ex k) → Rv ex ra rn rn (Tm.spl vs fr tt es) w2) := fun ex hex => by
    have h := Rv.of_own (ex := ex) hown (fun k hk => hex k (by have := HB1.out.size; omega))
    have h2 := h.take rn (Nat.le_refl _) rn (fun _ => Nat.le_refl _)
    rw [List.take_of_length_le (by have := h.ln; omega)] at h2
    exact h2
  have hcase : (ra = none ∧ rn = 0 ∧ rc = 0) ∨ ∃ g, ra = some ⟨g, 0, none⟩ ∧ rn ≤ rc ∧ (rc : Int) ≤ 9223372036854775807 := by
    obtain ⟨_, h2⟩ := hown
    rcases h2 with ⟨e, _⟩ | ⟨b, cap, cur, e, _, _, hnc, hm, _⟩
    · injection e with e1 e2 e3; exact .inl ⟨e1, e2, e3⟩
    · injection e with e1 e2 e3; exact .inr ⟨b, e1, by omega, by rw [e3]; unfold maxLen at hm; omega⟩
  clear hown hb2 hln HCO HW1 hW1
  rcases hcase with ⟨rfl, rfl, rfl⟩ | ⟨rg, rfl, hrn, hrc⟩
  · go_wp2
    go_ret
    exact ⟨none, 0, rfl, .inl ⟨rfl, rfl, rfl⟩, HLN.out, HRV.out, HB2.out⟩
  · have r0 : (0 : Int) ≤ (rn : Int) := by omega
    have r1 : (rn : Int) ≤ (rc : Int) := by omega
    go_wp2
    go_ret
    exact ⟨_, _, rfl, .inr ⟨_, _, rfl⟩, HLN.out, HRV.out, HB2.out⟩
set_option maxHeartbeats 4000000 in
set_option maxRecDepth 100000 in
theorem tre_splNs {ex : Nat → Prop} {ea : Option Addr} {en ec : Nat} {es : List Value} {W : World} (he : Rv ex ea en ec es W) (h2 : ∀ u ∈ es, u.oneCell' = true) (hen : en ≤ 1000) :
    Calls Try.prog 69 #[.slice none 0 0, .int .i64 0, .int .i64 0, .slice ea en ec] W fun e w' => ∃ a N, e = .returned (.slice a N N) ∧ Fm a N N ∧ N = (Tm.spl [] 0 0 es).length ∧ (∀ ex, (∀ k, W.heap.size ≤ k → ¬ ex k) → Rv ex a N N (Tm.spl [] 0 0 es) w') ∧ Below W.heap.size W w' := by
  obtain ⟨W1, hW1⟩ : ∃ W1, W1 = (W.alloc (.cells #[.slice none 0 0, .slice ea en ec, .slice none 0 0] 22)).drew := ⟨_, rfl⟩
  have hb1 : Below W.heap.size W W1 := by rw [hW1]; exact (one_b8 W _).trans ((below_dr8 _).mono (by simp))
  have hq : W1.heap[W.heap.size]? = some (.cells #[.slice none 0 0, .slice ea en ec, .slice none 0 0] 22 (0, 0)) := by rw [hW1]; exact heap_alloc_new W _
  have hrc : Rcs ex W.heap.size 0 [(none, 0, 0, ([] : List Value)), (ea, en, ec, es), (none, 0, 0, ([] : List Value))] W1 := by
    refine ⟨heap_lt hq, fun j hj => ?_⟩
    have hl : en = es.length := he.ln
    rcases (show j = 0 ∨ j = 1 ∨ j = 2 by omega) with rfl | rfl | rfl
    · exact ⟨_, rfl, by rw [Lib.cell_of_heap hq]; rfl, by simpa using Rv.nil ex none 0 W1, by show 0 ≤ 1000; omega, fun u hu => by cases hu⟩
    · exact ⟨_, rfl, by rw [Lib.cell_of_heap hq]; rfl, he.below hb1, hen, h2⟩
    · exact ⟨_, rfl, by rw [Lib.cell_of_heap hq]; rfl, by simpa using Rv.nil ex none 0 W1, by show 0 ≤ 1000; omega, fun u hu => by cases hu⟩
  have HCO := Lib.hid (tre_concats (c := 3) rfl (Nat.le_refl _) hrc)
  have HVS : Hid ((([(none, 0, 0, ([] : List Value)), (ea, en, ec, es), (none, 0, 0, ([] : List Value))] : List (Option Addr × Nat × Nat × List Value)).map (fun x => x.2.2.2)).flatten = Tm.spl [] 0 0 es) := by show _ = _; simp [Tm.spl]
  rw [HVS.out] at HCO
  have HB1 := Lib.hid hb1
  clear he h2 hb1 hq hrc hen HVS
  go_enter Try.func69, Try.ntmps69
  go_upto_region 1 with (fail)
  have HW1 := Lib.hid hW1
  go_region_with (go_at_call 73; rw [← HW1.out]; refine HCO.out.mono ?_; rintro e w2 ⟨ra, rn, rc, rfl, hown, hb2⟩)
  have HB2 : Hid (Below W.heap.size W w2) := HB1.out.trans (hb2.mono HB1.out.size)
  have hln : rn = (Tm.spl [] 0 0 es).length := by have := hown.1; omega
  have HLN := Lib.hid hln
  have HRV : Hid (∀ ex, (∀ k, W.heap.size ≤ k → ¬ ex k) → Rv ex ra rn rn (Tm.spl [] 0 0 es) w2) := fun ex hex => by
    have h := Rv.of_own (ex := ex) hown (fun k hk => hex k (by have := HB1.out.size; omega))
    have h2 := h.take rn (Nat.le_refl _) rn (fun _ => Nat.le_refl _)
    rw [List.take_of_length_le (by have := h.ln; omega)] at h2
    exact h2
  have hcase : (ra = none ∧ rn = 0 ∧ rc = 0) ∨ ∃ g, ra = some ⟨g, 0, none⟩ ∧ rn ≤ rc ∧ (rc : Int) ≤ 9223372036854775807 := by
    obtain ⟨_, h2⟩ := hown
    rcases h2 with ⟨e, _⟩ | ⟨b, cap, cur, e, _, _, hnc, hm, _⟩
    · injection e with e1 e2 e3; exact .inl ⟨e1, e2, e3⟩
    · injection e with e1 e2 e3; exact .inr ⟨b, e1, by omega, by rw [e3]; unfold maxLen at hm; omega⟩
  clear hown hb2 hln HCO HW1 hW1
  rcases hcase with ⟨rfl, rfl, rfl⟩ | ⟨rg, rfl, hrn, hrc⟩
  · go_wp2
    go_ret
    exact ⟨none, 0, rfl, .inl ⟨rfl, rfl, rfl⟩, HLN.out, HRV.out, HB2.out⟩
  · have r0 : (0 : Int) ≤ (rn : Int) := by omega
    have r1 : (rn : Int) ≤ (rc : Int) := by omega
    go_wp2
    go_ret
    exact ⟨_, _, rfl, .inr ⟨_, _, rfl⟩, HLN.out, HRV.out, HB2.out⟩
theorem tre_spls {ex : Nat → Prop} {a : Option Addr} {n c : Nat} {ea : Option Addr} {en ec : Nat} {vs es : List Value} {W : World} (fr tt : Nat) (h : Rv ex a n c vs W) (hf : (a = none ∧ n = 0 ∧ c = 0) ∨ ∃ g off, a = some ⟨g, off, none⟩) (he : Rv ex ea en ec es W) (h1 : ∀ u ∈ vs, u.oneCell' = true) (h2 : ∀ u ∈ es, u.oneCell' = true) (hft : fr ≤ tt) (htn : tt ≤ n) (hnc : n ≤ c) (hn : n ≤ 1000) (hen : en ≤ 1000) (hc : c ≤ 9223372036854775807) :
    Calls Try.prog 69 #[.slice a n c, .int .i64 (fr : Int), .int .i64 (tt : Int), .slice ea en ec] W fun e w' => ∃ a N, e = .returned (.slice a N N) ∧ Fm a N N ∧ N = (Tm.spl vs fr tt es).length ∧ (∀ ex, (∀ k, W.heap.size ≤ k → ¬ ex k) → Rv ex a N N (Tm.spl vs fr tt es) w') ∧ Below W.heap.size W w' := by
  rcases hf with ⟨rfl, rfl, rfl⟩ | ⟨g, off, rfl⟩
  · obtain rfl : tt = 0 := by omega
    obtain rfl : fr = 0 := by omega
    obtain rfl : vs = [] := List.eq_nil_of_length_eq_zero h.ln.symm
    exact tre_splNs he h2 hen
  · by_cases hct : c = tt
    · obtain rfl : n = tt := by omega
      subst hct
      exact tre_splas fr h he h1 h2 hft hn hen hc
    · exact tre_splbs fr tt h he h1 h2 hft htn hnc hn hen hc hct
set_option maxHeartbeats 4000000 in
set_option maxRecDepth 100000 in
theorem tre_splai {ex : Nat → Prop} {g off n : Nat} {ea : Option Addr} {en ec : Nat} {vs es : List Value} {W : World} (fr : Nat) (h : Rv ex (some ⟨g, off, none⟩) n n vs W) (he : Rv ex ea en ec es W) (h1 : ∀ u ∈ vs, u.oneCell' = true) (h2 : ∀ u ∈ es, u.oneCell' = true) (hft : fr ≤ n) (hn : n ≤ 1000) (hen : en ≤ 1000) (_hc : n ≤ 9223372036854775807) :
    Calls Try.prog 70 #[.slice (some ⟨g, off, none⟩) n n, .int .i64 (fr : Int), .int .i64 (n : Int), .slice ea en ec] W fun e w' => ∃ a N, e = .returned (.slice a N N) ∧ Fm a N N ∧ N = (Tm.spl vs fr n es).length ∧ (∀ ex, (∀ k, W.heap.size ≤ k → ¬ ex k) → Rv ex a N N (Tm.spl vs fr n es) w') ∧ Below W.heap.size W w' := by
  have h0f : (0 : Int) ≤ (fr : Int) := by omega
  have h0t : (0 : Int) ≤ (n : Int) := by omega
  have hfc : (fr : Int) ≤ (n : Int) := by omega
  have hti : (n : Int) ≤ (n : Int) := by omega
  have hnci : (n : Int) ≤ (n : Int) := by omega
  obtain ⟨W1, hW1⟩ : ∃ W1, W1 = (W.alloc (.cells #[.slice (some ⟨g, off, none⟩) fr n, .slice ea en ec, .slice (some ⟨g, off, none⟩) (0) (0)] 45)).drew := ⟨_, rfl⟩
  have hb1 : Below W.heap.size W W1 := by rw [hW1]; exact (one_b8 W _).trans ((below_dr8 _).mono (by simp))
  have hq : W1.heap[W.heap.size]? = some (.cells #[.slice (some ⟨g, off, none⟩) fr n, .slice ea en ec, .slice (some ⟨g, off, none⟩) (0) (0)] 45 (0, 0)) := by rw [hW1]; exact heap_alloc_new W _
  have hrc : Rci ex W.heap.size 0 [(some ⟨g, off, none⟩, fr, n, vs.take fr), (ea, en, ec, es), ((some ⟨g, off, none⟩), 0, 0, vs.drop n)] W1 := by
    refine ⟨heap_lt hq, fun j hj => ?_⟩
    have hl : en = es.length := he.ln
    rcases (show j = 0 ∨ j = 1 ∨ j = 2 by omega) with rfl | rfl | rfl
    · exact ⟨_, rfl, by rw [Lib.cell_of_heap hq]; rfl, (h.take fr (by omega) n (fun hh => by omega)).below hb1, by show fr ≤ 1000; omega, fun u hu => h1 u (List.mem_of_mem_take hu)⟩
    · exact ⟨_, rfl, by rw [Lib.cell_of_heap hq]; rfl, he.below hb1, hen, h2⟩
    · exact ⟨_, rfl, by rw [Lib.cell_of_heap hq]; rfl, by
        have h4 : vs.drop n = [] := List.drop_eq_nil_of_le (by have := h.ln; omega)
        show Rv ex _ 0 0 (vs.drop n) W1
        rw [h4]
        exact Rv.nil _ _ _ _, by show 0 ≤ 1000; omega, fun u hu => h1 u (List.mem_of_mem_drop hu)⟩
  have HCO := Lib.hid (tre_concati (c := 3) rfl (Nat.le_refl _) hrc)
  have HVS : Hid ((([(some ⟨g, off, none⟩, fr, n, vs.take fr), (ea, en, ec, es), ((some ⟨g, off, none⟩), 0, 0, vs.drop n)] : List (Option Addr × Nat × Nat × List Value)).map (fun x => x.2.2.2)).flatten = Tm.spl vs fr n es) := by show _ = _; simp [Tm.spl]
  rw [HVS.out] at HCO
  have HB1 := Lib.hid hb1
  clear h he h1 h2 hb1 hq hrc hen HVS
  go_enter Try.func70, Try.ntmps70
  go_upto_region 1 with (fail)
  have HW1 := Lib.hid hW1
  go_region_with (go_at_call 74; rw [← HW1.out]; refine HCO.out.mono ?_; rintro e w2 ⟨ra, rn, rc, rfl, hown, hb2⟩)
  have HB2 : Hid (Below W.heap.size W w2) := HB1.out.trans (hb2.mono HB1.out.size)
  have hln : rn = (Tm.spl vs fr n es).length := by have := hown.1; omega
  have HLN := Lib.hid hln
  have HRV : Hid (∀ ex, (∀ k, W.heap.size ≤ k → ¬ ex k) → Rv ex ra rn rn (Tm.spl vs fr n es) w2) := fun ex hex => by
    have h := Rv.of_own (ex := ex) hown (fun k hk => hex k (by have := HB1.out.size; omega))
    have h2 := h.take rn (Nat.le_refl _) rn (fun _ => Nat.le_refl _)
    rw [List.take_of_length_le (by have := h.ln; omega)] at h2
    exact h2
  have hcase : (ra = none ∧ rn = 0 ∧ rc = 0) ∨ ∃ g, ra = some ⟨g, 0, none⟩ ∧ rn ≤ rc ∧ (rc : Int) ≤ 9223372036854775807 := by
    obtain ⟨_, h2⟩ := hown
    rcases h2 with ⟨e, _⟩ | ⟨b, cap, cur, e, _, _, hnc, hm, _⟩
    · injection e with e1 e2 e3; exact .inl ⟨e1, e2, e3⟩
    · injection e with e1 e2 e3; exact .inr ⟨b, e1, by omega, by rw [e3]; unfold maxLen at hm; omega⟩
  clear hown hb2 hln HCO HW1 hW1
  rcases hcase with ⟨rfl, rfl, rfl⟩ | ⟨rg, rfl, hrn, hrc⟩
  · go_wp2
    go_ret
    exact ⟨none, 0, rfl, .inl ⟨rfl, rfl, rfl⟩, HLN.out, HRV.out, HB2.out⟩
  · have r0 : (0 : Int) ≤ (rn : Int) := by omega
    have r1 : (rn : Int) ≤ (rc : Int) := by omega
    go_wp2
    go_ret
    exact ⟨_, _, rfl, .inr ⟨_, _, rfl⟩, HLN.out, HRV.out, HB2.out⟩
set_option maxHeartbeats 4000000 in
set_option maxRecDepth 100000 in
theorem tre_splbi {ex : Nat → Prop} {g off n c : Nat} {ea : Option Addr} {en ec : Nat} {vs es : List Value} {W : World} (fr tt : Nat) (h : Rv ex (some ⟨g, off, none⟩) n c vs W) (he : Rv ex ea en ec es W) (h1 : ∀ u ∈ vs, u.oneCell' = true) (h2 : ∀ u ∈ es, u.oneCell' = true) (hft : fr ≤ tt) (htn : tt ≤ n) (hnc : n ≤ c) (hn : n ≤ 1000) (hen : en ≤ 1000) (_hc : c ≤ 9223372036854775807) (hct : ¬ c = tt) :
    Calls Try.prog 70 #[.slice (some ⟨g, off, none⟩) n c, .int .i64 (fr : Int), .int .i64 (tt : Int), .slice ea en ec] W fun e w' => ∃ a N, e = .returned (.slice a N N) ∧ Fm a N N ∧ N = (Tm.spl vs fr tt es).length ∧ (∀ ex, (∀ k, W.heap.size ≤ k → ¬ ex k) → Rv ex a N N (Tm.spl vs fr tt es) w') ∧ Below W.heap.size W w' := by
  have h0f : (0 : Int) ≤ (fr : Int) := by omega
  have h0t : (0 : Int) ≤ (tt : Int) := by omega
  have hfc : (fr : Int) ≤ (c : Int) := by omega
  have hti : (tt : Int) ≤ (n : Int) := by omega
  have hnci : (n : Int) ≤ (c : Int) := by omega
  obtain ⟨W1, hW1⟩ : ∃ W1, W1 = (W.alloc (.cells #[.slice (some ⟨g, off, none⟩) fr c, .slice ea en ec, .slice (some ⟨g, off + tt, none⟩) (n - tt) (c - tt)] 45)).drew := ⟨_, rfl⟩
  have hb1 : Below W.heap.size W W1 := by rw [hW1]; exact (one_b8 W _).trans ((below_dr8 _).mono (by simp))
  have hq : W1.heap[W.heap.size]? = some (.cells #[.slice (some ⟨g, off, none⟩) fr c, .slice ea en ec, .slice (some ⟨g, off + tt, none⟩) (n - tt) (c - tt)] 45 (0, 0)) := by rw [hW1]; exact heap_alloc_new W _
  have hrc : Rci ex W.heap.size 0 [(some ⟨g, off, none⟩, fr, c, vs.take fr), (ea, en, ec, es), ((some ⟨g, off + tt, none⟩), n - tt, c - tt, vs.drop tt)] W1 := by
    refine ⟨heap_lt hq, fun j hj => ?_⟩
    have hl : en = es.length := he.ln
    rcases (show j = 0 ∨ j = 1 ∨ j = 2 by omega) with rfl | rfl | rfl
    · exact ⟨_, rfl, by rw [Lib.cell_of_heap hq]; rfl, (h.take fr (by omega) c (fun hh => by omega)).below hb1, by show fr ≤ 1000; omega, fun u hu => h1 u (List.mem_of_mem_take hu)⟩
    · exact ⟨_, rfl, by rw [Lib.cell_of_heap hq]; rfl, he.below hb1, hen, h2⟩
    · exact ⟨_, rfl, by rw [Lib.cell_of_heap hq]; rfl, (h.drop tt htn).below hb1, by show n - tt ≤ 1000; omega, fun u hu => h1 u (List.mem_of_mem_drop hu)⟩
  have HCO := Lib.hid (tre_concati (c := 3) rfl (Nat.le_refl _) hrc)
  have HVS : Hid ((([(some ⟨g, off, none⟩, fr, c, vs.take fr), (ea, en, ec, es), ((some ⟨g, off + tt, none⟩), n - tt, c - tt, vs.drop tt)] : List (Option Addr × Nat × Nat × List Value)).map (fun x => x.2.2.2)).flatten = Tm.spl vs fr tt es) := by show _ = _; simp [Tm.spl]
  rw [HVS.out] at HCO
  have HB1 := Lib.hid hb1
  clear h he h1 h2 hb1 hq hrc hen HVS
  go_enter Try.func70, Try.ntmps70
  go_upto_region 1 with (fail)
  have HW1 := Lib.hid hW1
  go_region_with (go_at_call 74; rw [← HW1.out]; refine HCO.out.mono ?_; rintro e w2 ⟨ra, rn, rc, rfl, hown, hb2⟩)
  have HB2 : Hid (Below W.heap.size W w2) := HB1.out.trans (hb2.mono HB1.out.size)
  have hln : rn = (Tm.spl vs fr tt es).length := by have := hown.1; omega
  have HLN := Lib.hid hln
  have HRV : Hid (∀ ex, (∀ k, W.heap.size ≤ k → ¬ ex k) → Rv ex ra rn rn (Tm.spl vs fr tt es) w2) := fun ex hex => by
    have h := Rv.of_own (ex := ex) hown (fun k hk => hex k (by have := HB1.out.size; omega))
    have h2 := h.take rn (Nat.le_refl _) rn (fun _ => Nat.le_refl _)
    rw [List.take_of_length_le (by have := h.ln; omega)] at h2
    exact h2
  have hcase : (ra = none ∧ rn = 0 ∧ rc = 0) ∨ ∃ g, ra = some ⟨g, 0, none⟩ ∧ rn ≤ rc ∧ (rc : Int) ≤ 9223372036854775807 := by
    obtain ⟨_, h2⟩ := hown
    rcases h2 with ⟨e, _⟩ | ⟨b, cap, cur, e, _, _, hnc, hm, _⟩
    · injection e with e1 e2 e3; exact .inl ⟨e1, e2, e3⟩
    · injection e with e1 e2 e3; exact .inr ⟨b, e1, by omega, by rw [e3]; unfold maxLen at hm; omega⟩
  clear hown hb2 hln HCO HW1 hW1
  rcases hcase with ⟨rfl, rfl, rfl⟩ | ⟨rg, rfl, hrn, hrc⟩
  · go_wp2
    go_ret
    exact ⟨none, 0, rfl, .inl ⟨rfl, rfl, rfl⟩, HLN.out, HRV.out, HB2.out⟩
  · have r0 : (0 : Int) ≤ (rn : Int) := by omega
    have r1 : (rn : Int) ≤ (rc : Int) := by omega
    go_wp2
    go_ret
    exact ⟨_, _, rfl, .inr ⟨_, _, rfl⟩, HLN.out, HRV.out, HB2.out⟩
set_option maxHeartbeats 4000000 in
set_option maxRecDepth 100000 in
theorem tre_splNi {ex : Nat → Prop} {ea : Option Addr} {en ec : Nat} {es : List Value} {W : World} (he : Rv ex ea en ec es W) (h2 : ∀ u ∈ es, u.oneCell' = true) (hen : en ≤ 1000) :
    Calls Try.prog 70 #[.slice none 0 0, .int .i64 0, .int .i64 0, .slice ea en ec] W fun e w' => ∃ a N, e = .returned (.slice a N N) ∧ Fm a N N ∧ N = (Tm.spl [] 0 0 es).length ∧ (∀ ex, (∀ k, W.heap.size ≤ k → ¬ ex k) → Rv ex a N N (Tm.spl [] 0 0 es) w') ∧ Below W.heap.size W w' := by
  obtain ⟨W1, hW1⟩ : ∃ W1, W1 = (W.alloc (.cells #[.slice none 0 0, .slice ea en ec, .slice none 0 0] 45)).drew := ⟨_, rfl⟩
  have hb1 : Below W.heap.size W W1 := by rw [hW1]; exact (one_b8 W _).trans ((below_dr8 _).mono (by simp))
  have hq : W1.heap[W.heap.size]? = some (.cells #[.slice none 0 0, .slice ea en ec, .slice none 0 0] 45 (0, 0)) := by rw [hW1]; exact heap_alloc_new W _
  have hrc : Rci ex W.heap.size 0 [(none, 0, 0, ([] : List Value)), (ea, en, ec, es), (none, 0, 0, ([] : List Value))] W1 := by
    refine ⟨heap_lt hq, fun j hj => ?_⟩
    have hl : en = es.length := he.ln
    rcases (show j = 0 ∨ j = 1 ∨ j = 2 by omega) with rfl | rfl | rfl
    · exact ⟨_, rfl, by rw [Lib.cell_of_heap hq]; rfl, by simpa using Rv.nil ex none 0 W1, by show 0 ≤ 1000; omega, fun u hu => by cases hu⟩
    · exact ⟨_, rfl, by rw [Lib.cell_of_heap hq]; rfl, he.below hb1, hen, h2⟩
    · exact ⟨_, rfl, by rw [Lib.cell_of_heap hq]; rfl, by simpa using Rv.nil ex none 0 W1, by show 0 ≤ 1000; omega, fun u hu => by cases hu⟩
  have HCO := Lib.hid (tre_concati (c := 3) rfl (Nat.le_refl _) hrc)
  have HVS : Hid ((([(none, 0, 0, ([] : List Value)), (ea, en, ec, es), (none, 0, 0, ([] : List Value))] : List (Option Addr × Nat × Nat × List Value)).map (fun x => x.2.2.2)).flatten = Tm.spl [] 0 0 es) := by show _ = _; simp [Tm.spl]
  rw [HVS.out] at HCO
  have HB1 := Lib.hid hb1
  clear he h2 hb1 hq hrc hen HVS
  go_enter Try.func70, Try.ntmps70
  go_upto_region 1 with (fail)
  have HW1 := Lib.hid hW1
  go_region_with (go_at_call 74; rw [← HW1.out]; refine HCO.out.mono ?_; rintro e w2 ⟨ra, rn, rc, rfl, hown, hb2⟩)
  have HB2 : Hid (Below W.heap.size W w2) := HB1.out.trans (hb2.mono HB1.out.size)
  have hln : rn = (Tm.spl [] 0 0 es).length := by have := hown.1; omega
  have HLN := Lib.hid hln
  have HRV : Hid (∀ ex, (∀ k, W.heap.size ≤ k → ¬ ex k) → Rv ex ra rn rn (Tm.spl [] 0 0 es) w2) := fun ex hex => by
    have h := Rv.of_own (ex := ex) hown (fun k hk => hex k (by have := HB1.out.size; omega))
    have h2 := h.take rn (Nat.le_refl _) rn (fun _ => Nat.le_refl _)
    rw [List.take_of_length_le (by have := h.ln; omega)] at h2
    exact h2
  have hcase : (ra = none ∧ rn = 0 ∧ rc = 0) ∨ ∃ g, ra = some ⟨g, 0, none⟩ ∧ rn ≤ rc ∧ (rc : Int) ≤ 9223372036854775807 := by
    obtain ⟨_, h2⟩ := hown
    rcases h2 with ⟨e, _⟩ | ⟨b, cap, cur, e, _, _, hnc, hm, _⟩
    · injection e with e1 e2 e3; exact .inl ⟨e1, e2, e3⟩
    · injection e with e1 e2 e3; exact .inr ⟨b, e1, by omega, by rw [e3]; unfold maxLen at hm; omega⟩
  clear hown hb2 hln HCO HW1 hW1
  rcases hcase with ⟨rfl, rfl, rfl⟩ | ⟨rg, rfl, hrn, hrc⟩
  · go_wp2
    go_ret
    exact ⟨none, 0, rfl, .inl ⟨rfl, rfl, rfl⟩, HLN.out, HRV.out, HB2.out⟩
  · have r0 : (0 : Int) ≤ (rn : Int) := by omega
    have r1 : (rn : Int) ≤ (rc : Int) := by omega
    go_wp2
    go_ret
    exact ⟨_, _, rfl, .inr ⟨_, _, rfl⟩, HLN.out, HRV.out, HB2.out⟩
theorem tre_spli {ex : Nat → Prop} {a : Option Addr} {n c : Nat} {ea : Option Addr} {en ec : Nat} {vs es : List Value} {W : World} (fr tt : Nat) (h : Rv ex a n c vs W) (hf : (a = none ∧ n = 0 ∧ c = 0) ∨ ∃ g off, a = some ⟨g, off, none⟩) (he : Rv ex ea en ec es W) (h1 : ∀ u ∈ vs, u.oneCell' = true) (h2 : ∀ u ∈ es, u.oneCell' = true) (hft : fr ≤ tt) (htn : tt ≤ n) (hnc : n ≤ c) (hn : n ≤ 1000) (hen : en ≤ 1000) (hc : c ≤ 9223372036854775807) :
    Calls Try.prog 70 #[.slice a n c, .int .i64 (fr : Int), .int .i64 (tt : Int), .slice ea en ec] W fun e w' => ∃ a N, e = .returned (.slice a N N) ∧ Fm a N N ∧ N = (Tm.spl vs fr tt es).length ∧ (∀ ex, (∀ k, W.heap.size ≤ k → ¬ ex k) → Rv ex a N N (Tm.spl vs fr tt es) w') ∧ Below W.heap.size W w' := by
  rcases hf with ⟨rfl, rfl, rfl⟩ | ⟨g, off, rfl⟩
  · obtain rfl : tt = 0 := by omega
    obtain rfl : fr = 0 := by omega
    obtain rfl : vs = [] := List.eq_nil_of_length_eq_zero h.ln.symm
    exact tre_splNi he h2 hen
  · by_cases hct : c = tt
    · obtain rfl : n = tt := by omega
      subst hct
      exact tre_splai fr h he h1 h2 hft hn hen hc
    · exact tre_splbi fr tt h he h1 h2 hft htn hnc hn hen hc hct
set_option maxHeartbeats 4000000 in
set_option maxRecDepth 100000 in
theorem tre_splap {ex : Nat → Prop} {g off n : Nat} {ea : Option Addr} {en ec : Nat} {vs es : List Value} {W : World} (fr : Nat) (h : Rv ex (some ⟨g, off, none⟩) n n vs W) (he : Rv ex ea en ec es W) (h1 : ∀ u ∈ vs, u.oneCell' = true) (h2 : ∀ u ∈ es, u.oneCell' = true) (hft : fr ≤ n) (hn : n ≤ 1000) (hen : en ≤ 1000) (_hc : n ≤ 9223372036854775807) :
    Calls Try.prog 66 #[.slice (some ⟨g, off, none⟩) n n, .int .i64 (fr : Int), .int .i64 (n : Int), .slice ea en ec] W fun e w' => ∃ a N, e = .returned (.slice a N N) ∧ Fm a N N ∧ N = (Tm.spl vs fr n es).length ∧ (∀ ex, (∀ k, W.heap.size ≤ k → ¬ ex k) → Rv ex a N N (Tm.spl vs fr n es) w') ∧ Below W.heap.size W w' := by
  have h0f : (0 : Int) ≤ (fr : Int) := by omega
  have h0t : (0 : Int) ≤ (n : Int) := by omega
  have hfc : (fr : Int) ≤ (n : Int) := by omega
  have hti : (n : Int) ≤ (n : Int) := by omega
  have hnci : (n : Int) ≤ (n : Int) := by omega
  obtain ⟨W1, hW1⟩ : ∃ W1, W1 = (W.alloc (.cells #[.slice (some ⟨g, off, none⟩) fr n, .slice ea en ec, .slice (some ⟨g, off, none⟩) (0) (0)] 87)).drew := ⟨_, rfl⟩
  have hb1 : Below W.heap.size W W1 := by rw [hW1]; exact (one_b8 W _).trans ((below_dr8 _).mono (by simp))
  have hq : W1.heap[W.heap.size]? = some (.cells #[.slice (some ⟨g, off, none⟩) fr n, .slice ea en ec, .slice (some ⟨g, off, none⟩) (0) (0)] 87 (0, 0)) := by rw [hW1]; exact heap_alloc_new W _
  have hrc : Rcp ex W.heap.size 0 [(some ⟨g, off, none⟩, fr, n, vs.take fr), (ea, en, ec, es), ((some ⟨g, off, none⟩), 0, 0, vs.drop n)] W1 := by
    refine ⟨heap_lt hq, fun j hj => ?_⟩
    have hl : en = es.length := he.ln
    rcases (show j = 0 ∨ j = 1 ∨ j = 2 by omega) with rfl | rfl | rfl
    · exact ⟨_, rfl, by rw [Lib.cell_of_heap hq]; rfl, (h.take fr (by omega) n (fun hh => by omega)).below hb1, by show fr ≤ 1000; omega, fun u hu => h1 u (List.mem_of_mem_take hu)⟩
    · exact ⟨_, rfl, by rw [Lib.cell_of_heap hq]; rfl, he.below hb1, hen, h2⟩
    · exact ⟨_, rfl, by rw [Lib.cell_of_heap hq]; rfl, by
        have h4 : vs.drop n = [] := List.drop_eq_nil_of_le (by have := h.ln; omega)
        show Rv ex _ 0 0 (vs.drop n) W1
        rw [h4]
        exact Rv.nil _ _ _ _, by show 0 ≤ 1000; omega, fun u hu => h1 u (List.mem_of_mem_drop hu)⟩
  have HCO := Lib.hid (tre_concatp (c := 3) rfl (Nat.le_refl _) hrc)
  have HVS : Hid ((([(some ⟨g, off, none⟩, fr, n, vs.take fr), (ea, en, ec, es), ((some ⟨g, off, none⟩), 0, 0, vs.drop n)] : List (Option Addr × Nat × Nat × List Value)).map (fun x => x.2.2.2)).flatten = Tm.spl vs fr n es) := by show _ = _; simp [Tm.spl]
  rw [HVS.out] at HCO
  have HB1 := Lib.hid hb1
  clear h he h1 h2 hb1 hq hrc hen HVS
  go_enter Try.func66, Try.ntmps66
  go_upto_region 1 with (fail)
  have HW1 := Lib.hid hW1
  go_region_with (go_at_call 72; rw [← HW1.out]; refine HCO.out.mono ?_; rintro e w2 ⟨ra, rn, rc, rfl, hown, hb2⟩)
  have HB2 : Hid (Below W.heap.size W w2) := HB1.out.trans (hb2.mono HB1.out.size)
  have hln : rn = (Tm.spl vs fr n es).length := by have := hown.1; omega
  have HLN := Lib.hid hln
  have HRV : Hid (∀ ex, (∀ k, W.heap.size ≤ k → ¬ ex k) → Rv ex ra rn rn (Tm.spl vs fr n es) w2) := fun ex hex => by
    have h := Rv.of_own (ex := ex) hown (fun k hk => hex k (by have := HB1.out.size; omega))
    have h2 := h.take rn (Nat.le_refl _) rn (fun _ => Nat.le_refl _)
    rw [List.take_of_length_le (by have := h.ln; omega)] at h2
    exact h2
  have hcase : (ra = none ∧ rn = 0 ∧ rc = 0) ∨ ∃ g, ra = some ⟨g, 0, none⟩ ∧ rn ≤ rc ∧ (rc : Int) ≤ 9223372036854775807 := by
    obtain ⟨_, h2⟩ := hown
    rcases h2 with ⟨e, _⟩ | ⟨b, cap, cur, e, _, _, hnc, hm, _⟩
    · injection e with e1 e2 e3; exact .inl ⟨e1, e2, e3⟩
    · injection e with e1 e2 e3; exact .inr ⟨b, e1, by omega, by rw [e3]; unfold maxLen at hm; omega⟩
  clear hown hb2 hln HCO HW1 hW1
  rcases hcase with ⟨rfl, rfl, rfl⟩ | ⟨rg, rfl, hrn, hrc⟩
  · go_wp2
    go_ret
    exact ⟨none, 0, rfl, .inl ⟨rfl, rfl, rfl⟩, HLN.out, HRV.out, HB2.out⟩
  · have r0 : (0 : Int) ≤ (rn : Int) := by omega
    have r1 : (rn : Int) ≤ (rc : Int) := by omega
    go_wp2
    go_ret
    exact ⟨_, _, rfl, .inr ⟨_, _, rfl⟩, HLN.out, HRV.out, HB2.out⟩
set_option maxHeartbeats 4000000 in
set_option maxRecDepth 100000 in
theorem tre_splbp {ex : Nat → Prop} {g off n c : Nat} {ea : Option Addr} {en ec : Nat} {vs es : List Value} {W : World} (fr tt : Nat) (h : Rv ex (some ⟨g, off, none⟩) n c vs W) (he : Rv ex ea en ec es W) (h1 : ∀ u ∈ vs, u.oneCell' = true) (h2 : ∀ u ∈ es, u.oneCell' = true) (hft : fr ≤ tt) (htn : tt ≤ n) (hnc : n ≤ c) (hn : n ≤ 1000) (hen : en ≤ 1000) (_hc : c ≤ 9223372036854775807) (hct : ¬ c = tt) :
    Calls Try.prog 66 #[.slice (some ⟨g, off, none⟩) n c, .int .i64 (fr : Int), .int .i64 (tt : Int), .slice ea en ec] W fun e w' => ∃ a N, e = .returned (.slice a N N) ∧ Fm a N N ∧ N = (Tm.spl vs fr tt es).length ∧ (∀ ex, (∀ k, W.heap.size ≤ k → ¬ ex k) → Rv ex a N N (Tm.spl vs fr tt es) w') ∧ Below W.heap.size W w' := by
  have h0f : (0 : Int) ≤ (fr : Int) := by omega
  have h0t : (0 : Int) ≤ (tt : Int) := by omega
  have hfc : (fr : Int) ≤ (c : Int) := by omega
  have hti : (tt : Int) ≤ (n : Int) := by omega
  have hnci : (n : Int) ≤ (c : Int) := by omega
  obtain ⟨W1, hW1⟩ : ∃ W1, W1 = (W.alloc (.cells #[.slice (some ⟨g, off, none⟩) fr c, .slice ea en ec, .slice (some ⟨g, off + tt, none⟩) (n - tt) (c - tt)] 87)).drew := ⟨_, rfl⟩
  have hb1 : Below W.heap.size W W1 := by rw [hW1]; exact (one_b8 W _).trans ((below_dr8 _).mono (by simp))
  have hq : W1.heap[W.heap.size]? = some (.cells #[.slice (some ⟨g, off, none⟩) fr c, .slice ea en ec, .slice (some ⟨g, off + tt, none⟩) (n - tt) (c - tt)] 87 (0, 0)) := by rw [hW1]; exact heap_alloc_new W _
  have hrc : Rcp ex W.heap.size 0 [(some ⟨g, off, none⟩, fr, c, vs.take fr), (ea, en, ec, es), ((some ⟨g, off + tt, none⟩), n - tt, c - tt, vs.drop tt)] W1 := by
    refine ⟨heap_lt hq, fun j hj => ?_⟩
    have hl : en = es.length := he.ln
    rcases (show j = 0 ∨ j = 1 ∨ j = 2 by omega) with rfl | rfl | rfl
    · exact ⟨_, rfl, by rw [Lib.cell_of_heap hq]; rfl, (h.take fr (by omega) c (fun hh => by omega)).below hb1, by show fr ≤ 1000; omega, fun u hu => h1 u (List.mem_of_mem_take hu)⟩
    · exact ⟨_, rfl, by rw [Lib.cell_of_heap hq]; rfl, he.below hb1, hen, h2⟩
    · exact ⟨_, rfl, by rw [Lib.cell_of_heap hq]; rfl, (h.drop tt htn).below hb1, by show n - tt ≤ 1000; omega, fun u hu => h1 u (List.mem_of_mem_drop hu)⟩
  have HCO := Lib.hid (tre_concatp (c := 3) rfl (Nat.le_refl _) hrc)
  have HVS : Hid ((([(some ⟨g, off, none⟩, fr, c, vs.take fr), (ea, en, ec, es), ((some ⟨g, off + tt, none⟩), n - tt, c - tt, vs.drop tt)] : List (Option Addr × Nat × Nat × List Value)).map (fun x => x.2.2.2)).flatten = Tm.spl vs fr tt es) := by show _ = _; simp [Tm.spl]
  rw [HVS.out] at HCO
  have HB1 := Lib.hid hb1
  clear h he h1 h2 hb1 hq hrc hen HVS
  go_enter Try.func66, Try.ntmps66
  go_upto_region 1 with (fail)
  have HW1 := Lib.hid hW1
  go_region_with (go_at_call 72; rw [← HW1.out]; refine HCO.out.mono ?_; rintro e w2 ⟨ra, rn, rc, rfl, hown, hb2⟩)
  have HB2 : Hid (Below W.heap.size W w2) := HB1.out.trans (hb2.mono HB1.out.size)
  have hln : rn = (Tm.spl vs fr tt es).length := by have := hown.1; omega
  have HLN := Lib.hid hln
  have HRV : Hid (∀ ex, (∀ k, W.heap.size ≤ k → ¬ ex k) → Rv ex ra rn rn (Tm.spl vs fr tt es) w2) := fun ex hex => by
    have h := Rv.of_own (ex := ex) hown (fun k hk => hex k (by have := HB1.out.size; omega))
    have h2 := h.take rn (Nat.le_refl _) rn (fun _ => Nat.le_refl _)
    rw [List.take_of_length_le (by have := h.ln; omega)] at h2
    exact h2
  have hcase : (ra = none ∧ rn = 0 ∧ rc = 0) ∨ ∃ g, ra = some ⟨g, 0, none⟩ ∧ rn ≤ rc ∧ (rc : Int) ≤ 9223372036854775807 := by
    obtain ⟨_, h2⟩ := hown
    rcases h2 with ⟨e, _⟩ | ⟨b, cap, cur, e, _, _, hnc, hm, _⟩
    · injection e with e1 e2 e3; exact .inl ⟨e1, e2, e3⟩
    · injection e with e1 e2 e3; exact .inr ⟨b, e1, by omega, by rw [e3]; unfold maxLen at hm; omega⟩
  clear hown hb2 hln HCO HW1 hW1
  rcases hcase with ⟨rfl, rfl, rfl⟩ | ⟨rg, rfl, hrn, hrc⟩
  · go_wp2
    go_ret
    exact ⟨none, 0, rfl, .inl ⟨rfl, rfl, rfl⟩, HLN.out, HRV.out, HB2.out⟩
  · have r0 : (0 : Int) ≤ (rn : Int) := by omega
    have r1 : (rn : Int) ≤ (rc : Int) := by omega
    go_wp2
    go_ret
    exact ⟨_, _, rfl, .inr ⟨_, _, rfl⟩, HLN.out, HRV.out, HB2.out⟩
set_option maxHeartbeats 4000000 in
set_option maxRecDepth 100000 in
theorem tre_splNp {ex : Nat → Prop} {ea : Option Addr} {en ec : Nat} {es : List Value} {W : World} (he : Rv ex ea en ec es W) (h2 : ∀ u ∈ es, u.oneCell' = true) (hen : en ≤ 1000) :
    Calls Try.prog 66 #[.slice none 0 0, .int .i64 0, .int .i64 0, .slice ea en ec] W fun e w' => ∃ a N, e = .returned (.slice a N N) ∧ Fm a N N ∧ N = (Tm.spl [] 0 0 es).length ∧ (∀ ex, (∀ k, W.heap.size ≤ k → ¬ ex k) → Rv ex a N N (Tm.spl [] 0 0 es) w') ∧ Below W.heap.size W w' := by
  obtain ⟨W1, hW1⟩ : ∃ W1, W1 = (W.alloc (.cells #[.slice none 0 0, .slice ea en ec, .slice none 0 0] 87)).drew := ⟨_, rfl⟩
  have hb1 : Below W.heap.size W W1 := by rw [hW1]; exact (one_b8 W _).trans ((below_dr8 _).mono (by simp))
  have hq : W1.heap[W.heap.size]? = some (.cells #[.slice none 0 0, .slice ea en ec, .slice none 0 0] 87 (0, 0)) := by rw [hW1]; exact heap_alloc_new W _
  have hrc : Rcp ex W.heap.size 0 [(none, 0, 0, ([] : List Value)), (ea, en, ec, es), (none, 0, 0, ([] : List Value))] W1 := by
    refine ⟨heap_lt hq, fun j hj => ?_⟩
    have hl : en = es.length := he.ln
    rcases (show j = 0 ∨ j = 1 ∨ j = 2 by omega) with rfl | rfl | rfl
    · exact ⟨_, rfl, by rw [Lib.cell_of_heap hq]; rfl, by simpa using Rv.nil ex none 0 W1, by show 0 ≤ 1000; omega, fun u hu => by cases hu⟩
    · exact ⟨_, rfl, by rw [Lib.cell_of_heap hq]; rfl, he.below hb1, hen, h2⟩
    · exact ⟨_, rfl, by rw [Lib.cell_of_heap hq]; rfl, by simpa using Rv.nil ex none 0 W1, by show 0 ≤ 1000; omega, fun u hu => by cases hu⟩
  have HCO := Lib.hid (tre_concatp (c := 3) rfl (Nat.le_refl _) hrc)
  have HVS : Hid ((([(none, 0, 0, ([] : List Value)), (ea, en, ec, es), (none, 0, 0, ([] : List Value))] : List (Option Addr × Nat × Nat × List Value)).map (fun x => x.2.2.2)).flatten = Tm.spl [] 0 0 es) := by show _ = _; simp [Tm.spl]
  rw [HVS.out] at HCO
  have HB1 := Lib.hid hb1
  clear he h2 hb1 hq hrc hen HVS
  go_enter Try.func66, Try.ntmps66
  go_upto_region 1 with (fail)
  have HW1 := Lib.hid hW1
  go_region_with (go_at_call 72; rw [← HW1.out]; refine HCO.out.mono ?_; rintro e w2 ⟨ra, rn, rc, rfl, hown, hb2⟩)
  have HB2 : Hid (Below W.heap.size W w2) := HB1.out.trans (hb2.mono HB1.out.size)
  have hln : rn = (Tm.spl [] 0 0 es).length := by have := hown.1; omega
  have HLN := Lib.hid hln
  have HRV : Hid (∀ ex, (∀ k, W.heap.size ≤ k → ¬ ex k) → Rv ex ra rn rn (Tm.spl [] 0 0 es) w2) := fun ex hex => by
    have h := Rv.of_own (ex := ex) hown (fun k hk => hex k (by have := HB1.out.size; omega))
    have h2 := h.take rn (Nat.le_refl _) rn (fun _ => Nat.le_refl _)
    rw [List.take_of_length_le (by have := h.ln; omega)] at h2
    exact h2
  have hcase : (ra = none ∧ rn = 0 ∧ rc = 0) ∨ ∃ g, ra = some ⟨g, 0, none⟩ ∧ rn ≤ rc ∧ (rc : Int) ≤ 9223372036854775807 := by
    obtain ⟨_, h2⟩ := hown
    rcases h2 with ⟨e, _⟩ | ⟨b, cap, cur, e, _, _, hnc, hm, _⟩
    · injection e with e1 e2 e3; exact .inl ⟨e1, e2, e3⟩
    · injection e with e1 e2 e3; exact .inr ⟨b, e1, by omega, by rw [e3]; unfold maxLen at hm; omega⟩
  clear hown hb2 hln HCO HW1 hW1
  rcases hcase with ⟨rfl, rfl, rfl⟩ | ⟨rg, rfl, hrn, hrc⟩
  · go_wp2
    go_ret
    exact ⟨none, 0, rfl, .inl ⟨rfl, rfl, rfl⟩, HLN.out, HRV.out, HB2.out⟩
  · have r0 : (0 : Int) ≤ (rn : Int) := by omega
    have r1 : (rn : Int) ≤ (rc : Int) := by omega
    go_wp2
    go_ret
    exact ⟨_, _, rfl, .inr ⟨_, _, rfl⟩, HLN.out, HRV.out, HB2.out⟩
theorem tre_splp {ex : Nat → Prop} {a : Option Addr} {n c : Nat} {ea : Option Addr} {en ec : Nat} {vs es : List Value} {W : World} (fr tt : Nat) (h : Rv ex a n c vs W) (hf : (a = none ∧ n = 0 ∧ c = 0) ∨ ∃ g off, a = some ⟨g, off, none⟩) (he : Rv ex ea en ec es W) (h1 : ∀ u ∈ vs, u.oneCell' = true) (h2 : ∀ u ∈ es, u.oneCell' = true) (hft : fr ≤ tt) (htn : tt ≤ n) (hnc : n ≤ c) (hn : n ≤ 1000) (hen : en ≤ 1000) (hc : c ≤ 9223372036854775807) :
    Calls Try.prog 66 #[.slice a n c, .int .i64 (fr : Int), .int .i64 (tt : Int), .slice ea en ec] W fun e w' => ∃ a N, e = .returned (.slice a N N) ∧ Fm a N N ∧ N = (Tm.spl vs fr tt es).length ∧ (∀ ex, (∀ k, W.heap.size ≤ k → ¬ ex k) → Rv ex a N N (Tm.spl vs fr tt es) w') ∧ Below W.heap.size W w' := by
  rcases hf with ⟨rfl, rfl, rfl⟩ | ⟨g, off, rfl⟩
  · obtain rfl : tt = 0 := by omega
    obtain rfl : fr = 0 := by omega
    obtain rfl : vs = [] := List.eq_nil_of_length_eq_zero h.ln.symm
    exact tre_splNp he h2 hen
  · by_cases hct : c = tt
    · obtain rfl : n = tt := by omega
      subst hct
      exact tre_splap fr h he h1 h2 hft hn hen hc
    · exact tre_splbp fr tt h he h1 h2 hft htn hnc hn hen hc hct
end Go.Proofs.Ytdchapcpimhjaaa
