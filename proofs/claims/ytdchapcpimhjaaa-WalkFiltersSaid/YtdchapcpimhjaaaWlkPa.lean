/- Layer 9: pairs: a tree of keys, and its pairs. -/
import Derived.Test.YtdchapcpimhjaaaTreE7
import Derived.Test.YtdchapcpimhjaaaTreG4
import Derived.Test.YtdchapcpimhjaaaTreG5
import Derived.Test.YtdchapcpimhjaaaWlkRa
import Derived.Test.YtdchapcpimhjaaaTreG2
namespace Go.Proofs.Ytdchapcpimhjaaa
open Go.RowKit Go.Shelf

attribute [local go_sem] Oper.semAt_some

/-- pairs of few short keys, with small numbers -/
structure Pl (l : List Tm.E) : Prop where
  len : l.length ≤ 60
  asc : Tm.Asc l
  one : ∀ e ∈ l, e.1.length ≤ 50 ∧ 0 ≤ e.2 ∧ e.2 < 60
set_option maxHeartbeats 4000000 in
set_option maxRecDepth 100000 in
theorem wlk_pairs {ex : Nat → Prop} {a : Option Addr} {n c : Nat} {ks : List Tm.K} {W : World} (h : Rv ex a n c (sk ks) W) :
    Calls Try.prog 7 #[.slice a n c] W fun e w' => ∃ t x m c' l, e = .returned (.tuple #[.pointer (some ⟨t, 0, none⟩), .slice x m c']) ∧ Hid (P1 W (exs e0 t) t l w' ∧ Ps (exs e0 t) (.slice x m c') l w' ∧ Pl l ∧ m = l.length) ∧ Below W.heap.size W w' := by
  have hnl : n = ks.length := by have := h.ln; simpa [sk] using this
  have HRD : Hid (∀ wr, Below W.heap.size W wr → ∀ j, j < n → ∃ (g off : Nat) (k : Tm.K), a = some ⟨g, off, none⟩ ∧ n ≤ c ∧ wr.cell? ⟨g, off + j, none⟩ = some (.string (bstr k))) := fun wr hb j hj => by
    obtain ⟨g, off, rfl, hc, hg, hcell⟩ := h.at (by omega)
    have := hcell j hj
    rw [sk_get ks (by omega)] at this
    exact ⟨g, off, _, rfl, hc, (hb.cell (p := ⟨g, off + j, none⟩) hg).trans this⟩
  obtain ⟨t, ht⟩ : ∃ t, t = W.heap.size := ⟨_, rfl⟩
  have HP0 : Hid (P1 W (exs e0 t) t [] (W.alloc (.cells #[.pointer none] 84))) := by rw [ht]; exact p1_new (Below.refl _ _)
  have HT := Lib.hid ht
  clear h hnl
  go_enter Try.func7, Try.ntmps7
  go_wp2_with (first
    | (go_at_call 34; refine tre_new.mono ?_; rintro e w1 ⟨rfl, rfl⟩))
  rw [← ht]
  clear ht
  go_loopw [5, 13] (fun lv iv wr => ∃ (j : Nat) (x : Option Addr) (m c' : Nat) (l : List Tm.E), j ≤ n ∧ iv = .int .i64 (j : Int) ∧ lv = .slice x m c' ∧ j ≤ 60 ∧ m ≤ 60 ∧ Hid (P1 W (exs e0 t) t l wr ∧ Ps (exs e0 t) (.slice x m c') l wr ∧ Pl l ∧ m = l.length ∧ l.length ≤ j)) (fun _ iv _ => n - (ixOf iv).toNat)
  case atStart => exact ⟨0, none, 0, 0, [], Nat.zero_le _, rfl, rfl, by omega, by omega, HP0.out, Ps.nil _ _, ⟨by simp, HP0.out.A.asc, by simp⟩, rfl, Nat.le_refl _⟩
  case round =>
    clear HP0
    obtain ⟨j, x, m, c', l, hj, rfl, rfl, hj60, hm60, HL⟩ := hrel
    have HX : Hid (∀ v, v = Value.slice x m c' → ∃ l, m = l.length ∧ P1 W (exs e0 t) t l wr ∧ Ps (exs e0 t) (.slice x m c') l wr ∧ Pl l ∧ Below W.heap.size W wr) := fun _ _ => ⟨l, HL.out.2.2.2.1, HL.out.1, HL.out.2.1, HL.out.2.2.1, HL.out.1.bel⟩
    have HEND : Hid (P1 W (exs e0 t) t l wr ∧ Ps (exs e0 t) (.slice x m c') l wr ∧ Pl l ∧ m = l.length) := ⟨HL.out.1, HL.out.2.1, HL.out.2.2.1, HL.out.2.2.2.1⟩
    have HBE : Hid (Below W.heap.size W wr) := HL.out.1.bel
    clear HX
    by_cases hlt : j < n
    case neg =>
      have hjI : ¬ (j : Int) < (n : Int) := by omega
      clear HRD HL
      go_wp2
      go_ret2
      exact ⟨t, x, m, c', rfl, ⟨l, HEND.out⟩, HBE.out⟩
    case pos =>
      have hjI : (j : Int) < (n : Int) := by omega
      obtain ⟨g, off, k, rfl, hc, k0⟩ := HRD.out wr HBE.out j hlt
      by_cases h60 : j < 60
      case neg =>
        have h60I : (60 : Int) ≤ (j : Int) := by omega
        clear HRD HL
        go_wp2
        go_ret2
        exact ⟨t, x, m, c', l, rfl, HEND.out, HBE.out⟩
      case pos =>
        have h60I : ¬ (60 : Int) ≤ (j : Int) := by omega
        obtain ⟨S, hS⟩ : ∃ S, S = bstr k := ⟨_, rfl⟩
        have hSz : S.size = k.length := by rw [hS]; exact bstr_size k
        rw [← hS] at k0
        by_cases hk : k.length ≤ 50
        case neg =>
          have hkI : (50 : Int) < (S.size : Int) := by omega
          clear HRD HL hSz hS
          go_wp2
          go_ret2
          exact ⟨t, x, m, c', rfl, ⟨l, HEND.out⟩, HBE.out⟩
        case pos =>
          have hkI : ¬ (50 : Int) < (S.size : Int) := by omega
          have HPUT : Hid (Calls Try.prog 35 #[.pointer (some ⟨t, 0, none⟩), .string S, .int .i64 (j : Int)] wr fun e w' => ∃ b, e = .returned (.bool b) ∧ Hid (P1 W (exs e0 t) t (Tm.ins l k (j : Int)) w' ∧ Ps (exs e0 t) (.slice x m c') l w')) := by
            show Calls _ _ _ _ _
            rw [hS]
            refine (p1_put HL.out.1 (by have := HL.out.2.2.1.len; omega)).mono ?_
            rintro e w' ⟨rfl, h1, h2⟩
            exact ⟨_, rfl, h1, HL.out.2.1.keep h2⟩
          have HREF : Hid (∀ w', P1 W (exs e0 t) t (Tm.ins l k (j : Int)) w' → Ps (exs e0 t) (.slice x m c') l w' → Calls Try.prog 36 #[.slice x m c', .string S, .int .i64 (j : Int)] w' fun e w2 => ∃ x2 m2 c2 b, e = .returned (.tuple #[.slice x2 m2 c2, .bool b]) ∧ m2 ≤ 60 ∧ Hid (P1 W (exs e0 t) t (Tm.ins l k (j : Int)) w2 ∧ Ps (exs e0 t) (.slice x2 m2 c2) (Tm.ins l k (j : Int)) w2 ∧ Pl (Tm.ins l k (j : Int)) ∧ m2 = (Tm.ins l k (j : Int)).length ∧ (Tm.ins l k (j : Int)).length ≤ j + 1)) := fun w' h1 h2 => by
            rw [hS]
            have hln := HL.out.2.2.2.2
            have hl1 := ins_len1 k (j : Int) HL.out.2.2.1.asc
            refine (ref8_put h2 HL.out.2.2.1.asc (by omega) h1.hex).mono ?_
            rintro e w2 ⟨r, rfl, h3, h4⟩
            obtain ⟨x2, c2, rfl⟩ := h3.form
            refine ⟨x2, _, c2, _, rfl, by omega, h1.below h4, h3, ⟨by omega, Tm.asc_ins HL.out.2.2.1.asc, fun e he => ?_⟩, rfl, by omega⟩
            rcases Tm.mem_ins he with rfl | he
            · exact ⟨hk, by show (0 : Int) ≤ (j : Int); omega, by show (j : Int) < 60; omega⟩
            · exact HL.out.2.2.1.one e he
          clear HRD HL hSz hS HEND HBE
          go_wp2_with (first
            | (go_at_call 35; refine HPUT.out.mono ?_; rintro e w2 ⟨b2, rfl, HB2⟩)
            | (go_at_call 36; refine (HREF.out w2 HB2.out.1 HB2.out.2).mono ?_; rintro e w3 ⟨x2, m2, c2, b3, rfl, hm2, HB3⟩))
          go_roundw
          case rel => exact ⟨j + 1, x2, m2, c2, Tm.ins l k (j : Int), by omega, by go_num, rfl, by omega, hm2, HB3.out⟩
          case measure => simp [ixOf]; omega
end Go.Proofs.Ytdchapcpimhjaaa
/- Layer 9: list: the pairs of a walk. -/
namespace Go.Proofs.Ytdchapcpimhjaaa
open Go.RowKit Go.Shelf

attribute [local go_sem] Oper.semAt_some

/-- what stands while list goes on -/
structure Lq (W : World) (p : Nat) (a : Option Addr) (c : Nat) (l : List Tm.E) (X : World) : Prop where
  bo : Boxed X p 25 (.slice a l.length c)
  ow : X.ownsRow (p + 1) 50 2 (.slice a l.length c) l.length (pcs l)
  bel : Below p W X
  sz : p + 1 ≤ X.heap.size
def coq (p : Nat) : Co := coR (fun k => p ≤ k) (p + 1) (p + 1) [p]
theorem Lq.row {W X : World} {p : Nat} {a : Option Addr} {c : Nat} {l : List Tm.E} (h : Lq W p a c l X) {k : Nat} (hk : a = some ⟨k, 0, none⟩) : p + 1 ≤ k ∧ k < X.heap.size := by
  rcases h.ow.2 with ⟨e, _⟩ | ⟨g, cap, cur, e, hB, hg, _⟩
  · injection e with e _ _; rw [e] at hk; cases hk
  · injection e with e _ _
    rw [e] at hk
    injection hk with hk
    injection hk with e1 _ _
    subst e1
    exact ⟨hB, heap_lt hg⟩
theorem Lq.co {W X : World} {p : Nat} {a : Option Addr} {c : Nat} {l : List Tm.E} (h : Lq W p a c l X) : (coq p).V X := by
  refine ⟨h.sz, fun q hq => ?_⟩
  rw [List.mem_singleton] at hq
  subst hq
  refine ⟨⟨Nat.le_refl _, by omega⟩, fun k hk => ?_⟩
  obtain ⟨n2, c2, hk⟩ := hk
  rw [h.bo.cell] at hk
  injection hk with hk
  injection hk with e1 e2 e3
  exact h.row e1
theorem Lq.keep {W X Y : World} {p : Nat} {a : Option Addr} {c : Nat} {l : List Tm.E} (h : Lq W p a c l X) (ho : Only (fun k => p + 1 ≤ k ∧ ¬ (coq p).O X k) X Y) : Lq W p a c l Y := by
  refine ⟨boxed_at h.bo (ho.block p h.bo.lt (fun e => by omega)), ?_, below_ge9 h.bel ho (fun k hk => by omega) (by have := h.sz; omega), Nat.le_trans h.sz ho.size⟩
  refine own_only9 h.ow (fun k hk => ?_)
  obtain ⟨n2, c2, e⟩ := hk
  injection e with e1 e2 e3
  exact ho.block k (h.row e1).2 (fun e => e.2 (.inr ⟨p, List.mem_singleton.2 rfl, l.length, c, by rw [h.bo.cell, e1]⟩))
set_option maxHeartbeats 4000000 in
set_option maxRecDepth 100000 in
theorem wlk_listp {g : Nat} {lb : Array Value} {L : List Tm.E} {D : Nat → Prop} {W : World} (hs : SeqX g lb en9 L D W) (hen : ∀ args w, (callFunc g args).run Try.prog w = .ok (.enter g args) w) (hD : ∀ k, W.heap.size ≤ k → D k) (hL : L.length ≤ 60) :
    Calls Try.prog 9 #[.func (.func g) #[] lb] W fun e w' => ∃ a n c, e = .returned (.slice a n c) ∧ Hid (n = L.length ∧ ∀ ex : Nat → Prop, (∀ k, W.heap.size ≤ k → ¬ ex k) → Ps ex (.slice a n c) L w') ∧ Below W.heap.size W w' := by
  have hnf : ∀ w, (binOp .eql 31 (.func (.func g) #[] lb) .nilFunc).run Try.prog w = .ok (.bool false) w := fun w => rfl
  obtain ⟨i0, hi0, hz0, hz1, hz2⟩ := info_of8 info2g
  obtain ⟨p, hp⟩ : ∃ p, p = W.heap.size := ⟨_, rfl⟩
  obtain ⟨W1, hW1⟩ : ∃ W1, W1 = W.alloc (.cells #[.slice none 0 0] 25) := ⟨_, rfl⟩
  have hs1 : W1.heap.size = p + 1 := by rw [hW1, hp]; simp
  have hL1 : Lq W p none 0 [] W1 := ⟨by rw [hW1, hp]; exact Boxed.new W _ _, ⟨rfl, .inl ⟨rfl, rfl⟩⟩, by rw [hW1, hp]; exact one_b8 _ _, by omega⟩
  refine (callsIn_wide (n := 9)).1 ?_
  refine callsIn_of_wp_marks Try.func9 rfl trivial ?_ rfl
  simp only [Try.ntmps9, List.size_toArray, List.length_cons, List.length_nil, Nat.reduceAdd, Nat.reduceSub, Array.replicate_succ, Array.replicate_zero, List.push_toArray, List.append_toArray, List.nil_append, List.cons_append]
  gi_wp2_with fail
  rw [← hW1, ← hp]
  clear hW1
  refine rangeX (n := 9) (w := W1) (α := Tm.E) (enc := en9) (L := L) (D := D) (w0 := W) (fun t x => (((t.setIfInBounds 9 (.string (bstr x.1))).setIfInBounds 10 (.int .i64 x.2)).setIfInBounds 4 (.string (bstr x.1))).setIfInBounds 5 (.int .i64 x.2)) (coq p) (gf := g) (lb := lb) (by omega) rfl hen hs (by rw [← hp]; exact hL1.bel) ?_ (fun _ => rfl)
    (fun pre X => ∃ a c, Lq W p a c pre X)
    (fun _ _ _ => False) (fun _ X h => by obtain ⟨a, c, h⟩ := h; exact h.co) (fun _ _ X h => h.elim) ?hI ?hIx ?h0 ?assign ?body ?done ?stop
  case hI =>
    rintro s X Y ⟨a, c, q1⟩ ho
    rw [hs1] at ho
    exact ⟨a, c, q1.keep ho⟩
  case hIx => intro cd s X Y h; exact h.elim
  case h0 => exact ⟨_, _, hL1⟩
  case assign =>
    intro l x wx K hK
    clear hp hs1
    simp only [en9]
    simp only [List.setIfInBounds_toArray, List.set_cons_succ, List.set_cons_zero] at hK
    gi_wp2
    exact hK
  case body =>
    rintro l pre x X hl hlX hnl ⟨a, c, q1⟩ hpre
    have hv := q1.co
    obtain ⟨j, hj⟩ : ∃ j, j = pre.length := ⟨_, rfl⟩
    have hjn : j < 60 := by
      obtain ⟨t, rfl⟩ := hpre
      simp at hL; omega
    have co := q1.bo
    have hrow := q1.ow
    rw [← hj] at co hrow
    have c3 := co.cell
    have f3 := co.frozen
    have hqI : ¬ (1000 : Int) < (j : Int) + 1 := by omega
    obtain ⟨sx, hsx⟩ : ∃ sx, sx = bstr x.1 := ⟨_, rfl⟩
    obtain ⟨ix, hix⟩ : ∃ ix, ix = x.2 := ⟨_, rfl⟩
    have HRW := Lib.hid hrow
    have HCO := Lib.hid co
    have HV := Lib.hid hv
    have HSZ : Hid (p + 1 ≤ X.heap.size ∧ j ≤ 100000) := ⟨q1.sz, by omega⟩
    have HSRC : Hid (∀ wz : World, Src Try.prog 2 25 (.slice (some ⟨wz.heap.size, 0, none⟩) 1 1) 1 [.string sx, .int .i64 ix] (wz.alloc (.cells #[.string sx, .int .i64 ix] 50))) := fun wz =>
      Src.ofSlice _ Try.underlying25 ⟨wz.heap.size, 0, none⟩ 1 1 [.string sx, .int .i64 ix] rfl (fun i u hu => by
        rw [add_p8, Lib.cell_of_heap (heap_alloc_new wz _), Nat.zero_add, ← Array.getElem?_toList]
        exact hu) (by simp [Value.oneCell'])
    have hlen : (pre ++ [x]).length = j + 1 := by rw [List.length_append, List.length_singleton, hj]
    have HFIN : Hid (∀ (g' c' : Nat) (X2 : World), Boxed X2 p 25 (.slice (some ⟨g', 0, none⟩) (j + 1) c') → X2.ownsRow (p + 1) 50 2 (.slice (some ⟨g', 0, none⟩) (j + 1) c') (j + 1) (pcs pre ++ [.string sx, .int .i64 ix]) → (coq p).kb X X2 → ∃ a c, Lq W p a c (pre ++ [x]) X2) := fun g' c' X2 h1 h2 h3 => by
      refine ⟨some ⟨g', 0, none⟩, c', by rw [hlen]; exact h1, ?_, ?_, Nat.le_trans q1.sz h3.1.size⟩
      · rw [hlen, pcs_append, show pcs [x] = [.string sx, .int .i64 ix] by rw [hsx, hix]; rfl]; exact h2
      · refine below_ge9 q1.bel h3.1 (fun k hk => ?_) (by have := q1.sz; omega)
        rcases hk with hk | ⟨q, hq, hk⟩
        · exact hk.1
        · have := ((hv.2 q hq).2 k hk).1
          omega
    have HNB : Hid (∀ q2 ∈ [p], (Value.slice a j c).ownBlock ≠ some q2) := fun q2 hq2 e => by
      rw [List.mem_singleton] at hq2
      subst hq2
      rcases hrow.2 with ⟨e2, _⟩ | ⟨g2, cap, cur, e2, hB, hg, _⟩
      · rw [e2] at e; simp [Value.ownBlock] at e
      · rw [e2] at e
        have : g2 = q2 := by simpa [Value.ownBlock] using e
        omega
    rw [← hsx, ← hix]
    clear hs hen hD hs1 hL1 q1 hv hrow co hpre hl hlX hnl hj hp hsx hix hlen hL
    simp only [List.setIfInBounds_toArray, List.set_cons_succ, List.set_cons_zero]
    gi_wp2_with (gi_at_builtin; refine wpListIn_append_at _ rfl _ _ 25 rfl (p + 1) 50 i0 _ 2 24 Try.underlying25 hi0 hz0 hz1 hz2 rfl _ j (pcs pre) rfl (HRW.out.alloc _) _ 1 [.string sx, .int .i64 ix] rfl (HSRC.out _) (by have := HSZ.out; unfold maxLen; omega) (by have := HSZ.out; omega) (by have := HSZ.out; simp; omega) ?_; intro v' w3 hown' hg3 hw3
                 obtain ⟨g', cap', rfl⟩ := ownsRow_succ hown'
                 obtain ⟨k1, k2, k3, k4, k5⟩ := co_appended (S := fun k => p ≤ k) (N := p + 1) (M := p + 1) (qs := [p]) (q := p) HV.out (List.mem_singleton.2 rfl) (by decide) HCO.out HRW.out HSZ.out.1 hown' hg3 hw3 HNB.out
                 have c4 := k1.cell
                 have f4 := k1.frozen
                 have c5 := k2.cell
                 have HK2 := Lib.hid k2; have HK3 := Lib.hid k3; have HK4 := Lib.hid k4
                 clear hw3 hown' hg3 k1 k2 k3 k4 k5
                 go_frame)
    exact ⟨HK4.out, HFIN.out _ _ _ HK2.out HK3.out HK4.out⟩
  case done =>
    rintro Dn X hDn ⟨a, c, q1⟩ hK hnD
    obtain ⟨j, hj⟩ : ∃ j, j = L.length := ⟨_, rfl⟩
    have co := q1.bo
    have hrow := q1.ow
    rw [← hj] at co hrow
    have c3 := co.cell
    have HF : Hid (X.heap[Dn]? = some (.deferred (some [])) ∧ (j = L.length ∧ ∀ ex : Nat → Prop, (∀ k, W.heap.size ≤ k → ¬ ex k) → Ps ex (.slice a j c) L (X.putObj Dn (.deferred none))) ∧ Below W.heap.size W (X.putObj Dn (.deferred none))) :=
      ⟨hK, ⟨hj, fun ex hex => Ps.of_own (ownsRow_putObj hrow _ hK rfl) (fun k hk => hex k (by omega))⟩, by rw [← hp]; exact below_ge9 q1.bel (only_put X Dn _) (fun k hk => by omega) (by have := q1.sz; omega)⟩
    clear hs hen hD hs1 hL1 q1 hrow co hnD hj hp hK hDn hL
    gi_wp2
    refine ⟨by simp, .inl ⟨_, _, rfl, run_takeDeferred HF.out.1, ?_⟩⟩
    exact ⟨_, results_tmp rfl _ _ _, a, j, c, rfl, HF.out.2.1, HF.out.2.2⟩
  case stop =>
    rintro Dn cd pre X hDn hpre h
    exact h.elim
  · intro X k hv hk
    have : p ≤ k := by
      rcases hk with hk | ⟨q, hq, hk⟩
      · exact hk.1
      · have := ((hv.2 q hq).2 k hk).1
        omega
    exact hD k (by omega)
end Go.Proofs.Ytdchapcpimhjaaa
