/- Layer 9: Take at int, over a walk that writes blocks besides. -/
import Derived.Test.YtdchapcpimhjaaaWlkEa
import Derived.Test.YtdchapcpimhjaaaWlkUa
namespace Go.Proofs.Ytdchapcpimhjaaa
open Go.RowKit Go.Shelf

attribute [local go_sem] Oper.semAt_some

set_option maxHeartbeats 4000000 in
set_option maxRecDepth 100000 in
theorem wlk_take1E {E : Nat → Prop} {St : Nat → World → Prop} {Se : World → Prop} {B0 B1 g n : Nat} {lb : Array Value} {L : List Int} {D : Nat → Prop} {w : World} (hs : SeqE E St Se g lb eI L D w) (hst : Stat E w.heap.size St Se) (hs0 : St 0 w) (hen : ∀ args w, (callFunc g args).run Try.prog w = .ok (.enter g args) w) (hD : ∀ k, w.heap.size ≤ k → D k)
    (hb0 : w.cell? ⟨B0, 0, none⟩ = some (.func (.func g) #[] lb)) (hb1 : w.cell? ⟨B1, 0, none⟩ = some (.int .i64 (n : Int))) (hl0 : B0 < w.heap.size) (hl1 : B1 < w.heap.size) (hN : n ≤ 4611686018427387904) :
    SeqE E St (fun X => (n ≤ L.length → St n X) ∧ (L.length < n → Se X)) 46 #[.pointer (some ⟨B0, 0, none⟩), .pointer (some ⟨B1, 0, none⟩)] eI (L.take n) D w := fun m cc ly J Jx W hbw hcD hlw hlW hJV hJ hJx hJxV hY h0 => by
  have c0 : W.cell? ⟨B0, 0, none⟩ = some (.func (.func g) #[] lb) := (hbw.cell (p := ⟨B0, 0, none⟩) hl0).trans hb0
  have c1 : W.cell? ⟨B1, 0, none⟩ = some (.int .i64 (n : Int)) := (hbw.cell (p := ⟨B1, 0, none⟩) hl1).trans hb1
  have hsz := hbw.size
  have hk0 : B0 < W.heap.size := by omega
  have hk1 : B1 < W.heap.size := by omega
  have hsW : St 0 W := hst.st _ _ _ hs0 (fun k hk => hbw.block k (hst.lt k hk))
  have hnf : ∀ w, (binOp .eql 41 (.func (.func g) #[] lb) .nilFunc).run Try.prog w = .ok (.bool false) w := fun w => rfl
  obtain ⟨p, hp⟩ : ∃ p, p = W.heap.size := ⟨_, rfl⟩
  have hlo : LoE E cc ly p J Jx := ⟨by omega, hJV, by rw [hp]; exact hJ, by rw [hp]; exact hJx, hJxV, fun k hk => by have := hst.lt k hk; omega, fun X k a b => (hcD X k a b).2⟩
  clear hJV hJ hJx hJxV
  by_cases hn : n = 0
  case pos =>
    subst hn
    have HE : Hid (∀ o, J (L.take 0) (W.alloc o) ∧ ((0 ≤ L.length → St 0 (W.alloc o)) ∧ (L.length < 0 → Se (W.alloc o)))) := fun o => by
      refine ⟨hlo.jk h0 (only_new _ _ _), fun _ => hst.st _ _ _ hsW (fun k hk => Below.heap_alloc _ _ _ (by have := hst.lt k hk; omega)), fun h => by omega⟩
    clear hY h0 hcD hlo hbw hs hb0 hb1 hl0 hl1 hD hlw hlW hst hs0 hsW
    refine callsIn_of_wp Try.func46 rfl trivial ?_ rfl
    simp only [Try.ntmps46, List.size_toArray, List.length_cons, List.length_nil, Nat.reduceAdd, Nat.reduceSub, Array.replicate_succ, Array.replicate_zero, List.push_toArray, List.append_toArray, List.nil_append, List.cons_append]
    gi_wp2
    refine bodyPost_ret (results_none rfl _ _ _) rfl ?_
    exact ⟨⟨_, rfl⟩, .inl (HE.out _)⟩
  case neg =>
    have hnI : ¬ (n : Int) ≤ 0 := by omega
    obtain ⟨W1, hW1⟩ : ∃ W1, W1 = (W.alloc (.cells #[.func (.yield ly) #[] #[]] 75)).alloc (.cells #[.int .i64 (n : Int)] 3) := ⟨_, rfl⟩
    have hs1 : W1.heap.size = p + 2 := by rw [hW1, hp]; simp
    have bY : Boxed W1 p 75 (.func (.yield ly) #[] #[]) := by rw [hW1, hp]; exact (Boxed.new W _ _).alloc _
    have bL : Boxed W1 (p + 1) 3 (.int .i64 (n : Int)) := by
      have := Boxed.new (W.alloc (.cells #[.func (.yield ly) #[] #[]] 75)) 3 (.int .i64 (n : Int))
      rw [World.size_alloc, ← hW1, ← hp] at this
      exact this
    obtain ⟨hz1, hJ1⟩ := hlo.zs (q := p + 2) hp h0 (by rw [hW1]; exact (only_new _ W _).alloc _) hs1.symm (by omega) bY.cell
    have hb1' : Below w.heap.size w W1 := by rw [hW1]; exact (hbw.alloc hsz _).alloc (by simp; omega) _
    have hFN : ∀ k, (fun _ : Nat => False) k → E k := fun _ h => h.elim
    refine callsIn_wide.2 ((callsIn_wide (n := 9)).1 ?_)
    refine callsIn_of_wp_marks Try.func46 rfl trivial ?_ rfl
    simp only [Try.ntmps46, List.size_toArray, List.length_cons, List.length_nil, Nat.reduceAdd, Nat.reduceSub, Array.replicate_succ, Array.replicate_zero, List.push_toArray, List.append_toArray, List.nil_append, List.cons_append]
    gi_wp2_with fail
    rw [← hW1, ← hp]
    clear hW1
    refine rangeE (n := 9) (w := W1) (α := Int) (enc := eI) (L := L) (D := D) (w0 := w) (fun t x => (t.setIfInBounds 14 (.int .i64 x)).setIfInBounds 5 (.int .i64 x)) (c9F cc ly p (p + 2) (fun _ => False)) (gf := g) (lb := lb) (by omega) rfl hen hs hb1' hst ?_ (fun _ => rfl)
      (fun pre X => pre.length < n ∧ J pre X ∧ Zs cc ly p (p + 2) X ∧ Boxed X (p + 1) 3 (.int .i64 ((n - pre.length : Nat) : Int)))
      (fun cd pre X => cd = .ret ∧ Zs cc ly p (p + 2) X ∧ ((J pre X ∧ pre.length = n) ∨ (Jx pre X ∧ pre.length ≤ n))) (fun _ X h => hlo.co hFN h.2.2.1) (fun _ _ X h => hlo.co hFN h.2.1) ?hI ?hIx ?h0 ?assign ?body ?done ?stop
    case hI =>
      rintro s X Y ⟨q1, q2, q3, q4⟩ ho
      rw [hs1] at ho
      have ho2 := hlo.only (fun _ h => h) q3 ho
      exact ⟨q1, hlo.jk q2 ho2, hlo.keep q3 ho2, boxed_at q4 (hlo.own (fun _ h => h) ho q3 (by omega) (by omega))⟩
    case hIx =>
      rintro cd s X Y ⟨q1, q3, q2⟩ ho
      rw [hs1] at ho
      have ho2 := hlo.only (fun _ h => h) q3 ho
      refine ⟨q1, hlo.keep q3 ho2, ?_⟩
      rcases q2 with ⟨q2, q4⟩ | q2
      · exact .inl ⟨hlo.jk q2 ho2, q4⟩
      · exact .inr ⟨hlo.xk q2.1 ho2, q2.2⟩
    case h0 => exact ⟨by show 0 < n; omega, hJ1, hz1, bL⟩
    case assign =>
      intro l x wx K hK
      clear hp hs1
      simp only [eI]
      simp only [List.setIfInBounds_toArray, List.set_cons_succ, List.set_cons_zero] at hK
      gi_wp2
      exact hK
    case body =>
      rintro l pre x X hl hlX hnl ⟨q1, q2, q3, q4⟩ hpre
      obtain ⟨r, hr⟩ : ∃ r, r = n - pre.length := ⟨_, rfl⟩
      rw [← hr] at q4
      have hr1 : 1 ≤ r := by omega
      have hr2 : r ≤ 4611686018427387904 := by omega
      obtain ⟨X1, hX1⟩ : ∃ X1, X1 = X.setCell ⟨p + 1, 0, none⟩ (.int .i64 ((r : Int) - 1)) := ⟨_, rfl⟩
      have o1 : Only (fun k => (p < k ∧ k < p + 2) ∨ (fun _ : Nat => False) k) X X1 := by rw [hX1]; exact Only.setCell (p := fun k => (p < k ∧ k < p + 2) ∨ False) (q := ⟨p + 1, 0, none⟩) (Only.refl _ _) (.inl (.inl ⟨by show p < p + 1; omega, by show p + 1 < p + 2; omega⟩)) _
      obtain ⟨o2, k1⟩ := hlo.wr hFN q3 o1
      have j1 := hlo.jk q2 o2
      have y1 := hlo.keep q3 o2
      have b1 : Boxed X1 (p + 1) 3 (.int .i64 ((r : Int) - 1)) := by rw [hX1]; exact q4.set _
      obtain ⟨fn, tmps, assign, body, hyy, hR⟩ := hlo.call hFN (l := l) (m' := 6) hY j1 y1 (x := x) (List.prefix_take_iff.2 ⟨hpre, by rw [List.length_append, List.length_singleton]; omega⟩)
      simp only [eI] at hyy
      have HR : Hid (RoundIn (Fence.wide.inRound l) 6 Try.prog ly fn tmps assign body X1 fun e W' => ∃ b : Bool, e = .returned (.bool b) ∧ W'.cell? ⟨p + 1, 0, none⟩ = some (.int .i64 ((r : Int) - 1)) ∧ Hid (Zs cc ly p (p + 2) W' ∧ Boxed W' (p + 1) 3 (.int .i64 ((r : Int) - 1)) ∧ (c9F cc ly p (p + 2) (fun _ => False)).kb X W' ∧ (b = true → J (pre ++ [x]) W') ∧ (b = false → Jx (pre ++ [x]) W'))) := by
        refine hR.mono ?_
        rintro e W' ⟨b, rfl, hd⟩
        have hd := hd.out
        have hbq : Boxed W' (p + 1) 3 (.int .i64 ((r : Int) - 1)) := boxed_at b1 (hd.own _ (by omega) (by omega))
        exact ⟨b, rfl, hbq.cell, hd.z, hbq, Co.kb_trans k1 hd.kb, hd.go, hd.stop⟩
      have cL := q4.cell
      have fL := q4.frozen
      have a2 := y1.y
      have HR2 := Lib.hid hr
      rw [hX1] at hyy a2 HR
      clear hlo hY hp hs1 hs hst hz1 hJ1 hb1' q2 q3 q4 b1 o1 o2 k1 hX1 bY bL h0 hR hFN j1 y1 hr hpre hbw hcD hlw hlW hl hlX hnl hb0 hb1 hl0 hl1 hD hs0 hsW hsz
      simp only [List.setIfInBounds_toArray, List.set_cons_succ, List.set_cons_zero]
      gi_wp2_with fail
      refine HR.out.mono ?_
      rintro e1 W2 ⟨b, rfl, cR, hB⟩
      have HB := Lib.hid hB.out
      clear hB HR hyy
      cases b with
      | false =>
        clear cR
        gi_wp2
        exact ⟨HB.out.2.2.1, rfl, HB.out.1, .inr ⟨HB.out.2.2.2.2 (by trivial), by rw [List.length_append, List.length_singleton]; omega⟩⟩
      | true =>
        by_cases hz : r = 1
        case pos =>
          have hzI : (r : Int) - 1 = 0 := by omega
          gi_wp2
          refine ⟨HB.out.2.2.1, rfl, HB.out.1, .inl ⟨HB.out.2.2.2.1 (by trivial), ?_⟩⟩
          have := HR2.out
          rw [List.length_append, List.length_singleton]; omega
        case neg =>
          have hzI : ¬ (r : Int) - 1 = 0 := by omega
          gi_wp2
          refine ⟨HB.out.2.2.1, ?_, HB.out.2.2.2.1 (by trivial), HB.out.1, ?_⟩
          · have := HR2.out
            rw [List.length_append, List.length_singleton]; omega
          · have h1 := HB.out.2.1
            have := HR2.out
            rw [show (r : Int) - 1 = ((n - (pre ++ [x]).length : Nat) : Int) by rw [List.length_append, List.length_singleton]; omega] at h1
            exact h1
    case done =>
      rintro Dn X hDn ⟨q1, q2, q3, q4⟩ hse hK hnD
      have HE : Hid (J (L.take n) (X.putObj Dn (.deferred none)) ∧ ((n ≤ L.length → St n (X.putObj Dn (.deferred none))) ∧ (L.length < n → Se (X.putObj Dn (.deferred none))))) := by
        refine ⟨?_, fun h => by omega, fun _ => hst.se _ _ hse (fun k hk => World.putObj_heap_other (by have := hst.lt k hk; omega))⟩
        rw [List.take_of_length_le (by omega)]
        exact hlo.jk q2 (only_w (only_put X Dn _) (fun k hk => by subst hk; exact ⟨.inl (by omega), fun h => hnD (.inl h)⟩))
      have HK := Lib.hid hK
      clear hlo hY hp hs1 hs hst hz1 hJ1 hb1' q1 q2 q3 q4 bY bL h0 hFN hbw hcD hlw hlW hb0 hb1 hl0 hl1 hD hs0 hsW hsz hK hnD hDn hse
      gi_wp2
      refine ⟨by simp, .inl ⟨_, _, rfl, run_takeDeferred HK.out, ?_⟩⟩
      exact ⟨_, results_none rfl _ _ _, ⟨_, rfl⟩, .inl HE.out⟩
    case stop =>
      rintro Dn cd pre X hDn hpre ⟨rfl, q3, q2⟩ hse hK hnD
      have HE : Hid ((J (L.take n) (X.putObj Dn (.deferred none)) ∧ ((n ≤ L.length → St n (X.putObj Dn (.deferred none))) ∧ (L.length < n → Se (X.putObj Dn (.deferred none))))) ∨ ∃ pre, pre <+: L.take n ∧ Jx pre (X.putObj Dn (.deferred none)) ∧ St pre.length (X.putObj Dn (.deferred none))) := by
        have ho := only_w (only_put X Dn (.deferred none)) (q := fun k => (p < k ∨ E k) ∧ ¬ cc.O X k) (fun k hk => by subst hk; exact ⟨.inl (by omega), fun h => hnD (.inl h)⟩)
        have hse2 := hst.st _ _ (X.putObj Dn (.deferred none)) hse (fun k hk => World.putObj_heap_other (by have := hst.lt k hk; omega))
        rcases q2 with ⟨q2, q4⟩ | q2
        · left
          have hle := hpre.length_le
          obtain ⟨t, rfl⟩ := hpre
          refine ⟨?_, fun _ => by rw [← q4]; exact hse2, fun h => by omega⟩
          rw [← q4, List.take_left]
          exact hlo.jk q2 ho
        · right
          exact ⟨pre, List.prefix_take_iff.2 ⟨hpre, q2.2⟩, hlo.xk q2.1 ho, hse2⟩
      have HK := Lib.hid hK
      clear hlo hY hp hs1 hs hst hz1 hJ1 hb1' q2 q3 bY bL h0 hFN hbw hcD hlw hlW hb0 hb1 hl0 hl1 hD hs0 hsW hsz hK hnD hDn hse hpre
      gi_wp2
      refine ⟨by simp, .inl ⟨_, _, rfl, run_takeDeferred HK.out, ?_⟩⟩
      exact ⟨_, results_none rfl _ _ _, ⟨_, rfl⟩, HE.out⟩
    · exact c9F_D hcD (fun _ h => h) hlo.el hlo.lt (fun _ h => h.elim) hD hlw
set_option maxHeartbeats 1000000 in
set_option maxRecDepth 100000 in
theorem wlk_takeE {E : Nat → Prop} {St : Nat → World → Prop} {Se : World → Prop} {g n : Nat} {lb : Array Value} {L : List Int} {D : Nat → Prop} {w : World} (hs : SeqE E St Se g lb eI L D w) (hst : Stat E w.heap.size St Se) (hs0 : St 0 w) (hen : ∀ args w, (callFunc g args).run Try.prog w = .ok (.enter g args) w) (hD : ∀ k, w.heap.size ≤ k → D k) (hN : n ≤ 4611686018427387904) :
    Calls Try.prog 21 #[.func (.func g) #[] lb, .int .i64 (n : Int)] w fun e w' => ∃ g2 lb2, e = .returned (.func (.func g2) #[] lb2) ∧ Hid ((∀ args w, (callFunc g2 args).run Try.prog w = .ok (.enter g2 args) w) ∧ SeqE E St (fun X => (n ≤ L.length → St n X) ∧ (L.length < n → Se X)) g2 lb2 eI (L.take n) D w') ∧ Below w.heap.size w w' := by
  have HS := Lib.hid hs; have HE := Lib.hid hen; have HD := Lib.hid hD; have HST := Lib.hid hst; have HS0 := Lib.hid hs0
  clear hs hen hD hst hs0
  go_enter Try.func21, Try.ntmps21
  go_wp2
  go_ret
  have hb : Below w.heap.size w ((w.alloc (.cells #[.func (.func g) #[] lb] 41)).alloc (.cells #[.int .i64 (n : Int)] 3)) := (one_b8 _ _).alloc (by simp) _
  have b0 := ((Boxed.new w 41 (.func (.func g) #[] lb)).alloc (.cells #[.int .i64 (n : Int)] 3)).cell
  have b1 := (Boxed.new (w.alloc (.cells #[.func (.func g) #[] lb] 41)) 3 (.int .i64 (n : Int))).cell
  rw [World.size_alloc] at b1
  refine ⟨_, _, rfl, ⟨enters_of Try.func46 (by kernel_rfl) rfl, ?_⟩, hb⟩
  exact wlk_take1E (HS.out.below hb) (HST.out.up (by simp; omega)) (HST.out.st _ _ _ HS0.out (fun k hk => hb.block k (HST.out.lt k hk))) HE.out (fun k hk => HD.out k (by simp at hk; omega)) b0 b1 (by simp; omega) (by simp) hN
end Go.Proofs.Ytdchapcpimhjaaa
/- Layer 9: List at int, over a walk that writes blocks besides. -/
namespace Go.Proofs.Ytdchapcpimhjaaa
open Go.RowKit Go.Shelf

attribute [local go_sem] Oper.semAt_some

/-- what stands while List goes on: the bound, the two results, the list -/
structure LiE (E : Nat → Prop) (W : World) (p n : Nat) (u : Value) (b : Bool) (a : Option Addr) (c : Nat) (l : List Int) (X : World) : Prop where
  bm : Boxed X p 3 (.int .i64 (n : Int))
  br : Boxed X (p + 1) 45 u
  bb : Boxed X (p + 2) 4 (.bool b)
  bo : Boxed X (p + 3) 45 (.slice a l.length c)
  ow : X.ownsRow (p + 4) 3 1 (.slice a l.length c) l.length (iv l)
  bel : Only (fun k => p ≤ k ∨ E k) W X
  sz : p + 4 ≤ X.heap.size
theorem LiE.co {E : Nat → Prop} {W X : World} {p n : Nat} {u : Value} {b : Bool} {a : Option Addr} {c : Nat} {l : List Int} (h : LiE E W p n u b a c l X) : (co_int p).V X := by
  have h1 := h.bo
  have h2 := h.ow
  refine ⟨h.sz, fun q hq => ?_⟩
  rw [List.mem_singleton] at hq
  subst hq
  refine ⟨⟨by omega, by omega⟩, fun k hk => ?_⟩
  obtain ⟨n2, c2, hk⟩ := hk
  rw [h1.cell] at hk
  injection hk with hk
  injection hk with e1 e2 e3
  rcases h2.2 with ⟨e, _⟩ | ⟨g, cap, cur, e, hB, hg, _⟩
  · injection e with e _ _; rw [e] at e1; cases e1
  · injection e with e _ _
    rw [e] at e1
    injection e1 with e1
    injection e1 with e1 _ _
    subst e1
    exact ⟨hB, heap_lt hg⟩
theorem LiE.keep {E : Nat → Prop} {W X Y : World} {p n : Nat} {u : Value} {b : Bool} {a : Option Addr} {c : Nat} {l : List Int} (h : LiE E W p n u b a c l X) (hel : ∀ k, E k → k < p) (ho : Only (fun k => (p + 4 ≤ k ∨ E k) ∧ ¬ (co_int p).O X k) X Y) : LiE E W p n u b a c l Y := by
  have h1 := h.bo
  have h2 := h.ow
  have hfar : ∀ k, k < X.heap.size → p ≤ k → k < p + 4 → Y.heap[k]? = X.heap[k]? := fun k h1 h2 h3 => ho.block k h1 (fun e => by
    rcases e.1 with e | e
    · omega
    · have := hel k e; omega)
  refine ⟨boxed_at h.bm (hfar p h.bm.lt (by omega) (by omega)), boxed_at h.br (hfar _ h.br.lt (by omega) (by omega)), boxed_at h.bb (hfar _ h.bb.lt (by omega) (by omega)), boxed_at h1 (hfar _ h1.lt (by omega) (by omega)), ?_, h.bel.trans (only_w ho (fun k hk => hk.1.imp (fun e => by omega) id)), Nat.le_trans h.sz ho.size⟩
  refine own_only9 h2 (fun k hk => ?_)
  obtain ⟨n2, c2, e⟩ := hk
  injection e with e1 e2 e3
  by_cases hX : k < X.heap.size
  · exact ho.block k hX (fun e => e.2 (.inr ⟨p + 3, List.mem_singleton.2 rfl, l.length, c, by rw [h1.cell, e1]⟩))
  · rcases h2.2 with ⟨e, _⟩ | ⟨g, cap, cur, e, hB, hg, _⟩
    · injection e with e _ _; rw [e] at e1; cases e1
    · injection e with e _ _
      rw [e] at e1
      injection e1 with e1
      injection e1 with e1 _ _
      subst e1
      exact absurd (heap_lt hg) hX
set_option maxHeartbeats 4000000 in
set_option maxRecDepth 100000 in
theorem wlk_listE {E : Nat → Prop} {St : Nat → World → Prop} {Se : World → Prop} {g : Nat} {lb : Array Value} {L : List Int} {D : Nat → Prop} {W : World} {n : Nat} (hs : SeqE E St Se g lb eI L D W) (hst : Stat E W.heap.size St Se) (hen : ∀ args w, (callFunc g args).run Try.prog w = .ok (.enter g args) w) (hD : ∀ k, W.heap.size ≤ k → D k) (hn : n ≤ 100000) :
    Calls Try.prog 20 #[.func (.func g) #[] lb, .int .i64 (n : Int)] W fun e w' => ∃ a m c b, e = .returned (.tuple #[.slice a m c, .bool b]) ∧ Hid (b = decide (L.length ≤ n) ∧ Rv (fun k => k < W.heap.size ∨ w'.heap.size ≤ k) a m c (iv (L.take n)) w' ∧ (L.length ≤ n → Se w') ∧ Only (fun k => W.heap.size ≤ k ∨ E k) W w') := by
  have hnf : ∀ w, (binOp .eql 41 (.func (.func g) #[] lb) .nilFunc).run Try.prog w = .ok (.bool false) w := fun w => rfl
  obtain ⟨i0, hi0, hz0, hz1, hz2⟩ := info_of8 info9l_int
  obtain ⟨p, hp⟩ : ∃ p, p = W.heap.size := ⟨_, rfl⟩
  obtain ⟨W1, hW1⟩ : ∃ W1, W1 = (((W.alloc (.cells #[.int .i64 (n : Int)] 3)).alloc (.cells #[.slice none 0 0] 45)).alloc (.cells #[.bool false] 4)).alloc (.cells #[.slice none 0 0] 45) := ⟨_, rfl⟩
  have hs1 : W1.heap.size = p + 4 := by rw [hW1, hp]; simp
  have hBL0 : Below W.heap.size W W1 := by rw [hW1]; exact (((one_b8 _ _).alloc (by simp) _).alloc (by simp; omega) _).alloc (by simp; omega) _
  have hBL : Below p W W1 := by rw [hp]; exact hBL0
  have hL1 : LiE E W p n (.slice none 0 0) false none 0 [] W1 := by
    refine ⟨?_, ?_, ?_, ?_, ⟨rfl, .inl ⟨rfl, rfl⟩⟩, ?_, by omega⟩
    · rw [hW1, hp]; exact (((Boxed.new W _ _).alloc _).alloc _).alloc _
    · have := Boxed.new (W.alloc (.cells #[.int .i64 (n : Int)] 3)) 45 (.slice none 0 0)
      rw [World.size_alloc, ← hp] at this
      rw [hW1]; exact (this.alloc _).alloc _
    · have := Boxed.new ((W.alloc (.cells #[.int .i64 (n : Int)] 3)).alloc (.cells #[.slice none 0 0] 45)) 4 (.bool false)
      rw [World.size_alloc, World.size_alloc, ← hp] at this
      rw [hW1]; exact this.alloc _
    · have := Boxed.new (((W.alloc (.cells #[.int .i64 (n : Int)] 3)).alloc (.cells #[.slice none 0 0] 45)).alloc (.cells #[.bool false] 4)) 45 (.slice none 0 0)
      rw [World.size_alloc, World.size_alloc, World.size_alloc, ← hp] at this
      rw [hW1]; exact this
    · exact only_of8 hBL0
  have hel : ∀ k, E k → k < p := fun k hk => by rw [hp]; exact hst.lt k hk
  refine (callsIn_wide (n := 9)).1 ?_
  refine callsIn_of_wp_marks Try.func20 rfl trivial ?_ rfl
  simp only [Try.ntmps20, List.size_toArray, List.length_cons, List.length_nil, Nat.reduceAdd, Nat.reduceSub, Array.replicate_succ, Array.replicate_zero, List.push_toArray, List.append_toArray, List.nil_append, List.cons_append]
  gi_wp2_with fail
  rw [← hW1, ← hp]
  clear hW1
  refine rangeE (n := 9) (w := W1) (α := Int) (enc := eI) (L := L) (D := D) (w0 := W) (fun t x => (t.setIfInBounds 11 (.int .i64 x)).setIfInBounds 7 (.int .i64 x)) (co_int p) (gf := g) (lb := lb) (by omega) rfl hen hs (by rw [← hp]; exact hBL) hst ?_ (fun _ => rfl)
    (fun pre X => (∃ a c, LiE E W p n (.slice none 0 0) false a c pre X) ∧ pre.length ≤ n)
    (fun cd pre X => cd = .ret ∧ n < pre.length ∧ ∃ a c, LiE E W p n (.slice a n c) false a c (pre.take n) X) (fun _ X h => by obtain ⟨⟨a, c, h⟩, -⟩ := h; exact h.co) (fun _ _ X h => by obtain ⟨-, -, a, c, h⟩ := h; exact h.co) ?hI ?hIx ?h0 ?assign ?body ?done ?stop
  case hI =>
    rintro s X Y ⟨⟨a, c, q1⟩, q2⟩ ho
    rw [hs1] at ho
    exact ⟨⟨a, c, q1.keep hel ho⟩, q2⟩
  case hIx =>
    rintro cd s X Y ⟨q1, q2, a, c, q3⟩ ho
    rw [hs1] at ho
    exact ⟨q1, q2, a, c, q3.keep hel ho⟩
  case h0 => exact ⟨⟨_, _, hL1⟩, Nat.zero_le _⟩
  case assign =>
    intro l x wx K hK
    clear hp hs1
    simp only [eI]
    simp only [List.setIfInBounds_toArray, List.set_cons_succ, List.set_cons_zero] at hK
    gi_wp2
    exact hK
  case body =>
    rintro l pre x X hl hlX hnl ⟨⟨a, c, q1⟩, q2⟩ hpre
    have hv := q1.co
    obtain ⟨j, hj⟩ : ∃ j, j = pre.length := ⟨_, rfl⟩
    have cm := q1.bm.cell
    have fm := q1.bm.frozen
    have co := q1.bo
    have hrow := q1.ow
    rw [← hj] at co hrow q2
    have c3 := co.cell
    have f3 := co.frozen
    by_cases hq : j < n
    case neg =>
      have hqI : ¬ (j : Int) < (n : Int) := by omega
      have hqI2 : (n : Int) ≤ (j : Int) := by omega
      have hjn : j = n := by omega
      subst hjn
      have c1 := q1.br.cell
      have f1 := q1.br.frozen
      have c2 := q1.bb.cell
      have f2 := q1.bb.frozen
      obtain ⟨X1, hX1⟩ : ∃ X1, X1 = X.setCell ⟨p + 1, 0, none⟩ (.slice a j c) := ⟨_, rfl⟩
      obtain ⟨X2, hX2⟩ : ∃ X2, X2 = X1.setCell ⟨p + 2, 0, none⟩ (.bool false) := ⟨_, rfl⟩
      have r2 : Boxed X1 (p + 2) 4 (.bool false) := by rw [hX1]; exact boxed_at q1.bb (Below.heap_setCell _ _ _ _ (by show p + 2 ≠ p + 1; omega))
      have d2 := r2.cell
      have e2 := r2.frozen
      have hfar : ∀ k, k ≠ p + 1 → k ≠ p + 2 → X2.heap[k]? = X.heap[k]? := fun k h1 h2 => by
        rw [hX2, Below.heap_setCell _ _ _ _ (by exact h2), hX1, Below.heap_setCell _ _ _ _ (by exact h1)]
      have o2 : Only (fun k => p < k ∧ k < p + 4) X X2 := by
        rw [hX2, hX1]
        exact Only.setCell (p := fun k => p < k ∧ k < p + 4) (q := ⟨p + 2, 0, none⟩) (Only.setCell (p := fun k => p < k ∧ k < p + 4) (q := ⟨p + 1, 0, none⟩) (Only.refl _ _) (.inl ⟨by show p < p + 1; omega, by show p + 1 < p + 4; omega⟩) _) (.inl ⟨by show p < p + 2; omega, by show p + 2 < p + 4; omega⟩) _
      have hz2 := o2.size
      have HR : Hid ((co_int p).kb X X2 ∧ LiE E W p j (.slice a j c) false a c ((pre ++ [x]).take j) X2 ∧ j < (pre ++ [x]).length) := by
        have htk : (pre ++ [x]).take j = pre := by rw [hj, List.take_left]
        rw [htk]
        have hrow2 : X2.ownsRow (p + 4) 3 1 (.slice a pre.length c) pre.length (iv pre) := by
          rw [← hj]
          refine own_only9 hrow (fun k hk => ?_)
          obtain ⟨n2, c2', e⟩ := hk
          injection e with e1 _ _
          have : p + 4 ≤ k := by
            rcases hrow.2 with ⟨e, _⟩ | ⟨g', cap, cur, e, hB, hg, _⟩
            · injection e with e _ _; rw [e] at e1; cases e1
            · injection e with e _ _
              rw [e] at e1
              injection e1 with e1
              injection e1 with e1 _ _
              omega
          exact hfar k (by omega) (by omega)
        refine ⟨⟨only_w o2 (fun k hk => .inl hk), fun k hk => .inl ?_⟩, ⟨boxed_at q1.bm (hfar p (by omega) (by omega)), ?_, ?_, ?_, hrow2, q1.bel.trans (only_w o2 (fun k hk => .inl (by omega))), Nat.le_trans q1.sz hz2⟩, by rw [List.length_append, List.length_singleton]; omega⟩
        · rcases hk with hk | ⟨q, hq, n2, c2', hk⟩
          · exact .inl hk
          · rw [List.mem_singleton] at hq
            subst hq
            refine .inr ⟨p + 3, List.mem_singleton.2 rfl, n2, c2', ?_⟩
            rw [← hk]
            simp [World.cell?, hfar (p + 3) (by omega) (by omega)]
        · have h1 : Boxed X1 (p + 1) 45 (.slice a j c) := by rw [hX1]; exact q1.br.set _
          rw [hX2]
          exact boxed_at h1 (Below.heap_setCell _ _ _ _ (by show p + 1 ≠ p + 2; omega))
        · rw [hX2]; exact r2.set _
        · rw [← hj]; exact boxed_at co (hfar (p + 3) (by omega) (by omega))
      rw [hX2, hX1] at HR
      rw [hX1] at d2 e2
      clear hs hst hen hD hs1 hL1 hBL hBL0 hel q1 hv hrow co hpre hl hlX hnl r2 hfar o2 hz2 hX1 hX2 hj hp q2
      simp only [List.setIfInBounds_toArray, List.set_cons_succ, List.set_cons_zero]
      gi_wp2
      exact ⟨HR.out.1, rfl, HR.out.2.2, a, c, HR.out.2.1⟩
    case pos =>
      have hqI : (j : Int) < (n : Int) := by omega
      have hqI2 : ¬ (n : Int) ≤ (j : Int) := by omega
      have HRW := Lib.hid hrow
      have HCO := Lib.hid co
      have HV := Lib.hid hv
      have HSZ : Hid (p + 4 ≤ X.heap.size ∧ j ≤ 100000) := ⟨q1.sz, by omega⟩
      have HSRC : Hid (∀ wz : World, Src Try.prog 1 45 (.slice (some ⟨wz.heap.size, 0, none⟩) 1 1) 1 [.int .i64 x] (wz.alloc (.cells #[.int .i64 x] 3))) := fun wz =>
        Src.ofSlice _ Try.underlying45 ⟨wz.heap.size, 0, none⟩ 1 1 [.int .i64 x] rfl (fun i u hu => by
          rw [add_p9, Lib.cell_of_heap (heap_alloc_new wz _), Nat.zero_add, ← Array.getElem?_toList]
          exact hu) (by simp [Value.oneCell'])
      have HFIN : Hid (∀ (g' c' : Nat) (X2 : World), Boxed X2 (p + 3) 45 (.slice (some ⟨g', 0, none⟩) (j + 1) c') → X2.ownsRow (p + 4) 3 1 (.slice (some ⟨g', 0, none⟩) (j + 1) c') (j + 1) (iv pre ++ [.int .i64 x]) → (co_int p).kb X X2 → (∀ k, k < X.heap.size → k ≠ p + 3 → (Value.slice a j c).ownBlock ≠ some k → X2.heap[k]? = X.heap[k]?) → (∃ a c, LiE E W p n (.slice none 0 0) false a c (pre ++ [x]) X2) ∧ (pre ++ [x]).length ≤ n) := fun g' c' X2 h1 h2 h3 h4 => by
        have hnb : ∀ k, k < p + 4 → (Value.slice a j c).ownBlock ≠ some k := fun k hk e => by
          rcases hrow.2 with ⟨e2, _⟩ | ⟨g2, cap, cur, e2, hB, hg, _⟩
          · rw [e2] at e; simp [Value.ownBlock] at e
          · rw [e2] at e
            have : g2 = k := by simpa [Value.ownBlock] using e
            omega
        have hs := q1.sz
        have hlen : (pre ++ [x]).length = j + 1 := by rw [List.length_append, List.length_singleton, hj]
        refine ⟨⟨some ⟨g', 0, none⟩, c', boxed_at q1.bm (h4 p (by omega) (by omega) (hnb p (by omega))), boxed_at q1.br (h4 (p + 1) (by omega) (by omega) (hnb _ (by omega))), boxed_at q1.bb (h4 (p + 2) (by omega) (by omega) (hnb _ (by omega))), by rw [hlen]; exact h1, ?_, ?_, Nat.le_trans hs h3.1.size⟩, by omega⟩
        · rw [hlen, show iv (pre ++ [x]) = iv pre ++ [.int .i64 x] by simp [iv]]; exact h2
        · refine q1.bel.trans (only_w h3.1 (fun k hk => .inl ?_))
          rcases hk with hk | ⟨q, hq, hk⟩
          · have : p < k := hk.1
            omega
          · have := ((hv.2 q hq).2 k hk).1
            omega
      have HNB : Hid (∀ q2 ∈ [p + 3], (Value.slice a j c).ownBlock ≠ some q2) := fun q2 hq2 e => by
        rw [List.mem_singleton] at hq2
        subst hq2
        rcases hrow.2 with ⟨e2, _⟩ | ⟨g2, cap, cur, e2, hB, hg, _⟩
        · rw [e2] at e; simp [Value.ownBlock] at e
        · rw [e2] at e
          have : g2 = p + 3 := by simpa [Value.ownBlock] using e
          omega
      clear hs hst hen hD hs1 hL1 hBL hBL0 hel q1 hv hrow co hpre hl hlX hnl hj hp q2
      
      simp only [List.setIfInBounds_toArray, List.set_cons_succ, List.set_cons_zero]
      gi_wp2_with (gi_at_builtin; refine wpListIn_append_at _ rfl _ _ 45 rfl (p + 4) 3 i0 (.int .i64 0) 1 8 Try.underlying45 hi0 hz0 hz1 hz2 rfl _ j (iv pre) rfl (HRW.out.alloc _) _ 1 [.int .i64 x] rfl (HSRC.out _) (by have := HSZ.out; unfold maxLen; omega) (by have := HSZ.out; omega) (by have := HSZ.out; simp; omega) ?_; intro v' w3 hown' hg3 hw3
                   obtain ⟨g', cap', rfl⟩ := ownsRow_succ hown'
                   obtain ⟨k1, k2, k3, k4, k5⟩ := co_appended (S := fun k => p < k) (N := p + 4) (M := p + 4) (qs := [p + 3]) (q := p + 3) HV.out (List.mem_singleton.2 rfl) (by decide) HCO.out HRW.out HSZ.out.1 hown' hg3 hw3 HNB.out
                   have c4 := k1.cell
                   have f4 := k1.frozen
                   have HK2 := Lib.hid k2; have HK3 := Lib.hid k3; have HK4 := Lib.hid k4; have HK5 := Lib.hid k5
                   clear hw3 hown' hg3 k1 k2 k3 k4 k5
                   go_frame)
      exact ⟨HK4.out, HFIN.out _ _ _ HK2.out HK3.out HK4.out HK5.out⟩
  case done =>
    rintro Dn X hDn ⟨⟨a, c, q1⟩, q2⟩ hse hK hnD
    obtain ⟨j, hj⟩ : ∃ j, j = L.length := ⟨_, rfl⟩
    have co := q1.bo
    have hrow := q1.ow
    rw [← hj] at co hrow q2
    have c3 := co.cell
    have c1 := q1.br.cell
    have f1 := q1.br.frozen
    obtain ⟨X1, hX1⟩ : ∃ X1, X1 = X.setCell ⟨p + 1, 0, none⟩ (.slice a j c) := ⟨_, rfl⟩
    obtain ⟨X2, hX2⟩ : ∃ X2, X2 = X1.setCell ⟨p + 2, 0, none⟩ (.bool true) := ⟨_, rfl⟩
    have r1 : Boxed X1 (p + 1) 45 (.slice a j c) := by rw [hX1]; exact q1.br.set _
    have r2 : Boxed X1 (p + 2) 4 (.bool false) := by rw [hX1]; exact boxed_at q1.bb (Below.heap_setCell _ _ _ _ (by show p + 2 ≠ p + 1; omega))
    have d2 := r2.cell
    have e2 := r2.frozen
    have s2 : Boxed X2 (p + 2) 4 (.bool true) := by rw [hX2]; exact r2.set _
    have s1 : Boxed X2 (p + 1) 45 (.slice a j c) := by rw [hX2]; exact boxed_at r1 (Below.heap_setCell _ _ _ _ (by show p + 1 ≠ p + 2; omega))
    have hfar : ∀ k, k ≠ p + 1 → k ≠ p + 2 → X2.heap[k]? = X.heap[k]? := fun k h1 h2 => by
      rw [hX2, Below.heap_setCell _ _ _ _ (by exact h2), hX1, Below.heap_setCell _ _ _ _ (by exact h1)]
    have o2 : Only (fun k => p < k ∧ k < p + 4) X X2 := by
      rw [hX2, hX1]
      exact Only.setCell (p := fun k => p < k ∧ k < p + 4) (q := ⟨p + 2, 0, none⟩) (Only.setCell (p := fun k => p < k ∧ k < p + 4) (q := ⟨p + 1, 0, none⟩) (Only.refl _ _) (.inl ⟨by show p < p + 1; omega, by show p + 1 < p + 4; omega⟩) _) (.inl ⟨by show p < p + 2; omega, by show p + 2 < p + 4; omega⟩) _
    have hz2 := o2.size
    have hsz := q1.sz
    have hD2 : X2.heap[Dn]? = some (.deferred (some [])) := (hfar Dn (by omega) (by omega)).trans hK
    have hrow2 : X2.ownsRow (p + 4) 3 1 (.slice a j c) j (iv L) := by
      refine own_only9 hrow (fun k hk => ?_)
      obtain ⟨n2, c2', e⟩ := hk
      injection e with e1 _ _
      have : p + 4 ≤ k := by
        rcases hrow.2 with ⟨e, _⟩ | ⟨g', cap, cur, e, hB, hg, _⟩
        · injection e with e _ _; rw [e] at e1; cases e1
        · injection e with e _ _
          rw [e] at e1
          injection e1 with e1
          injection e1 with e1 _ _
          omega
      exact hfar k (by omega) (by omega)
    have o3 := only_put X2 Dn (.deferred none)
    have HF : Hid (X2.heap[Dn]? = some (.deferred (some [])) ∧ (X2.putObj Dn (.deferred none)).cell? ⟨p + 1, 0, none⟩ = some (.slice a j c) ∧ (X2.putObj Dn (.deferred none)).cell? ⟨p + 2, 0, none⟩ = some (.bool true) ∧ (true = decide (L.length ≤ n) ∧ Rv (fun k => k < W.heap.size ∨ (X2.putObj Dn (.deferred none)).heap.size ≤ k) a j c (iv (L.take n)) (X2.putObj Dn (.deferred none)) ∧ (L.length ≤ n → Se (X2.putObj Dn (.deferred none))) ∧ Only (fun k => W.heap.size ≤ k ∨ E k) W (X2.putObj Dn (.deferred none)))) := by
      refine ⟨hD2, (boxed_at s1 (o3.block _ s1.lt (fun e => by omega))).cell, (boxed_at s2 (o3.block _ s2.lt (fun e => by omega))).cell, ⟨by simp; omega, ?_, ?_, ?_⟩⟩
      · rw [List.take_of_length_le (by omega)]
        exact rv_own9 (ownsRow_putObj hrow2 _ hD2 rfl) (by omega)
      · exact fun _ => hst.se _ _ hse (fun k hk => (o3.block k (by have := hel k hk; have := o2.size; omega) (fun e => by have := hel k hk; omega)).trans (hfar k (by have := hel k hk; omega) (by have := hel k hk; omega)))
      · rw [← hp]
        exact (q1.bel.trans (only_w o2 (fun k hk => .inl (by omega)))).trans (only_w o3 (fun k hk => .inl (by omega)))
    rw [hX2, hX1] at HF
    rw [hX1] at d2 e2
    clear hs hst hen hD hs1 hL1 hBL hBL0 hel q1 hrow co hnD r1 r2 s1 s2 hfar o2 hz2 hX1 hX2 hj hp q2 o3 hrow2 hD2 hK hDn hsz
    gi_wp2
    refine ⟨by simp, .inl ⟨_, _, rfl, run_takeDeferred HF.out.1, ?_⟩⟩
    exact ⟨_, results_lb_int rfl _ _ (p + 1) (p + 2) a j c true rfl rfl HF.out.2.1 HF.out.2.2.1, _, _, _, _, rfl, HF.out.2.2.2⟩
  case stop =>
    rintro Dn cd pre X hDn hpre ⟨rfl, q2, a, c, q3⟩ hse hK hnD
    obtain ⟨t, rfl⟩ := hpre
    have hlen : (pre.take n).length = n := by rw [List.length_take]; omega
    have hrow := q3.ow
    rw [hlen] at hrow
    have o3 := only_put X Dn (.deferred none)
    have hsz := q3.sz
    have HF : Hid (X.heap[Dn]? = some (.deferred (some [])) ∧ (X.putObj Dn (.deferred none)).cell? ⟨p + 1, 0, none⟩ = some (.slice a n c) ∧ (X.putObj Dn (.deferred none)).cell? ⟨p + 2, 0, none⟩ = some (.bool false) ∧ (false = decide ((pre ++ t).length ≤ n) ∧ Rv (fun k => k < W.heap.size ∨ (X.putObj Dn (.deferred none)).heap.size ≤ k) a n c (iv ((pre ++ t).take n)) (X.putObj Dn (.deferred none)) ∧ ((pre ++ t).length ≤ n → Se (X.putObj Dn (.deferred none))) ∧ Only (fun k => W.heap.size ≤ k ∨ E k) W (X.putObj Dn (.deferred none)))) := by
      refine ⟨hK, (boxed_at q3.br (o3.block _ q3.br.lt (fun e => by omega))).cell, (boxed_at q3.bb (o3.block _ q3.bb.lt (fun e => by omega))).cell, ⟨by simp; omega, ?_, ?_, ?_⟩⟩
      · rw [List.take_append_of_le_length (by omega)]
        exact rv_own9 (ownsRow_putObj hrow _ hK rfl) (by omega)
      · exact fun h => by rw [List.length_append] at h; omega
      · rw [← hp]
        exact q3.bel.trans (only_w o3 (fun k hk => .inl (by omega)))
    clear hs hst hen hD hs1 hL1 hBL hBL0 hel q3 hrow hnD hp q2 o3 hK hDn hsz hlen
    gi_wp2
    refine ⟨by simp, .inl ⟨_, _, rfl, run_takeDeferred HF.out.1, ?_⟩⟩
    exact ⟨_, results_lb_int rfl _ _ (p + 1) (p + 2) a n c false rfl rfl HF.out.2.1 HF.out.2.2.1, _, _, _, _, rfl, HF.out.2.2.2⟩
  · intro X k hv hk
    have : p ≤ k := by
      rcases hk with hk | ⟨q, hq, hk⟩
      · have h : p < k := hk.1
        omega
      · have := ((hv.2 q hq).2 k hk).1
        omega
    exact ⟨hD k (by omega), fun e => by have := hel k e; omega⟩
end Go.Proofs.Ytdchapcpimhjaaa
