/- Layer 9: Map, over a walk that writes blocks besides; what is handed over counts in a block. -/
import Derived.Test.YtdchapcpimhjaaaWlkEa
import Derived.Test.YtdchapcpimhjaaaWlkBa
namespace Go.Proofs.Ytdchapcpimhjaaa
open Go.RowKit Go.Shelf

attribute [local go_sem] Oper.semAt_some

/-- a box that holds a number -/
def cnt9 (T : Nat) (n : Nat) (X : World) : Prop := Boxed X T 3 (.int .i64 (n : Int))
theorem cnt9_at {T n : Nat} {X Y : World} (h : cnt9 T n X) (e : Y.heap[T]? = X.heap[T]?) : cnt9 T n Y := boxed_at h e
set_option maxHeartbeats 1000000 in
set_option maxRecDepth 100000 in
theorem filters_turn {T n : Nat} {v : Int} {Y : World} (hb : cnt9 T n Y) (hn : n ≤ 1000) (hv0 : 0 ≤ v) (hv : v ≤ 1000) :
    Calls Try.prog 19 #[.int .i64 v, .pointer (some ⟨T, 0, none⟩)] Y fun e Y' => e = .returned (.int .i64 (2 * v)) ∧ Y' = Y.setCell ⟨T, 0, none⟩ (.int .i64 ((n : Int) + 1)) := by
  have c0 := hb.cell
  have f0 := hb.frozen
  clear hb
  go_enter Try.func19, Try.ntmps19
  go_wp2
  go_ret
  exact ⟨rfl, rfl⟩
def dbl9 (v : Int) : Int := 2 * v
set_option maxHeartbeats 4000000 in
set_option maxRecDepth 100000 in
theorem wlk_map1 {E : Nat → Prop} {St : Nat → World → Prop} {Se : World → Prop} {B0 B1 T g : Nat} {lb : Array Value} {L : List Int} {D : Nat → Prop} {w : World} (hs : SeqE E St Se g lb eI L D w) (hst : Stat E w.heap.size St Se) (hen : ∀ args w, (callFunc g args).run Try.prog w = .ok (.enter g args) w) (hD : ∀ k, w.heap.size ≤ k → D k)
    (hT : cnt9 T 0 w) (hTD : D T) (hTE : ¬ E T) (hL : L.length ≤ 60) (hLv : ∀ x ∈ L, 0 ≤ x ∧ x ≤ 1000) (hBE : ¬ E B1)
    (hb0 : w.cell? ⟨B0, 0, none⟩ = some (.func (.func g) #[] lb)) (hb1 : w.cell? ⟨B1, 0, none⟩ = some (.func (.func 19) #[] #[.pointer (some ⟨T, 0, none⟩)])) (hl0 : B0 < w.heap.size) (hl1 : B1 < w.heap.size) :
    SeqE (fun k => E k ∨ k = T) (fun n X => St n X ∧ cnt9 T n X) (fun X => Se X ∧ cnt9 T L.length X) 44 #[.pointer (some ⟨B0, 0, none⟩), .pointer (some ⟨B1, 0, none⟩)] eI (L.map dbl9) (fun k => D k ∧ k ≠ B1) w := fun m cc ly J Jx W hbw hcD hlw hlW hJV hJ hJx hJxV hY h0 => by
  have c0 : W.cell? ⟨B0, 0, none⟩ = some (.func (.func g) #[] lb) := (hbw.cell (p := ⟨B0, 0, none⟩) hl0).trans hb0
  have c1 : W.cell? ⟨B1, 0, none⟩ = some (.func (.func 19) #[] #[.pointer (some ⟨T, 0, none⟩)]) := (hbw.cell (p := ⟨B1, 0, none⟩) hl1).trans hb1
  have hTl : T < w.heap.size := hT.lt
  have hTW : cnt9 T 0 W := cnt9_at hT (hbw.block T hTl)
  have hsz := hbw.size
  have hk0 : B0 < W.heap.size := by omega
  have hk1 : B1 < W.heap.size := by omega
  have hBT : B1 ≠ T := fun e => by rw [e] at hb1; rw [Boxed.cell hT] at hb1; cases hb1
  have hnf : ∀ w, (binOp .eql 41 (.func (.func g) #[] lb) .nilFunc).run Try.prog w = .ok (.bool false) w := fun w => rfl
  have hnf2 : ∀ w, (binOp .eql 44 (.func (.func 19) #[] #[.pointer (some ⟨T, 0, none⟩)]) .nilFunc).run Try.prog w = .ok (.bool false) w := fun w => rfl
  obtain ⟨p, hp⟩ : ∃ p, p = W.heap.size := ⟨_, rfl⟩
  have hlo : LoE (fun k => E k ∨ k = T) cc ly p J Jx := ⟨by omega, hJV, by rw [hp]; exact hJ, by rw [hp]; exact hJx, hJxV, fun k hk => by
    rcases hk with hk | rfl
    · have := hst.lt k hk; omega
    · omega, fun X k a b => (hcD X k a b).2⟩
  clear hJV hJ hJx hJxV
  obtain ⟨W1, hW1⟩ : ∃ W1, W1 = W.alloc (.cells #[.func (.yield ly) #[] #[]] 75) := ⟨_, rfl⟩
  have hs1 : W1.heap.size = p + 1 := by rw [hW1, hp]; simp
  have bY : Boxed W1 p 75 (.func (.yield ly) #[] #[]) := by rw [hW1, hp]; exact Boxed.new W _ _
  obtain ⟨hz1, hJ1⟩ := hlo.zs (q := p + 1) hp h0 (by rw [hW1]; exact only_new _ W _) hs1.symm (by omega) bY.cell
  have hB1 : Below W.heap.size W W1 := by rw [hW1]; exact one_b8 _ _
  have hb1' : Below w.heap.size w W1 := hbw.trans (hB1.mono hsz)
  have hT1 : cnt9 T 0 W1 := cnt9_at hTW (hB1.block T (by omega))
  have d1 : W1.cell? ⟨B1, 0, none⟩ = some (.func (.func 19) #[] #[.pointer (some ⟨T, 0, none⟩)]) := (hB1.cell (p := ⟨B1, 0, none⟩) hk1).trans c1
  have hF : ∀ k, (fun k => k = T) k → (fun k => E k ∨ k = T) k := fun _ h => .inr h
  have hEi : ∀ k, E k → (fun k => E k ∨ k = T) k := fun _ h => .inl h
  refine callsIn_wide.2 ((callsIn_wide (n := 9)).1 ?_)
  refine callsIn_of_wp_marks Try.func44 rfl trivial ?_ rfl
  simp only [Try.ntmps44, List.size_toArray, List.length_cons, List.length_nil, Nat.reduceAdd, Nat.reduceSub, Array.replicate_succ, Array.replicate_zero, List.push_toArray, List.append_toArray, List.nil_append, List.cons_append]
  gi_wp2_with fail
  rw [← hW1, ← hp]
  clear hW1
  refine rangeE (n := 9) (w := W1) (α := Int) (enc := eI) (L := L) (D := D) (w0 := w) (fun t x => (t.setIfInBounds 12 (.int .i64 x)).setIfInBounds 4 (.int .i64 x)) (c9F cc ly p (p + 1) (fun k => k = T)) (gf := g) (lb := lb) (by omega) rfl hen hs hb1' hst ?_ (fun _ => rfl)
    (fun pre X => J (pre.map dbl9) X ∧ Zs cc ly p (p + 1) X ∧ cnt9 T pre.length X ∧ X.cell? ⟨B1, 0, none⟩ = some (.func (.func 19) #[] #[.pointer (some ⟨T, 0, none⟩)]))
    (fun cd pre X => cd = .ret ∧ Zs cc ly p (p + 1) X ∧ Jx (pre.map dbl9) X ∧ cnt9 T pre.length X) (fun _ X h => hlo.co hF h.2.1) (fun _ _ X h => hlo.co hF h.2.1) ?hI ?hIx ?h0 ?assign ?body ?done ?stop
  case hI =>
    rintro s X Y ⟨q2, q3, q4, q5⟩ ho
    rw [hs1] at ho
    have ho2 := hlo.only hEi q3 ho
    have hX := q3.sz
    refine ⟨hlo.jk q2 ho2, hlo.keep q3 ho2, cnt9_at q4 (hlo.ownF hF ho q3 rfl), (cell_only8 ho (q := ⟨B1, 0, none⟩) (by show B1 < X.heap.size; omega) (fun e => ?_)).trans q5⟩
    rcases e.1 with e | e
    · have e : p + 1 ≤ B1 := e
      omega
    · exact hBE e
  case hIx =>
    rintro cd s X Y ⟨q1, q3, q2, q4⟩ ho
    rw [hs1] at ho
    have ho2 := hlo.only hEi q3 ho
    exact ⟨q1, hlo.keep q3 ho2, hlo.xk q2 ho2, cnt9_at q4 (hlo.ownF hF ho q3 rfl)⟩
  case h0 => exact ⟨hJ1, hz1, hT1, d1⟩
  case assign =>
    intro l x wx K hK
    clear hp hs1
    simp only [eI]
    simp only [List.setIfInBounds_toArray, List.set_cons_succ, List.set_cons_zero] at hK
    gi_wp2
    exact hK
  case body =>
    rintro l pre x X hl hlX hnl ⟨q2, q3, q4, q5⟩ hpre
    have hmp : (pre ++ [x]).map dbl9 = pre.map dbl9 ++ [dbl9 x] := by rw [List.map_append]; rfl
    have hxL : x ∈ L := by obtain ⟨t, rfl⟩ := hpre; simp
    obtain ⟨hx0, hx1⟩ := hLv x hxL
    obtain ⟨n, hn⟩ : ∃ n, n = pre.length := ⟨_, rfl⟩
    rw [← hn] at q4
    have hn60 : n ≤ 1000 := by have := hpre.length_le; rw [List.length_append, List.length_singleton] at this; omega
    have hX := q3.sz
    have hdr : Below X.heap.size X X.drew := below_dr8 X
    have t1 : cnt9 T n X.drew := cnt9_at q4 (hdr.block T (by omega))
    obtain ⟨X1, hX1⟩ : ∃ X1, X1 = X.drew.setCell ⟨T, 0, none⟩ (.int .i64 ((n : Int) + 1)) := ⟨_, rfl⟩
    have t2 : cnt9 T (n + 1) X1 := by rw [hX1]; exact t1.set _
    have o1 : Only (fun k => (p < k ∧ k < p + 1) ∨ (fun k => k = T) k) X X1 := by
      rw [hX1]
      exact Only.setCell (p := fun k => (p < k ∧ k < p + 1) ∨ k = T) (q := ⟨T, 0, none⟩) (only_of8 hdr) (.inl (.inr rfl)) _
    obtain ⟨o2, k1⟩ := hlo.wr hF q3 o1
    have z1 := hlo.keep q3 o2
    have j1 := hlo.jk q2 o2
    obtain ⟨fn, tmps, assign, body, hyy, hR⟩ := hlo.call hF (l := l) (m' := 6) hY j1 z1 (x := dbl9 x) (by rw [← hmp]; exact prefix_map9 _ hpre)
    simp only [eI, dbl9] at hyy
    have HTU : Hid (Calls Try.prog 19 #[.int .i64 x, .pointer (some ⟨T, 0, none⟩)] X.drew fun e Y' => e = .returned (.int .i64 (2 * x)) ∧ Y' = X1) := by rw [hX1]; exact filters_turn t1 hn60 hx0 hx1
    have HR : Hid (RoundIn (Fence.wide.inRound l) 6 Try.prog ly fn tmps assign body X1 fun e W' => ∃ b : Bool, e = .returned (.bool b) ∧ Hid ((c9F cc ly p (p + 1) (fun k => k = T)).kb X W' ∧ Zs cc ly p (p + 1) W' ∧ cnt9 T (pre ++ [x]).length W' ∧ W'.cell? ⟨B1, 0, none⟩ = some (.func (.func 19) #[] #[.pointer (some ⟨T, 0, none⟩)]) ∧ (b = true → J ((pre ++ [x]).map dbl9) W') ∧ (b = false → Jx ((pre ++ [x]).map dbl9) W'))) := by
      refine hR.mono ?_
      rintro e W' ⟨b, rfl, hd⟩
      have hd := hd.out
      refine ⟨b, rfl, Co.kb_trans k1 hd.kb, hd.z, ?_, ?_, ?_, ?_⟩
      · rw [List.length_append, List.length_singleton, ← hn]
        exact cnt9_at t2 (hd.ownE T rfl)
      · have e1 : X1.cell? ⟨B1, 0, none⟩ = X.cell? ⟨B1, 0, none⟩ := cell_only8 o1 (q := ⟨B1, 0, none⟩) (by show B1 < X.heap.size; omega) (fun e => by
          rcases e with e | e
          · have e : p < B1 ∧ B1 < p + 1 := e
            omega
          · exact hBT e)
        rw [← q5, ← e1]
        refine cell_only8 hd.kb.1 (q := ⟨B1, 0, none⟩) (by show B1 < X1.heap.size; have := z1.sz; omega) (fun h => ?_)
        rcases h with h | ⟨h | h | h, h3⟩
        · exact (hcD X1 B1 z1.v h).1.2 rfl
        · exact absurd (show B1 = ly from h) (by omega)
        · exact absurd (show p < B1 from h) (by omega)
        · exact hBT h
      · rw [hmp]; exact hd.go
      · rw [hmp]; exact hd.stop
    have cY := q3.y
    have cYd : X.drew.cell? ⟨p, 0, none⟩ = some (.func (.yield ly) #[] #[]) := (hdr.cell (p := ⟨p, 0, none⟩) (by show p < X.heap.size; omega)).trans cY
    have cY1 := z1.y
    have cTd : X.drew.cell? ⟨B1, 0, none⟩ = some (.func (.func 19) #[] #[.pointer (some ⟨T, 0, none⟩)]) := (hdr.cell (p := ⟨B1, 0, none⟩) (by show B1 < X.heap.size; omega)).trans q5
    clear hlo hY hp hs1 hs hst hz1 hJ1 hb1' q2 q3 q4 bY h0 hR hmp hpre hF hEi hB1 hT1 d1 hTW hbw hcD hlw hlW hD hT hb0 hb1 hl0 hl1 hTl hxL hLv hL hX hdr t1 t2 o1 o2 k1 z1 j1 hn hX1 hBE
    simp only [List.setIfInBounds_toArray, List.set_cons_succ, List.set_cons_zero]
    gi_wp2_with fail
    have hmix : Try.prog.follows .mixedOrders = true := by kernel_rfl
    gi_region_with_o (first
      | ((try refine ⟨trivial, ?_⟩); (try refine ⟨fun h => (by cases h), ?_⟩); refine (CallsIn.inRound l (callsIn_wide.2 HTU.out)).mono ?_; rintro e w1 ⟨rfl, rfl⟩)
      | ((try refine ⟨fun h => (by cases h), ?_⟩); refine HR.out.mono ?_; rintro e1 W2 ⟨b, rfl, hB⟩))
    all_goals
      have HB := Lib.hid hB.out
      clear hB HR hyy HTU
      cases b with
      | true =>
        gi_wp2
        exact ⟨HB.out.1, HB.out.2.2.2.2.1 (by trivial), HB.out.2.1, HB.out.2.2.1, HB.out.2.2.2.1⟩
      | false =>
        gi_wp2
        exact ⟨HB.out.1, rfl, HB.out.2.1, HB.out.2.2.2.2.2 (by trivial), HB.out.2.2.1⟩
  case done =>
    rintro Dn X hDn ⟨q2, q3, q4, -⟩ hse hK hnD
    have HE : Hid (J (L.map dbl9) (X.putObj Dn (.deferred none)) ∧ Se (X.putObj Dn (.deferred none)) ∧ cnt9 T L.length (X.putObj Dn (.deferred none))) := ⟨hlo.jk q2 (only_w (only_put X Dn _) (fun k hk => by subst hk; exact ⟨.inl (by omega), fun h => hnD (.inl h)⟩)), hst.se _ _ hse (fun k hk => World.putObj_heap_other (by have := hst.lt k hk; omega)), cnt9_at q4 (World.putObj_heap_other (by omega))⟩
    have HK := Lib.hid hK
    clear hlo hY hp hs1 hs hst hz1 hJ1 hb1' q2 q3 q4 bY h0 hK hnD hDn hF hEi hse hB1 hT1 d1 hTW hbw hcD hlw hlW hD hT hb0 hb1 hl0 hl1 hTl hLv hL hBE
    gi_wp2
    refine ⟨by simp, .inl ⟨_, _, rfl, run_takeDeferred HK.out, ?_⟩⟩
    exact ⟨_, results_none rfl _ _ _, ⟨_, rfl⟩, .inl HE.out⟩
  case stop =>
    rintro Dn cd pre X hDn hpre ⟨rfl, q3, q2, q4⟩ hse hK hnD
    have HE : Hid (∃ pre, pre <+: L.map dbl9 ∧ Jx pre (X.putObj Dn (.deferred none)) ∧ St pre.length (X.putObj Dn (.deferred none)) ∧ cnt9 T pre.length (X.putObj Dn (.deferred none))) := ⟨_, prefix_map9 _ hpre, hlo.xk q2 (only_w (only_put X Dn _) (fun k hk => by subst hk; exact ⟨.inl (by omega), fun h => hnD (.inl h)⟩)), by
      rw [List.length_map]
      exact ⟨hst.st _ _ _ hse (fun k hk => World.putObj_heap_other (by have := hst.lt k hk; omega)), cnt9_at q4 (World.putObj_heap_other (by omega))⟩⟩
    have HK := Lib.hid hK
    clear hlo hY hp hs1 hs hst hz1 hJ1 hb1' q2 q3 q4 bY h0 hK hnD hDn hF hEi hse hB1 hT1 d1 hTW hbw hcD hlw hlW hD hT hb0 hb1 hl0 hl1 hTl hLv hL hBE hpre
    gi_wp2
    refine ⟨by simp, .inl ⟨_, _, rfl, run_takeDeferred HK.out, ?_⟩⟩
    exact ⟨_, results_none rfl _ _ _, ⟨_, rfl⟩, .inr HE.out⟩
  · exact c9F_D (fun X k a b => ⟨(hcD X k a b).1.1, (hcD X k a b).2⟩) hEi hlo.el hlo.lt (fun k hk => by subst hk; exact ⟨hTD, hTE⟩) hD hlw
set_option maxHeartbeats 1000000 in
set_option maxRecDepth 100000 in
theorem wlk_map {E : Nat → Prop} {St : Nat → World → Prop} {Se : World → Prop} {T g : Nat} {lb : Array Value} {L : List Int} {D : Nat → Prop} {w : World} (hs : SeqE E St Se g lb eI L D w) (hst : Stat E w.heap.size St Se) (hen : ∀ args w, (callFunc g args).run Try.prog w = .ok (.enter g args) w) (hD : ∀ k, w.heap.size ≤ k → D k)
    (hT : cnt9 T 0 w) (hTD : D T) (hTE : ¬ E T) (hL : L.length ≤ 60) (hLv : ∀ x ∈ L, 0 ≤ x ∧ x ≤ 1000) :
    Calls Try.prog 17 #[.func (.func g) #[] lb, .func (.func 19) #[] #[.pointer (some ⟨T, 0, none⟩)]] w fun e w' => ∃ g2 lb2, e = .returned (.func (.func g2) #[] lb2) ∧ Hid ((∀ args w, (callFunc g2 args).run Try.prog w = .ok (.enter g2 args) w) ∧ ∃ D2 : Nat → Prop, (∀ k, w'.heap.size ≤ k → D2 k) ∧ SeqE (fun k => E k ∨ k = T) (fun n X => St n X ∧ cnt9 T n X) (fun X => Se X ∧ cnt9 T L.length X) g2 lb2 eI (L.map dbl9) D2 w') ∧ Below w.heap.size w w' := by
  have HS := Lib.hid hs; have HE := Lib.hid hen; have HD := Lib.hid hD; have HST := Lib.hid hst; have HT := Lib.hid hT; have HTD := Lib.hid hTD; have HTE := Lib.hid hTE; have HL := Lib.hid hL; have HLV := Lib.hid hLv
  clear hs hen hD hst hT hTD hTE hL hLv
  go_enter Try.func17, Try.ntmps17
  go_wp2
  go_ret
  have hb : Below w.heap.size w ((w.alloc (.cells #[.func (.func g) #[] lb] 41)).alloc (.cells #[.func (.func 19) #[] #[.pointer (some ⟨T, 0, none⟩)]] 44)) := (one_b8 _ _).alloc (by simp) _
  have b0 := ((Boxed.new w 41 (.func (.func g) #[] lb)).alloc (.cells #[.func (.func 19) #[] #[.pointer (some ⟨T, 0, none⟩)]] 44)).cell
  have b1 := (Boxed.new (w.alloc (.cells #[.func (.func g) #[] lb] 41)) 44 (.func (.func 19) #[] #[.pointer (some ⟨T, 0, none⟩)])).cell
  rw [World.size_alloc] at b1
  refine ⟨_, _, rfl, ⟨enters_of Try.func44 (by kernel_rfl) rfl, _, ?_, wlk_map1 (HS.out.below hb) (HST.out.up (by simp; omega)) HE.out (fun k hk => HD.out k (by simp at hk; omega)) (cnt9_at HT.out (hb.block T HT.out.lt)) HTD.out HTE.out HL.out HLV.out (fun e => by have := HST.out.lt _ e; omega) b0 b1 (by simp; omega) (by simp)⟩, hb⟩
  intro k hk
  simp at hk
  exact ⟨HD.out k (by omega), by omega⟩
end Go.Proofs.Ytdchapcpimhjaaa
/- Layer 9: Keys; Filter that keeps all. -/
namespace Go.Proofs.Ytdchapcpimhjaaa
open Go.RowKit Go.Shelf

attribute [local go_sem] Oper.semAt_some

set_option maxHeartbeats 4000000 in
set_option maxRecDepth 100000 in
theorem wlk_keys1 {B0 g : Nat} {lb : Array Value} {L : List Tm.E} {D : Nat → Prop} {w : World} (hs : SeqX g lb en9 L D w) (hen : ∀ args w, (callFunc g args).run Try.prog w = .ok (.enter g args) w) (hD : ∀ k, w.heap.size ≤ k → D k)
    (hb0 : w.cell? ⟨B0, 0, none⟩ = some (.func (.func g) #[] lb)) (hl0 : B0 < w.heap.size) :
    SeqX 47 #[.pointer (some ⟨B0, 0, none⟩)] eS (L.map (·.1)) D w := fun m cc ly J Jx W hbw hcD hlw hlW hJV hJ hJx hJxV hY h0 => by
  have c0 : W.cell? ⟨B0, 0, none⟩ = some (.func (.func g) #[] lb) := (hbw.cell (p := ⟨B0, 0, none⟩) hl0).trans hb0
  have hsz := hbw.size
  have hk0 : B0 < W.heap.size := by omega
  have hnf : ∀ w, (binOp .eql 31 (.func (.func g) #[] lb) .nilFunc).run Try.prog w = .ok (.bool false) w := fun w => rfl
  obtain ⟨p, hp⟩ : ∃ p, p = W.heap.size := ⟨_, rfl⟩
  have hlo : Lo cc ly p J Jx := ⟨by omega, hJV, by rw [hp]; exact hJ, by rw [hp]; exact hJx, hJxV⟩
  clear hJV hJ hJx hJxV
  obtain ⟨W1, hW1⟩ : ∃ W1, W1 = W.alloc (.cells #[.func (.yield ly) #[] #[]] 76) := ⟨_, rfl⟩
  have hs1 : W1.heap.size = p + 1 := by rw [hW1, hp]; simp
  have bY : Boxed W1 p 76 (.func (.yield ly) #[] #[]) := by rw [hW1, hp]; exact Boxed.new W _ _
  obtain ⟨hz1, hJ1⟩ := hlo.zs (q := p + 1) hp h0 (by rw [hW1]; exact only_new _ W _) hs1.symm (by omega) bY.cell
  have hb1' : Below w.heap.size w W1 := by rw [hW1]; exact hbw.alloc hsz _
  refine callsIn_wide.2 ((callsIn_wide (n := 9)).1 ?_)
  refine callsIn_of_wp_marks Try.func47 rfl trivial ?_ rfl
  simp only [Try.ntmps47, List.size_toArray, List.length_cons, List.length_nil, Nat.reduceAdd, Nat.reduceSub, Array.replicate_succ, Array.replicate_zero, List.push_toArray, List.append_toArray, List.nil_append, List.cons_append]
  gi_wp2_with fail
  rw [← hW1, ← hp]
  clear hW1
  refine rangeX (n := 9) (w := W1) (α := Tm.E) (enc := en9) (L := L) (D := D) (w0 := w) (fun t x => ((t.setIfInBounds 7 (.string (bstr x.1))).setIfInBounds 8 (.int .i64 x.2)).setIfInBounds 3 (.string (bstr x.1))) (c9 cc ly p (p + 1)) (gf := g) (lb := lb) (by omega) rfl hen hs hb1' ?_ (fun _ => rfl)
    (fun pre X => J (pre.map (·.1)) X ∧ Zs cc ly p (p + 1) X)
    (fun cd pre X => cd = .ret ∧ Zs cc ly p (p + 1) X ∧ Jx (pre.map (·.1)) X) (fun _ X h => h.2.co) (fun _ _ X h => h.2.1.co) ?hI ?hIx ?h0 ?assign ?body ?done ?stop
  case hI =>
    rintro s X Y ⟨q2, q3⟩ ho
    rw [hs1] at ho
    exact ⟨hlo.jk q2 (q3.only ho), q3.keep (q3.only ho)⟩
  case hIx =>
    rintro cd s X Y ⟨q1, q3, q2⟩ ho
    rw [hs1] at ho
    exact ⟨q1, q3.keep (q3.only ho), hlo.xk q2 (q3.only ho)⟩
  case h0 => exact ⟨hJ1, hz1⟩
  case assign =>
    intro l x wx K hK
    clear hp hs1
    simp only [en9]
    simp only [List.setIfInBounds_toArray, List.set_cons_succ, List.set_cons_zero] at hK
    gi_wp2
    exact hK
  case body =>
    rintro l pre x X hl hlX hnl ⟨q2, q3⟩ hpre
    have hmp : (pre ++ [x]).map (·.1) = pre.map (·.1) ++ [x.1] := by rw [List.map_append]; rfl
    obtain ⟨fn, tmps, assign, body, hyy, hR⟩ := hlo.call (l := l) (m' := 6) hY q2 q3 (x := x.1) (by rw [← hmp]; exact prefix_map9 _ hpre)
    simp only [eS] at hyy
    have cY := q3.y
    have HR := Lib.hid hR
    have HMP := Lib.hid hmp
    clear hlo hY hp hs1 hs hz1 hJ1 hb1' q2 q3 bY h0 hR hmp hpre
    simp only [List.setIfInBounds_toArray, List.set_cons_succ, List.set_cons_zero]
    gi_wp2_with fail
    refine HR.out.mono ?_
    rintro e1 W2 ⟨b, rfl, hB⟩
    have HB := Lib.hid hB.out
    clear hB HR hyy
    cases b with
    | true =>
      gi_wp2
      refine ⟨HB.out.kb, ?_, HB.out.z⟩
      rw [HMP.out]
      exact HB.out.go rfl
    | false =>
      gi_wp2
      refine ⟨HB.out.kb, rfl, HB.out.z, ?_⟩
      rw [HMP.out]
      exact HB.out.stop rfl
  case done =>
    rintro Dn X hDn ⟨q2, q3⟩ hK hnD
    have HE : Hid (J (L.map (·.1)) (X.putObj Dn (.deferred none))) := hlo.jk q2 (only_w (only_put X Dn _) (fun k hk => by subst hk; exact ⟨by omega, fun h => hnD (.inl h)⟩))
    have HK := Lib.hid hK
    clear hlo hY hp hs1 hs hz1 hJ1 hb1' q2 q3 bY h0 hK hnD hDn
    gi_wp2
    refine ⟨by simp, .inl ⟨_, _, rfl, run_takeDeferred HK.out, ?_⟩⟩
    exact ⟨_, results_none rfl _ _ _, ⟨_, rfl⟩, .inl HE.out⟩
  case stop =>
    rintro Dn cd pre X hDn hpre ⟨rfl, q3, q2⟩ hK hnD
    have HE : Hid (∃ pre, pre <+: (L.map (·.1)) ∧ Jx pre (X.putObj Dn (.deferred none))) := ⟨_, prefix_map9 _ hpre, hlo.xk q2 (only_w (only_put X Dn _) (fun k hk => by subst hk; exact ⟨by omega, fun h => hnD (.inl h)⟩))⟩
    have HK := Lib.hid hK
    clear hlo hY hp hs1 hs hz1 hJ1 hb1' q2 q3 bY h0 hK hnD hDn hpre
    gi_wp2
    refine ⟨by simp, .inl ⟨_, _, rfl, run_takeDeferred HK.out, ?_⟩⟩
    exact ⟨_, results_none rfl _ _ _, ⟨_, rfl⟩, .inr HE.out⟩
  · intro X k hv hk
    rcases hk with hk | ⟨rfl | hk, -⟩
    · exact hcD X k hv.1 hk
    · exact hD _ hlw
    · exact hD _ (by omega)
set_option maxHeartbeats 1000000 in
set_option maxRecDepth 100000 in
theorem wlk_keys {g : Nat} {lb : Array Value} {L : List Tm.E} {D : Nat → Prop} {w : World} (hs : SeqX g lb en9 L D w) (hen : ∀ args w, (callFunc g args).run Try.prog w = .ok (.enter g args) w) (hD : ∀ k, w.heap.size ≤ k → D k) :
    Calls Try.prog 24 #[.func (.func g) #[] lb] w fun e w' => ∃ g2 lb2, e = .returned (.func (.func g2) #[] lb2) ∧ Hid ((∀ args w, (callFunc g2 args).run Try.prog w = .ok (.enter g2 args) w) ∧ SeqX g2 lb2 eS (L.map (·.1)) D w') ∧ Below w.heap.size w w' := by
  have HS := Lib.hid hs; have HE := Lib.hid hen; have HD := Lib.hid hD
  clear hs hen hD
  go_enter Try.func24, Try.ntmps24
  go_wp2
  go_ret
  have hb : Below w.heap.size w (w.alloc (.cells #[.func (.func g) #[] lb] 31)) := one_b8 _ _
  have b0 := (Boxed.new w 31 (.func (.func g) #[] lb)).cell
  refine ⟨_, _, rfl, ⟨enters_of Try.func47 (by kernel_rfl) rfl, ?_⟩, hb⟩
  exact wlk_keys1 (HS.out.below hb) HE.out (fun k hk => HD.out k (by simp at hk; omega)) b0 (by simp)
set_option maxHeartbeats 4000000 in
set_option maxRecDepth 100000 in
theorem wlk_filterN1 {B0 B1 g : Nat} {lb : Array Value} {L : List Tm.E} {D : Nat → Prop} {w : World} (hs : SeqX g lb en9 L D w) (hen : ∀ args w, (callFunc g args).run Try.prog w = .ok (.enter g args) w) (hD : ∀ k, w.heap.size ≤ k → D k)
    (hb0 : w.cell? ⟨B0, 0, none⟩ = some (.func (.func g) #[] lb)) (hb1 : w.cell? ⟨B1, 0, none⟩ = some .nilFunc) (hl0 : B0 < w.heap.size) (hl1 : B1 < w.heap.size) :
    SeqX 40 #[.pointer (some ⟨B0, 0, none⟩), .pointer (some ⟨B1, 0, none⟩)] en9 L (fun k => D k ∧ k ≠ B1) w := fun m cc ly J Jx W hbw hcD hlw hlW hJV hJ hJx hJxV hY h0 => by
  have c0 : W.cell? ⟨B0, 0, none⟩ = some (.func (.func g) #[] lb) := (hbw.cell (p := ⟨B0, 0, none⟩) hl0).trans hb0
  have hsz := hbw.size
  have hk0 : B0 < W.heap.size := by omega
  have hnf : ∀ w, (binOp .eql 31 (.func (.func g) #[] lb) .nilFunc).run Try.prog w = .ok (.bool false) w := fun w => rfl
  obtain ⟨p, hp⟩ : ∃ p, p = W.heap.size := ⟨_, rfl⟩
  have hlo : Lo cc ly p J Jx := ⟨by omega, hJV, by rw [hp]; exact hJ, by rw [hp]; exact hJx, hJxV⟩
  clear hJV hJ hJx hJxV
  obtain ⟨W1, hW1⟩ : ∃ W1, W1 = W.alloc (.cells #[.func (.yield ly) #[] #[]] 39) := ⟨_, rfl⟩
  have hs1 : W1.heap.size = p + 1 := by rw [hW1, hp]; simp
  have bY : Boxed W1 p 39 (.func (.yield ly) #[] #[]) := by rw [hW1, hp]; exact Boxed.new W _ _
  obtain ⟨hz1, hJ1⟩ := hlo.zs (q := p + 1) hp h0 (by rw [hW1]; exact only_new _ W _) hs1.symm (by omega) bY.cell
  have hb1' : Below w.heap.size w W1 := by rw [hW1]; exact hbw.alloc hsz _
  have hnn : ∀ w, (binOp .eql 39 .nilFunc .nilFunc).run Try.prog w = .ok (.bool true) w := fun w => rfl
  have hBly : B1 ≠ ly := by omega
  have hBp : B1 < p := by omega
  have d1 : W1.cell? ⟨B1, 0, none⟩ = some .nilFunc := (hb1'.cell (p := ⟨B1, 0, none⟩) hl1).trans hb1
  refine callsIn_wide.2 ((callsIn_wide (n := 9)).1 ?_)
  refine callsIn_of_wp_marks Try.func40 rfl trivial ?_ rfl
  simp only [Try.ntmps40, List.size_toArray, List.length_cons, List.length_nil, Nat.reduceAdd, Nat.reduceSub, Array.replicate_succ, Array.replicate_zero, List.push_toArray, List.append_toArray, List.nil_append, List.cons_append]
  gi_wp2_with fail
  rw [← hW1, ← hp]
  clear hW1
  refine rangeX (n := 9) (w := W1) (α := Tm.E) (enc := en9) (L := L) (D := D) (w0 := w) (fun t x => (((t.setIfInBounds 9 (.string (bstr x.1))).setIfInBounds 10 (.int .i64 x.2)).setIfInBounds 4 (.string (bstr x.1))).setIfInBounds 5 (.int .i64 x.2)) (c9 cc ly p (p + 1)) (gf := g) (lb := lb) (by omega) rfl hen hs hb1' ?_ (fun _ => rfl)
    (fun pre X => J pre X ∧ Zs cc ly p (p + 1) X ∧ X.cell? ⟨B1, 0, none⟩ = some .nilFunc)
    (fun cd pre X => cd = .ret ∧ Zs cc ly p (p + 1) X ∧ Jx pre X) (fun _ X h => h.2.1.co) (fun _ _ X h => h.2.1.co) ?hI ?hIx ?h0 ?assign ?body ?done ?stop
  case hI =>
    rintro s X Y ⟨q2, q3, q5⟩ ho
    rw [hs1] at ho
    refine ⟨hlo.jk q2 (q3.only ho), q3.keep (q3.only ho), (cell_only8 ho (q := ⟨B1, 0, none⟩) (by show B1 < X.heap.size; have := q3.sz; omega) (fun e => ?_)).trans q5⟩
    have e : p + 1 ≤ B1 := e.1
    omega
  case hIx =>
    rintro cd s X Y ⟨q1, q3, q2⟩ ho
    rw [hs1] at ho
    exact ⟨q1, q3.keep (q3.only ho), hlo.xk q2 (q3.only ho)⟩
  case h0 => exact ⟨hJ1, hz1, d1⟩
  case assign =>
    intro l x wx K hK
    clear hp hs1
    simp only [en9]
    simp only [List.setIfInBounds_toArray, List.set_cons_succ, List.set_cons_zero] at hK
    gi_wp2
    exact hK
  case body =>
    rintro l pre x X hl hlX hnl ⟨q2, q3, q5⟩ hpre
    obtain ⟨fn, tmps, assign, body, hyy, hR⟩ := hlo.call (l := l) (m' := 6) hY q2 q3 (x := x) hpre
    simp only [en9] at hyy
    have cY := q3.y
    have HR : Hid (RoundIn (Fence.wide.inRound l) 6 Try.prog ly fn tmps assign body X fun e W' => ∃ b : Bool, e = .returned (.bool b) ∧ Hid (Rd cc ly p (p + 1) J Jx (pre ++ [x]) X b W' ∧ W'.cell? ⟨B1, 0, none⟩ = some .nilFunc)) := by
      refine hR.mono ?_
      rintro e W' ⟨b, rfl, hd⟩
      have hd := hd.out
      refine ⟨b, rfl, hd, (cell_only8 hd.kb.1 (q := ⟨B1, 0, none⟩) (by show B1 < X.heap.size; have := q3.sz; omega) (fun h => ?_)).trans q5⟩
      rcases h with h | ⟨h | h, h3⟩
      · exact (hcD X B1 q3.v h).2 rfl
      · exact hBly h
      · exact absurd (show p < B1 from h) (by omega)
    obtain ⟨S, hS⟩ : ∃ S, S = bstr x.1 := ⟨_, rfl⟩
    obtain ⟨i, hi⟩ : ∃ i, i = x.2 := ⟨_, rfl⟩
    rw [← hS, ← hi] at hyy ⊢
    clear hlo hY hp hs1 hs hz1 hJ1 hb1' q2 q3 bY h0 hR hpre hcD hlw hlW hD hb0 hb1 hl0 hl1 hbw hS hi d1 hBly hBp
    simp only [List.setIfInBounds_toArray, List.set_cons_succ, List.set_cons_zero]
    gi_wp2_with fail
    refine ⟨fun f h => (by cases h), ?_⟩
    gi_wp2_with fail
    refine HR.out.mono ?_
    rintro e1 W2 ⟨b, rfl, hB⟩
    have HB := Lib.hid hB.out
    clear hB HR hyy
    cases b with
    | true =>
      gi_wp2
      exact ⟨HB.out.1.kb, HB.out.1.go rfl, HB.out.1.z, HB.out.2⟩
    | false =>
      gi_wp2
      exact ⟨HB.out.1.kb, rfl, HB.out.1.z, HB.out.1.stop rfl⟩
  case done =>
    rintro Dn X hDn ⟨q2, q3, -⟩ hK hnD
    have HE : Hid (J L (X.putObj Dn (.deferred none))) := hlo.jk q2 (only_w (only_put X Dn _) (fun k hk => by subst hk; exact ⟨by omega, fun h => hnD (.inl h)⟩))
    have HK := Lib.hid hK
    clear hlo hY hp hs1 hs hz1 hJ1 hb1' q2 q3 bY h0 hK hnD hDn
    gi_wp2
    refine ⟨by simp, .inl ⟨_, _, rfl, run_takeDeferred HK.out, ?_⟩⟩
    exact ⟨_, results_none rfl _ _ _, ⟨_, rfl⟩, .inl HE.out⟩
  case stop =>
    rintro Dn cd pre X hDn hpre ⟨rfl, q3, q2⟩ hK hnD
    have HE : Hid (∃ pre, pre <+: L ∧ Jx pre (X.putObj Dn (.deferred none))) := ⟨_, hpre, hlo.xk q2 (only_w (only_put X Dn _) (fun k hk => by subst hk; exact ⟨by omega, fun h => hnD (.inl h)⟩))⟩
    have HK := Lib.hid hK
    clear hlo hY hp hs1 hs hz1 hJ1 hb1' q2 q3 bY h0 hK hnD hDn hpre
    gi_wp2
    refine ⟨by simp, .inl ⟨_, _, rfl, run_takeDeferred HK.out, ?_⟩⟩
    exact ⟨_, results_none rfl _ _ _, ⟨_, rfl⟩, .inr HE.out⟩
  · intro X k hv hk
    rcases hk with hk | ⟨rfl | hk, -⟩
    · exact (hcD X k hv.1 hk).1
    · exact hD _ hlw
    · exact hD _ (by omega)
set_option maxHeartbeats 1000000 in
set_option maxRecDepth 100000 in
theorem wlk_filterN {g : Nat} {lb : Array Value} {L : List Tm.E} {D : Nat → Prop} {w : World} (hs : SeqX g lb en9 L D w) (hen : ∀ args w, (callFunc g args).run Try.prog w = .ok (.enter g args) w) (hD : ∀ k, w.heap.size ≤ k → D k) :
    Calls Try.prog 14 #[.func (.func g) #[] lb, .nilFunc] w fun e w' => ∃ g2 lb2, e = .returned (.func (.func g2) #[] lb2) ∧ Hid ((∀ args w, (callFunc g2 args).run Try.prog w = .ok (.enter g2 args) w) ∧ ∃ D2 : Nat → Prop, (∀ k, w'.heap.size ≤ k → D2 k) ∧ SeqX g2 lb2 en9 L D2 w') ∧ Below w.heap.size w w' := by
  have HS := Lib.hid hs; have HE := Lib.hid hen; have HD := Lib.hid hD
  clear hs hen hD
  go_enter Try.func14, Try.ntmps14
  go_wp2
  go_ret
  have hb : Below w.heap.size w ((w.alloc (.cells #[.func (.func g) #[] lb] 31)).alloc (.cells #[.nilFunc] 39)) := (one_b8 _ _).alloc (by simp) _
  have b0 := ((Boxed.new w 31 (.func (.func g) #[] lb)).alloc (.cells #[.nilFunc] 39)).cell
  have b1 := (Boxed.new (w.alloc (.cells #[.func (.func g) #[] lb] 31)) 39 .nilFunc).cell
  rw [World.size_alloc] at b1
  refine ⟨_, _, rfl, ⟨enters_of Try.func40 (by kernel_rfl) rfl, _, ?_, wlk_filterN1 (HS.out.below hb) HE.out (fun k hk => HD.out k (by simp at hk; omega)) b0 b1 (by simp; omega) (by simp)⟩, hb⟩
  intro k hk
  simp at hk
  exact ⟨HD.out k (by omega), by omega⟩
set_option maxHeartbeats 1000000 in
set_option maxRecDepth 100000 in
theorem wlk_mapN1 {B0 B1 g : Nat} {lb : Array Value} {w : World} (hb0 : w.cell? ⟨B0, 0, none⟩ = some (.func (.func g) #[] lb)) (hb1 : w.cell? ⟨B1, 0, none⟩ = some .nilFunc) (hl0 : B0 < w.heap.size) (hl1 : B1 < w.heap.size) :
    SeqX 44 #[.pointer (some ⟨B0, 0, none⟩), .pointer (some ⟨B1, 0, none⟩)] eI ([] : List Int) (fun _ => True) w := fun m cc ly J Jx W hbw _ _ _ _ hJ _ _ _ h0 => by
  have c0 : W.cell? ⟨B0, 0, none⟩ = some (.func (.func g) #[] lb) := (hbw.cell (p := ⟨B0, 0, none⟩) hl0).trans hb0
  have c1 : W.cell? ⟨B1, 0, none⟩ = some .nilFunc := (hbw.cell (p := ⟨B1, 0, none⟩) hl1).trans hb1
  have hsz := hbw.size
  have hk0 : B0 < W.heap.size := by omega
  have hk1 : B1 < W.heap.size := by omega
  have hnf : ∀ w, (binOp .eql 41 (.func (.func g) #[] lb) .nilFunc).run Try.prog w = .ok (.bool false) w := fun w => rfl
  have hnn : ∀ w, (binOp .eql 44 .nilFunc .nilFunc).run Try.prog w = .ok (.bool true) w := fun w => rfl
  have HE : Hid (∀ o, J [] (W.alloc o)) := fun o => hJ _ _ _ h0 (only_new _ _ _)
  clear hJ h0 hbw hb0 hb1 hl0 hl1
  refine callsIn_of_wp Try.func44 rfl trivial ?_ rfl
  simp only [Try.ntmps44, List.size_toArray, List.length_cons, List.length_nil, Nat.reduceAdd, Nat.reduceSub, Array.replicate_succ, Array.replicate_zero, List.push_toArray, List.append_toArray, List.nil_append, List.cons_append]
  gi_wp2
  refine bodyPost_ret (results_none rfl _ _ _) rfl ?_
  exact ⟨⟨_, rfl⟩, .inl (HE.out _)⟩
set_option maxHeartbeats 1000000 in
set_option maxRecDepth 100000 in
theorem wlk_mapN {g : Nat} {lb : Array Value} {w : World} :
    Calls Try.prog 17 #[.func (.func g) #[] lb, .nilFunc] w fun e w' => ∃ g2 lb2, e = .returned (.func (.func g2) #[] lb2) ∧ Hid ((∀ args w, (callFunc g2 args).run Try.prog w = .ok (.enter g2 args) w) ∧ SeqX g2 lb2 eI ([] : List Int) (fun _ => True) w') ∧ Below w.heap.size w w' := by
  go_enter Try.func17, Try.ntmps17
  go_wp2
  go_ret
  have hb : Below w.heap.size w ((w.alloc (.cells #[.func (.func g) #[] lb] 41)).alloc (.cells #[.nilFunc] 44)) := (one_b8 _ _).alloc (by simp) _
  have b0 := ((Boxed.new w 41 (.func (.func g) #[] lb)).alloc (.cells #[.nilFunc] 44)).cell
  have b1 := (Boxed.new (w.alloc (.cells #[.func (.func g) #[] lb] 41)) 44 .nilFunc).cell
  rw [World.size_alloc] at b1
  exact ⟨_, _, rfl, ⟨enters_of Try.func44 (by kernel_rfl) rfl, wlk_mapN1 b0 b1 (by simp; omega) (by simp)⟩, hb⟩
end Go.Proofs.Ytdchapcpimhjaaa
