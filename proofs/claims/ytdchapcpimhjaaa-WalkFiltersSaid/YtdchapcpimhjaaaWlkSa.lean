/- Layer 9: a walk made of a walk: what stands while it loops over the inner one. -/
import Derived.Test.YtdchapcpimhjaaaWlkOa
namespace Go.Proofs.Ytdchapcpimhjaaa
open Go.RowKit Go.Shelf

/-- what is known of the one who loops over the outer walk: ly is his loop, p the first block that is not his -/
structure Lo {β : Type} (cc : Co) (ly p : Nat) (J Jx : List β → World → Prop) : Prop where
  lt : ly < p
  jv : ∀ s X, J s X → cc.V X ∧ ¬ cc.O X ly
  jm : ∀ s X Y, J s X → cc.mv ly p X Y → J s Y
  xm : ∀ s X Y, Jx s X → cc.V X → cc.mv ly p X Y → Jx s Y
  xv : ∀ s X, Jx s X → cc.V X ∧ ¬ cc.O X ly
/-- what the outer walk writes in a round of its loop over the inner one: blocks of the one who loops, his record, its own blocks behind p -/
def c9 (cc : Co) (ly p q : Nat) : Co := cc.plus (fun k => k = ly ∨ p < k) q
/-- what stands there: yield in the box p, its own blocks below q -/
structure Zs (cc : Co) (ly p q : Nat) (X : World) : Prop where
  sz : q ≤ X.heap.size
  y : X.cell? ⟨p, 0, none⟩ = some (.func (.yield ly) #[] #[])
  v : cc.V X
  nl : ¬ cc.O X ly
  no : ∀ k, p ≤ k → k < q → ¬ cc.O X k
  pq : p < q
theorem Zs.keep {cc : Co} {ly p q : Nat} {X Y : World} (h : Zs cc ly p q X) (ho : Only (fun k => p < k ∧ ¬ cc.O X k) X Y) : Zs cc ly p q Y := by
  have hs := cc.same h.v ho (fun k h => h.2)
  exact ⟨Nat.le_trans h.sz ho.size, (cell_only8 ho (q := ⟨p, 0, none⟩) (Nat.lt_of_lt_of_le h.pq h.sz) (fun e => Nat.lt_irrefl _ e.1)).trans h.y, hs.1, fun e => h.nl ((hs.2 _).1 e), fun k h1 h2 e => h.no k h1 h2 ((hs.2 _).1 e), h.pq⟩
theorem Zs.co {cc : Co} {ly p q : Nat} {X : World} (h : Zs cc ly p q X) : (c9 cc ly p q).V X :=
  ⟨h.v, h.sz, fun k hk hq => by
    rcases hk with rfl | hk
    · exact h.nl
    · exact h.no k (Nat.le_of_lt hk) hq⟩
theorem Zs.only {cc : Co} {ly p q : Nat} {X Y : World} (h : Zs cc ly p q X) (ho : Only (fun k => q ≤ k ∧ ¬ (c9 cc ly p q).O X k) X Y) : Only (fun k => p < k ∧ ¬ cc.O X k) X Y :=
  only_w ho (fun _ hk => ⟨Nat.lt_of_lt_of_le h.pq hk.1, fun e => hk.2 (.inl e)⟩)
/-- its own blocks stand while the inner walk moves on -/
theorem Zs.own {cc : Co} {ly p q : Nat} {X Y : World} (ho : Only (fun k => q ≤ k ∧ ¬ (c9 cc ly p q).O X k) X Y) (hz : Zs cc ly p q X) {k : Nat} (hk : k < q) : Y.heap[k]? = X.heap[k]? :=
  ho.block k (Nat.lt_of_lt_of_le hk hz.sz) (fun e => by omega)
theorem Zs.mv {cc : Co} {ly p : Nat} {X Y : World} (hl : ly < p) (ho : Only (fun k => p < k ∧ ¬ cc.O X k) X Y) : cc.mv ly p X Y :=
  only_w ho (fun k hk => ⟨Nat.le_of_lt hk.1, hk.2, by omega⟩)
/-- its own writes -/
theorem Zs.wr {cc : Co} {ly p q : Nat} {X Y : World} (h : Zs cc ly p q X) (ho : Only (fun k => p < k ∧ k < q) X Y) : Only (fun k => p < k ∧ ¬ cc.O X k) X Y ∧ (c9 cc ly p q).kb X Y := by
  have h1 : Only (fun k => p < k ∧ ¬ cc.O X k) X Y := only_w ho (fun k hk => ⟨hk.1, h.no k (Nat.le_of_lt hk.1) hk.2⟩)
  have hs := cc.same h.v h1 (fun k h => h.2)
  refine ⟨h1, only_w ho (fun k hk => .inr ⟨.inr hk.1, hk.2⟩), fun k hk => .inl ?_⟩
  rcases hk with hk | hk
  · exact .inl ((hs.2 k).1 hk)
  · exact .inr hk
section
variable {β : Type} {cc : Co} {ly p q : Nat} {J Jx : List β → World → Prop}
theorem Lo.jk (h : Lo cc ly p J Jx) {s : List β} {X Y : World} (hj : J s X) (ho : Only (fun k => p < k ∧ ¬ cc.O X k) X Y) : J s Y := h.jm s X Y hj (Zs.mv h.lt ho)
theorem Lo.xk (h : Lo cc ly p J Jx) {s : List β} {X Y : World} (hj : Jx s X) (ho : Only (fun k => p < k ∧ ¬ cc.O X k) X Y) : Jx s Y := h.xm s X Y hj (h.xv s X hj).1 (Zs.mv h.lt ho)
/-- behind the new blocks -/
theorem Lo.zs (h : Lo cc ly p J Jx) {W W1 : World} (hp : p = W.heap.size) (h0 : J [] W) (ho : Only (fun _ => False) W W1) (hq : q = W1.heap.size) (hpq : p < q) (hy : W1.cell? ⟨p, 0, none⟩ = some (.func (.yield ly) #[] #[])) : Zs cc ly p q W1 ∧ J [] W1 := by
  have hv := h.jv _ _ h0
  have hs := cc.same hv.1 ho (fun _ h => h.elim)
  refine ⟨⟨by omega, hy, hs.1, fun e => hv.2 ((hs.2 _).1 e), fun k h1 h2 e => ?_, hpq⟩, h.jm _ _ _ h0 (only_w ho (fun _ h => h.elim))⟩
  have := cc.lt W k hv.1 ((hs.2 k).1 e)
  omega
/-- what is behind a call of the outer loop's body -/
structure Rd (cc : Co) (ly p q : Nat) (J Jx : List β → World → Prop) (s : List β) (X : World) (b : Bool) (Y : World) : Prop where
  z : Zs cc ly p q Y
  kb : (c9 cc ly p q).kb X Y
  own : ∀ k, p ≤ k → k < q → Y.heap[k]? = X.heap[k]?
  go : b = true → J s Y
  stop : b = false → Jx s Y
/-- THE CALL OF THE OUTER LOOP'S BODY, in a round of the inner loop -/
theorem Lo.call (h : Lo cc ly p J Jx) {L : List β} {s : List β} {x : β} {enc : β → Array Value} {X : World} {l m' : Nat} (hY : ∀ m pre x W1, J pre W1 → pre ++ [x] <+: L → YieldAt Fence.wide m Try.prog ly (enc x) W1 fun e W' =>
      (e = .returned (.bool true) ∧ J (pre ++ [x]) W' ∧ cc.kq ly W1 W') ∨ (e = .returned (.bool false) ∧ Jx (pre ++ [x]) W' ∧ cc.kq ly W1 W')) (hj : J s X) (hz : Zs cc ly p q X) (hpre : s ++ [x] <+: L) :
    ∃ fn tmps assign body, (Instr.yield ly (enc x)).run Try.prog X = .ok (.round ly fn tmps assign body) X ∧ RoundIn (Fence.wide.inRound l) m' Try.prog ly fn tmps assign body X fun e W' => ∃ b : Bool, e = .returned (.bool b) ∧ Hid (Rd cc ly p q J Jx (s ++ [x]) X b W') := by
  obtain ⟨fn, tmps, assign, body, hyy, hR⟩ := hY 9 s x X hj hpre
  refine ⟨fn, tmps, assign, body, hyy, round_in (round_any m' (hR.mono ?_))⟩
  have aft : ∀ W', cc.kq ly X W' → cc.V W' ∧ ¬ cc.O W' ly → Zs cc ly p q W' ∧ (c9 cc ly p q).kb X W' ∧ (∀ k, p ≤ k → k < q → W'.heap[k]? = X.heap[k]?) := fun W' hk hv => by
    have hsz := hz.sz
    have hlt := h.lt
    have hown : ∀ k, p ≤ k → k < q → W'.heap[k]? = X.heap[k]? := fun k h1 h2 => hk.1.block k (by omega) (fun e => by
      rcases e with e | e
      · exact hz.no k h1 h2 e
      · omega)
    have z : Zs cc ly p q W' := by
      refine ⟨by have := hk.1.size; omega, ?_, hv.1, hv.2, fun k h1 h2 e => ?_, hz.pq⟩
      · have := hown p (Nat.le_refl _) hz.pq
        rw [← hz.y]
        simp [World.cell?, this]
      · rcases hk.2 k e with e | e
        · exact hz.no k h1 h2 e
        · omega
    refine ⟨z, ⟨only_w hk.1 (fun k e => ?_), fun k e => ?_⟩, hown⟩
    · rcases e with e | rfl
      · exact .inl e
      · exact .inr ⟨.inl rfl, by have := hz.pq; omega⟩
    · rcases e with e | e
      · rcases hk.2 k e with e | e
        · exact .inl (.inl e)
        · exact .inr e
      · exact .inl (.inr e)
  rintro e W' (⟨rfl, t1, t2⟩ | ⟨rfl, t1, t2⟩)
  · obtain ⟨u1, u2, u3⟩ := aft W' t2 (h.jv _ _ t1)
    exact ⟨true, rfl, u1, u2, u3, fun _ => t1, fun h => by cases h⟩
  · obtain ⟨u1, u2, u3⟩ := aft W' t2 (h.xv _ _ t1)
    exact ⟨false, rfl, u1, u2, u3, fun h => (by cases h), fun _ => t1⟩
end
end Go.Proofs.Ytdchapcpimhjaaa
/- Layer 9: Skip. -/
namespace Go.Proofs.Ytdchapcpimhjaaa
open Go.RowKit Go.Shelf

attribute [local go_sem] Oper.semAt_some

theorem prefix_drop9 {α : Type} {a b : List α} (h : a <+: b) (n : Nat) : a.drop n <+: b.drop n := by
  obtain ⟨t, rfl⟩ := h
  rw [List.drop_append]
  exact List.prefix_append _ _
theorem boxed_at {X Y : World} {k : Nat} {t : TypeId} {v : Value} (h : Boxed X k t v) (e : Y.heap[k]? = X.heap[k]?) : Boxed Y k t v := e.trans h
set_option maxHeartbeats 4000000 in
set_option maxRecDepth 100000 in
theorem wlk_skip1_int {B0 B1 g : Nat} {lb : Array Value} {N : Int} {L : List Int} {D : Nat → Prop} {w : World} (hs : SeqX g lb eI L D w) (hen : ∀ args w, (callFunc g args).run Try.prog w = .ok (.enter g args) w) (hD : ∀ k, w.heap.size ≤ k → D k)
    (hb0 : w.cell? ⟨B0, 0, none⟩ = some (.func (.func g) #[] lb)) (hb1 : w.cell? ⟨B1, 0, none⟩ = some (.int .i64 N)) (hl0 : B0 < w.heap.size) (hl1 : B1 < w.heap.size) (hM : -9223372036854775808 ≤ N) (hN : N ≤ 4611686018427387904) :
    SeqX 53 #[.pointer (some ⟨B0, 0, none⟩), .pointer (some ⟨B1, 0, none⟩)] eI (L.drop N.toNat) D w := fun m cc ly J Jx W hbw hcD hlw hlW hJV hJ hJx hJxV hY h0 => by
  have c0 : W.cell? ⟨B0, 0, none⟩ = some (.func (.func g) #[] lb) := (hbw.cell (p := ⟨B0, 0, none⟩) hl0).trans hb0
  have c1 : W.cell? ⟨B1, 0, none⟩ = some (.int .i64 N) := (hbw.cell (p := ⟨B1, 0, none⟩) hl1).trans hb1
  have hsz := hbw.size
  have hk0 : B0 < W.heap.size := by omega
  have hk1 : B1 < W.heap.size := by omega
  have hnf : ∀ w, (binOp .eql 41 (.func (.func g) #[] lb) .nilFunc).run Try.prog w = .ok (.bool false) w := fun w => rfl
  obtain ⟨p, hp⟩ : ∃ p, p = W.heap.size := ⟨_, rfl⟩
  have hlo : Lo cc ly p J Jx := ⟨by omega, hJV, by rw [hp]; exact hJ, by rw [hp]; exact hJx, hJxV⟩
  clear hJV hJ hJx hJxV
  obtain ⟨n, hn⟩ : ∃ n : Nat, n = N.toNat := ⟨_, rfl⟩
  rw [← hn] at hY ⊢
  obtain ⟨W1, hW1⟩ : ∃ W1, W1 = (W.alloc (.cells #[.func (.yield ly) #[] #[]] 75)).alloc (.cells #[.int .i64 N] 3) := ⟨_, rfl⟩
  have hs1 : W1.heap.size = p + 2 := by rw [hW1, hp]; simp
  have bY : Boxed W1 p 75 (.func (.yield ly) #[] #[]) := by rw [hW1, hp]; exact (Boxed.new W _ _).alloc _
  have bL : Boxed W1 (p + 1) 3 (.int .i64 N) := by
    have := Boxed.new (W.alloc (.cells #[.func (.yield ly) #[] #[]] 75)) 3 (.int .i64 N)
    rw [World.size_alloc, ← hW1, ← hp] at this
    exact this
  obtain ⟨hz1, hJ1⟩ := hlo.zs (q := p + 2) hp h0 (by rw [hW1]; exact (only_new _ W _).alloc _) hs1.symm (by omega) bY.cell
  have hb1' : Below w.heap.size w W1 := by rw [hW1]; exact (hbw.alloc hsz _).alloc (by simp; omega) _
  refine callsIn_wide.2 ((callsIn_wide (n := 9)).1 ?_)
  refine callsIn_of_wp_marks Try.func53 rfl trivial ?_ rfl
  simp only [Try.ntmps53, List.size_toArray, List.length_cons, List.length_nil, Nat.reduceAdd, Nat.reduceSub, Array.replicate_succ, Array.replicate_zero, List.push_toArray, List.append_toArray, List.nil_append, List.cons_append]
  gi_wp2_with fail
  rw [← hW1, ← hp]
  clear hW1
  refine rangeX (n := 9) (w := W1) (α := Int) (enc := eI) (L := L) (D := D) (w0 := w) (fun t x => (t.setIfInBounds 10 (.int .i64 x)).setIfInBounds 5 (.int .i64 x)) (c9 cc ly p (p + 2)) (gf := g) (lb := lb) (by omega) rfl hen hs hb1' ?_ (fun _ => rfl)
    (fun pre X => J (pre.drop n) X ∧ Zs cc ly p (p + 2) X ∧ ∃ i : Int, Boxed X (p + 1) 3 (.int .i64 i) ∧ i ≤ N ∧ -9223372036854775808 ≤ i ∧ i.toNat = n - pre.length)
    (fun cd pre X => cd = .ret ∧ Zs cc ly p (p + 2) X ∧ Jx (pre.drop n) X) (fun _ X h => h.2.1.co) (fun _ _ X h => h.2.1.co) ?hI ?hIx ?h0 ?assign ?body ?done ?stop
  case hI =>
    rintro s X Y ⟨q2, q3, i, q4, q5⟩ ho
    rw [hs1] at ho
    exact ⟨hlo.jk q2 (q3.only ho), q3.keep (q3.only ho), i, boxed_at q4 (Zs.own ho q3 (by omega)), q5⟩
  case hIx =>
    rintro cd s X Y ⟨q1, q3, q2⟩ ho
    rw [hs1] at ho
    exact ⟨q1, q3.keep (q3.only ho), hlo.xk q2 (q3.only ho)⟩
  case h0 => exact ⟨by rw [List.drop_nil]; exact hJ1, hz1, N, bL, Int.le_refl _, hM, by rw [List.length_nil]; omega⟩
  case assign =>
    intro l x wx K hK
    clear hp hs1
    simp only [eI]
    simp only [List.setIfInBounds_toArray, List.set_cons_succ, List.set_cons_zero] at hK
    gi_wp2
    exact hK
  case body =>
    rintro l pre x X hl hlX hnl ⟨q2, q3, i, q4, q5, q6, q7⟩ hpre
    have cL := q4.cell
    have fL := q4.frozen
    by_cases hi : 0 < i
    case pos =>
      obtain ⟨X1, hX1⟩ : ∃ X1, X1 = X.setCell ⟨p + 1, 0, none⟩ (.int .i64 (i - 1)) := ⟨_, rfl⟩
      have b1 : Boxed X1 (p + 1) 3 (.int .i64 (i - 1)) := by rw [hX1]; exact q4.set _
      have o1 : Only (fun k => p < k ∧ k < p + 2) X X1 := by rw [hX1]; exact Only.setCell (p := fun k => p < k ∧ k < p + 2) (q := ⟨p + 1, 0, none⟩) (Only.refl _ _) (.inl ⟨by show p < p + 1; omega, by show p + 1 < p + 2; omega⟩) _
      obtain ⟨o2, k1⟩ := q3.wr o1
      have HR : Hid ((c9 cc ly p (p + 2)).kb X X1 ∧ J ((pre ++ [x]).drop n) X1 ∧ Zs cc ly p (p + 2) X1 ∧ ∃ i', Boxed X1 (p + 1) 3 (.int .i64 i') ∧ i' ≤ N ∧ -9223372036854775808 ≤ i' ∧ i'.toNat = n - (pre ++ [x]).length) := by
        refine ⟨k1, ?_, q3.keep o2, i - 1, b1, by omega, by omega, by rw [List.length_append, List.length_singleton]; omega⟩
        rw [List.drop_of_length_le (by rw [List.length_append, List.length_singleton]; omega)]
        rw [List.drop_of_length_le (by omega)] at q2
        exact hlo.jk q2 o2
      rw [hX1] at HR
      clear hlo hY hp hs1 hs hz1 hJ1 hb1' q2 q3 q4 b1 o1 o2 k1 hX1 bY bL h0
      simp only [List.setIfInBounds_toArray, List.set_cons_succ, List.set_cons_zero]
      gi_wp2
      exact HR.out
    case neg =>
      have hdr : (pre ++ [x]).drop n = pre.drop n ++ [x] := List.drop_append_of_le_length (by omega)
      obtain ⟨fn, tmps, assign, body, hyy, hR⟩ := hlo.call (l := l) (m' := 6) hY q2 q3 (x := x) (by rw [← hdr]; exact prefix_drop9 hpre n)
      simp only [eI] at hyy
      have cY := q3.y
      have HR := Lib.hid hR
      have HB0 : Hid (∀ Y, Rd cc ly p (p + 2) J Jx (pre.drop n ++ [x]) X true Y → ∃ i, Boxed Y (p + 1) 3 (.int .i64 i) ∧ i ≤ N ∧ -9223372036854775808 ≤ i ∧ i.toNat = n - (pre ++ [x]).length) := fun Y h => ⟨i, boxed_at q4 (h.own _ (by omega) (by omega)), q5, q6, by rw [List.length_append, List.length_singleton]; omega⟩
      have HDR := Lib.hid hdr
      clear hlo hY hp hs1 hs hz1 hJ1 hb1' q2 q3 q4 bY bL h0 hR hdr hpre
      simp only [List.setIfInBounds_toArray, List.set_cons_succ, List.set_cons_zero]
      gi_wp2_with fail
      refine HR.out.mono ?_
      rintro e1 W2 ⟨b, rfl, hB⟩
      have HB := Lib.hid hB.out
      clear hB HR hyy
      cases b with
      | true =>
        gi_wp2
        refine ⟨HB.out.kb, ?_, HB.out.z, HB0.out _ HB.out⟩
        rw [HDR.out]
        exact HB.out.go rfl
      | false =>
        gi_wp2
        refine ⟨HB.out.kb, rfl, HB.out.z, ?_⟩
        rw [HDR.out]
        exact HB.out.stop rfl
  case done =>
    rintro Dn X hDn ⟨q2, q3, -⟩ hK hnD
    have HE : Hid (J (L.drop n) (X.putObj Dn (.deferred none))) := hlo.jk q2 (only_w (only_put X Dn _) (fun k hk => by subst hk; exact ⟨by omega, fun h => hnD (.inl h)⟩))
    have HK := Lib.hid hK
    clear hlo hY hp hs1 hs hz1 hJ1 hb1' q2 q3 bY bL h0 hK hnD hDn
    gi_wp2
    refine ⟨by simp, .inl ⟨_, _, rfl, run_takeDeferred HK.out, ?_⟩⟩
    exact ⟨_, results_none rfl _ _ _, ⟨_, rfl⟩, .inl HE.out⟩
  case stop =>
    rintro Dn cd pre X hDn hpre ⟨rfl, q3, q2⟩ hK hnD
    have HE : Hid (∃ pre, pre <+: L.drop n ∧ Jx pre (X.putObj Dn (.deferred none))) := ⟨_, prefix_drop9 hpre n, hlo.xk q2 (only_w (only_put X Dn _) (fun k hk => by subst hk; exact ⟨by omega, fun h => hnD (.inl h)⟩))⟩
    have HK := Lib.hid hK
    clear hlo hY hp hs1 hs hz1 hJ1 hb1' q2 q3 bY bL h0 hK hnD hDn hpre
    gi_wp2
    refine ⟨by simp, .inl ⟨_, _, rfl, run_takeDeferred HK.out, ?_⟩⟩
    exact ⟨_, results_none rfl _ _ _, ⟨_, rfl⟩, .inr HE.out⟩
  · intro X k hv hk
    rcases hk with hk | ⟨rfl | hk, -⟩
    · exact hcD X k hv.1 hk
    · exact hD _ hlw
    · exact hD _ (by omega)
set_option maxHeartbeats 1000000 in
set_option maxRecDepth 100000 in
theorem wlk_skip_int {g : Nat} {lb : Array Value} {N : Int} {L : List Int} {D : Nat → Prop} {w : World} (hs : SeqX g lb eI L D w) (hen : ∀ args w, (callFunc g args).run Try.prog w = .ok (.enter g args) w) (hD : ∀ k, w.heap.size ≤ k → D k) (hM : -9223372036854775808 ≤ N) (hN : N ≤ 4611686018427387904) :
    Calls Try.prog 31 #[.func (.func g) #[] lb, .int .i64 N] w fun e w' => ∃ g2 lb2, e = .returned (.func (.func g2) #[] lb2) ∧ Hid ((∀ args w, (callFunc g2 args).run Try.prog w = .ok (.enter g2 args) w) ∧ SeqX g2 lb2 eI (L.drop N.toNat) D w') ∧ Below w.heap.size w w' := by
  have HS := Lib.hid hs; have HE := Lib.hid hen; have HD := Lib.hid hD
  clear hs hen hD
  go_enter Try.func31, Try.ntmps31
  go_wp2
  go_ret
  have hb : Below w.heap.size w ((w.alloc (.cells #[.func (.func g) #[] lb] 41)).alloc (.cells #[.int .i64 N] 3)) := (one_b8 _ _).alloc (by simp) _
  have b0 := ((Boxed.new w 41 (.func (.func g) #[] lb)).alloc (.cells #[.int .i64 N] 3)).cell
  have b1 := (Boxed.new (w.alloc (.cells #[.func (.func g) #[] lb] 41)) 3 (.int .i64 N)).cell
  rw [World.size_alloc] at b1
  refine ⟨_, _, rfl, ⟨enters_of Try.func53 (by kernel_rfl) rfl, ?_⟩, hb⟩
  exact wlk_skip1_int (HS.out.below hb) HE.out (fun k hk => HD.out k (by simp at hk; omega)) b0 b1 (by simp; omega) (by simp) hM hN
end Go.Proofs.Ytdchapcpimhjaaa
/- Layer 9: Count. -/
namespace Go.Proofs.Ytdchapcpimhjaaa
open Go.RowKit Go.Shelf

attribute [local go_sem] Oper.semAt_some

/-- some blocks of one's own, from p on and below N -/
def co0 (p N : Nat) : Co where
  V X := N ≤ X.heap.size
  O _ k := p ≤ k ∧ k < N
  lt X k hv h := by omega
  det X Y hv hs _ := ⟨Nat.le_trans hv hs, fun _ => Iff.rfl⟩
theorem below_ge9 {B : Nat} {w X Y : World} {q : Nat → Prop} (h : Below B w X) (ho : Only q X Y) (hq : ∀ k, q k → B ≤ k) (hB : B ≤ X.heap.size) : Below B w Y :=
  h.trans ⟨ho.os, ho.tape, ho.output, ho.size, fun i hi => ho.block i (by omega) (fun e => by have := hq i e; omega)⟩
theorem co0_kb {p N : Nat} {X Y : World} (h : Only (fun k => p ≤ k ∧ k < N) X Y) : (co0 p N).kb X Y := ⟨h, fun _ hk => .inl hk⟩
set_option maxHeartbeats 4000000 in
set_option maxRecDepth 100000 in
theorem wlk_count_int {g : Nat} {lb : Array Value} {L : List Int} {D : Nat → Prop} {W : World} (hs : SeqX g lb eI L D W) (hen : ∀ args w, (callFunc g args).run Try.prog w = .ok (.enter g args) w) (hD : ∀ k, W.heap.size ≤ k → D k) (hL : L.length ≤ 1000000) :
    Calls Try.prog 25 #[.func (.func g) #[] lb] W fun e w' => e = .returned (.int .i64 (L.length : Int)) ∧ Below W.heap.size W w' := by
  have hnf : ∀ w, (binOp .eql 41 (.func (.func g) #[] lb) .nilFunc).run Try.prog w = .ok (.bool false) w := fun w => rfl
  obtain ⟨p, hp⟩ : ∃ p, p = W.heap.size := ⟨_, rfl⟩
  obtain ⟨W1, hW1⟩ : ∃ W1, W1 = W.alloc (.cells #[.int .i64 0] 3) := ⟨_, rfl⟩
  have hs1 : W1.heap.size = p + 1 := by rw [hW1, hp]; simp
  have bL : Boxed W1 p 3 (.int .i64 0) := by rw [hW1, hp]; exact Boxed.new W _ _
  have hB1 : Below p W W1 := by rw [hW1, hp]; exact one_b8 _ _
  refine (callsIn_wide (n := 9)).1 ?_
  refine callsIn_of_wp_marks Try.func25 rfl trivial ?_ rfl
  simp only [Try.ntmps25, List.size_toArray, List.length_cons, List.length_nil, Nat.reduceAdd, Nat.reduceSub, Array.replicate_succ, Array.replicate_zero, List.push_toArray, List.append_toArray, List.nil_append, List.cons_append]
  gi_wp2_with fail
  rw [← hW1, ← hp]
  clear hW1
  refine rangeX (n := 9) (w := W1) (α := Int) (enc := eI) (L := L) (D := D) (w0 := W) (fun t x => t.setIfInBounds 7 (.int .i64 x)) (co0 p (p + 1)) (gf := g) (lb := lb) (by omega) rfl hen hs (by rw [← hp]; exact hB1) ?_ (fun _ => rfl)
    (fun pre X => Boxed X p 3 (.int .i64 (pre.length : Int)) ∧ Below p W X ∧ p + 1 ≤ X.heap.size)
    (fun _ _ _ => False) (fun _ X h => h.2.2) (fun _ _ X h => h.elim) ?hI ?hIx ?h0 ?assign ?body ?done ?stop
  case hI =>
    rintro s X Y ⟨q1, q2, q3⟩ ho
    rw [hs1] at ho
    exact ⟨boxed_at q1 (ho.block p q1.lt (fun e => by omega)), below_ge9 q2 ho (fun k hk => by omega) (by omega), by have := ho.size; omega⟩
  case hIx => intro cd s X Y h; exact h.elim
  case h0 => exact ⟨bL, hB1, by omega⟩
  case assign =>
    intro l x wx K hK
    clear hp hs1
    simp only [eI]
    simp only [List.setIfInBounds_toArray, List.set_cons_succ, List.set_cons_zero] at hK
    gi_wp2
    simpa using hK
  case body =>
    rintro l pre x X hl hlX hnl ⟨q1, q2, q3⟩ hpre
    obtain ⟨n, hn⟩ : ∃ n, n = pre.length := ⟨_, rfl⟩
    have hnl : n ≤ 1000000 := by obtain ⟨t, rfl⟩ := hpre; simp at hL; omega
    rw [← hn] at q1
    have cL := q1.cell
    have fL := q1.frozen
    have b1 := q1.set (.int .i64 ((n : Int) + 1))
    have o1 : Only (fun k => p ≤ k ∧ k < p + 1) X (X.setCell ⟨p, 0, none⟩ (.int .i64 ((n : Int) + 1))) := Only.setCell (p := fun k => p ≤ k ∧ k < p + 1) (q := ⟨p, 0, none⟩) (Only.refl _ _) (.inl ⟨Nat.le_refl p, by show p < p + 1; omega⟩) _
    have HR : Hid ((co0 p (p + 1)).kb X (X.setCell ⟨p, 0, none⟩ (.int .i64 ((n : Int) + 1))) ∧ Boxed (X.setCell ⟨p, 0, none⟩ (.int .i64 ((n : Int) + 1))) p 3 (.int .i64 ((pre ++ [x]).length : Int)) ∧ Below p W (X.setCell ⟨p, 0, none⟩ (.int .i64 ((n : Int) + 1))) ∧ p + 1 ≤ (X.setCell ⟨p, 0, none⟩ (.int .i64 ((n : Int) + 1))).heap.size) := by
      refine ⟨co0_kb o1, ?_, below_ge9 q2 o1 (fun k hk => hk.1) (by omega), by have := o1.size; omega⟩
      rw [List.length_append, List.length_singleton, ← hn]
      exact b1
    clear hs hen hD hL hp hs1 bL hB1 q1 q2 q3 b1 o1 hn hpre hl hlX
    simp only [List.setIfInBounds_toArray, List.set_cons_succ, List.set_cons_zero]
    gi_wp2
    exact HR.out
  case done =>
    rintro Dn X hDn ⟨q1, q2, q3⟩ hK hnD
    obtain ⟨n, hn⟩ : ∃ n, n = L.length := ⟨_, rfl⟩
    rw [← hn] at q1 hL
    have HN := Lib.hid hn
    have cL := q1.cell
    have HK := Lib.hid hK
    have HB : Hid (Below W.heap.size W (X.putObj Dn (.deferred none))) := below_ge9 (by rw [← hp]; exact q2) (only_put X Dn _) (fun k hk => by omega) (by omega)
    clear hs hen hD hp hs1 bL hB1 q1 q2 q3 hn hDn hK hnD
    gi_wp2
    refine ⟨by simp, .inl ⟨_, _, rfl, run_takeDeferred HK.out, ?_⟩⟩
    refine ⟨_, results_tmp rfl _ _ _, ?_, HB.out⟩
    rw [← HN.out]
    rfl
  case stop =>
    rintro Dn cd pre X hDn hpre h
    exact h.elim
  · intro X k hv hk
    exact hD k (by have : p ≤ k := hk.1; omega)
end Go.Proofs.Ytdchapcpimhjaaa
