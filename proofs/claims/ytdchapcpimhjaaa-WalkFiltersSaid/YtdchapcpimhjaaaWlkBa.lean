/- Layer 9: Between. -/
import Derived.Test.YtdchapcpimhjaaaWlkPa
namespace Go.Proofs.Ytdchapcpimhjaaa
open Go.RowKit Go.Shelf

attribute [local go_sem] Oper.semAt_some

theorem prefix_while9 {α : Type} {ok : α → Bool} : ∀ {pre L : List α}, pre <+: L → (∀ e ∈ pre, ok e = true) → pre <+: L.takeWhile ok
  | [], _, _, _ => List.nil_prefix
  | a :: r, L, h, ha => by
    obtain ⟨t, rfl⟩ := h
    rw [List.cons_append, List.takeWhile_cons, if_pos (ha a (by simp))]
    obtain ⟨u, hu⟩ := prefix_while9 (L := r ++ t) (List.prefix_append r t) (fun e he => ha e (by simp [he]))
    exact ⟨u, by rw [List.cons_append, hu]⟩
theorem while_stop9 {α : Type} {ok : α → Bool} : ∀ {s L : List α} {x : α}, s ++ [x] <+: L → (∀ e ∈ s, ok e = true) → ok x = false → L.takeWhile ok = s
  | [], L, x, h, _, hx => by
    obtain ⟨t, rfl⟩ := h
    rw [List.nil_append, List.singleton_append, List.takeWhile_cons, if_neg (by rw [hx]; simp)]
  | a :: r, L, x, h, ha, hx => by
    obtain ⟨t, rfl⟩ := h
    rw [List.cons_append, List.cons_append, List.takeWhile_cons, if_pos (ha a (by simp)), while_stop9 (s := r) (x := x) (List.prefix_append _ t) (fun e he => ha e (by simp [he])) hx]
theorem while_all9 {α : Type} {ok : α → Bool} : ∀ {L : List α}, (∀ e ∈ L, ok e = true) → L.takeWhile ok = L
  | [], _ => rfl
  | a :: r, h => by rw [List.takeWhile_cons, if_pos (h a (by simp)), while_all9 (fun e he => h e (by simp [he]))]
theorem mem_add9 {α : Type} {ok : α → Bool} {s : List α} {x : α} (h : ∀ e ∈ s, ok e = true) (hx : ok x = true) : ∀ e ∈ s ++ [x], ok e = true := fun e he => by
  rcases List.mem_append.1 he with he | he
  · exact h e he
  · rw [List.mem_singleton.1 he]; exact hx
/-- behind new blocks, of which some are the inner walk's -/
theorem Lo.zs2 {β : Type} {cc : Co} {ly p q : Nat} {J Jx : List β → World → Prop} (h : Lo cc ly p J Jx) {W W1 : World} (hp : p = W.heap.size) (h0 : J [] W) (ho : Below W.heap.size W W1) (hq : q ≤ W1.heap.size) (hpq : p < q) (hy : W1.cell? ⟨p, 0, none⟩ = some (.func (.yield ly) #[] #[])) : Zs cc ly p q W1 ∧ J [] W1 := by
  have hv := h.jv _ _ h0
  have ho' : ∀ r : Nat → Prop, Only r W W1 := fun r => only_of8 ho
  have hs := cc.same hv.1 (ho' (fun _ => False)) (fun _ h => h.elim)
  refine ⟨⟨hq, hy, hs.1, fun e => hv.2 ((hs.2 _).1 e), fun k h1 h2 e => ?_, hpq⟩, h.jm _ _ _ h0 (only_w (ho' (fun _ => False)) (fun _ h => h.elim))⟩
  have := cc.lt W k hv.1 ((hs.2 k).1 e)
  omega
theorem Co.kb_refl (c : Co) (X : World) : c.kb X X := ⟨Only.refl _ _, fun _ h => .inl h⟩
/-- between two keys: not behind 'kt' -/
def okB (kt : Tm.K) (e : Tm.E) : Bool := kt.isEmpty || Tm.lt e.1 kt
set_option maxHeartbeats 4000000 in
set_option maxRecDepth 100000 in
theorem wlk_between1 {ex : Nat → Prop} {B B0 B1 B2 : Nat} {o : Option Addr} {l : List Tm.E} {from_ kt : Tm.K} {w : World} (hv : Tz ex B (.pointer o) l w) (hB : B ≤ w.heap.size)
    (hb0 : w.cell? ⟨B0, 0, none⟩ = some (.pointer o)) (hb1 : w.cell? ⟨B1, 0, none⟩ = some (.string (bstr from_))) (hb2 : w.cell? ⟨B2, 0, none⟩ = some (.string (bstr kt))) (hl0 : B0 < w.heap.size) (hl1 : B1 < w.heap.size) (hl2 : B2 < w.heap.size) :
    SeqX 37 #[.pointer (some ⟨B0, 0, none⟩), .pointer (some ⟨B1, 0, none⟩), .pointer (some ⟨B2, 0, none⟩)] en9 ((Tm.from_ l from_).takeWhile (okB kt)) (fun k => Kx ex B k ∧ k ≠ B2) w := fun m cc ly J Jx W hbw hcD hlw hlW hJV hJ hJx hJxV hY h0 => by
  have c0 : W.cell? ⟨B0, 0, none⟩ = some (.pointer o) := (hbw.cell (p := ⟨B0, 0, none⟩) hl0).trans hb0
  have c1 : W.cell? ⟨B1, 0, none⟩ = some (.string (bstr from_)) := (hbw.cell (p := ⟨B1, 0, none⟩) hl1).trans hb1
  have hsz := hbw.size
  have hk0 : B0 < W.heap.size := by omega
  have hk1 : B1 < W.heap.size := by omega
  obtain ⟨p, hp⟩ : ∃ p, p = W.heap.size := ⟨_, rfl⟩
  have hlo : Lo cc ly p J Jx := ⟨by omega, hJV, by rw [hp]; exact hJ, by rw [hp]; exact hJx, hJxV⟩
  clear hJV hJ hJx hJxV
  obtain ⟨L, hL⟩ : ∃ L, L = Tm.from_ l from_ := ⟨_, rfl⟩
  rw [← hL] at hY ⊢
  have hcB : ∀ X, cc.V X → ¬ cc.O X B2 := fun X h e => (hcD X B2 h e).2 rfl
  obtain ⟨W0, hW0⟩ : ∃ W0, W0 = W.alloc (.cells #[.func (.yield ly) #[] #[]] 39) := ⟨_, rfl⟩
  have hs0 : W0.heap.size = p + 1 := by rw [hW0, hp]; simp
  have bY : Boxed W0 p 39 (.func (.yield ly) #[] #[]) := by rw [hW0, hp]; exact Boxed.new W _ _
  have hB0 : Below W.heap.size W W0 := by rw [hW0]; exact one_b8 _ _
  have HF := Lib.hid (wlk_seqFrom (k := from_) (hv.below (hbw.trans (hB0.mono hsz))) (show B ≤ W0.heap.size by omega))
  refine callsIn_wide.2 ((callsIn_wide (n := 9)).1 ?_)
  refine callsIn_of_wp_marks Try.func37 rfl trivial ?_ rfl
  simp only [Try.ntmps37, List.size_toArray, List.length_cons, List.length_nil, Nat.reduceAdd, Nat.reduceSub, Array.replicate_succ, Array.replicate_zero, List.push_toArray, List.append_toArray, List.nil_append, List.cons_append]
  gi_wp2_with fail
  rw [← hW0, ← hp]
  clear hW0
  refine ⟨trivial, (callsIn_wide.2 HF.out).mono ?_⟩
  rintro e W1 ⟨g, lb, rfl, HS, hB1⟩
  obtain ⟨hen, hs⟩ := HS.out
  have hz1 := hB1.size
  have bY1 : Boxed W1 p 39 (.func (.yield ly) #[] #[]) := boxed_at bY (hB1.block p (by omega))
  have hBW : Below W.heap.size W W1 := hB0.trans (hB1.mono hB0.size)
  obtain ⟨hz, hJ1⟩ := hlo.zs2 (q := p + 1) hp h0 hBW (by omega) (by omega) bY1.cell
  have hbw1 : Below w.heap.size w W1 := hbw.trans (hBW.mono hsz)
  clear HF HS
  gi_wp2_with fail
  rw [← hL] at hs
  rw [← hp]
  refine rangeX (n := 9) (w := W1) (α := Tm.E) (enc := en9) (L := L) (D := Kx ex B) (w0 := W1) (fun t x => (((t.setIfInBounds 10 (.string (bstr x.1))).setIfInBounds 11 (.int .i64 x.2)).setIfInBounds 5 (.string (bstr x.1))).setIfInBounds 6 (.int .i64 x.2)) (c9 cc ly p (p + 1)) (gf := g) (lb := lb) (by omega) rfl hen hs (Below.refl _ _) ?_ (fun _ => rfl)
    (fun pre X => J pre X ∧ Zs cc ly p (p + 1) X ∧ X.cell? ⟨B2, 0, none⟩ = some (.string (bstr kt)) ∧ ∀ e ∈ pre, okB kt e = true)
    (fun cd pre X => cd = .ret ∧ Zs cc ly p (p + 1) X ∧ ((∃ s x, pre = s ++ [x] ∧ okB kt x = false ∧ (∀ e ∈ s, okB kt e = true) ∧ J s X) ∨ (Jx pre X ∧ ∀ e ∈ pre, okB kt e = true))) (fun _ X h => h.2.1.co) (fun _ _ X h => h.2.1.co) ?hI ?hIx ?h0 ?assign ?body ?done ?stop
  case hI =>
    rintro s X Y ⟨q2, q3, q4, q5⟩ ho
    have ho2 := q3.only (only_w ho (fun k hk => ⟨by omega, hk.2⟩))
    exact ⟨hlo.jk q2 ho2, q3.keep ho2, (cell_only8 ho2 (q := ⟨B2, 0, none⟩) (by show B2 < X.heap.size; have := q3.sz; omega) (by show ¬ (p < B2 ∧ _); omega)).trans q4, q5⟩
  case hIx =>
    rintro cd s X Y ⟨q1, q3, q2⟩ ho
    have ho2 := q3.only (only_w ho (fun k hk => ⟨by omega, hk.2⟩))
    refine ⟨q1, q3.keep ho2, ?_⟩
    rcases q2 with ⟨s2, x, e1, e2, e3, q2⟩ | ⟨q2, q4⟩
    · exact .inl ⟨s2, x, e1, e2, e3, hlo.jk q2 ho2⟩
    · exact .inr ⟨hlo.xk q2 ho2, q4⟩
  case h0 => exact ⟨hJ1, hz, (hbw1.cell (p := ⟨B2, 0, none⟩) hl2).trans hb2, by simp⟩
  case assign =>
    intro l x wx K hK
    clear hp hs0
    simp only [en9]
    simp only [List.setIfInBounds_toArray, List.set_cons_succ, List.set_cons_zero] at hK
    gi_wp2
    exact hK
  case body =>
    rintro l' pre x X hl hlX hnl ⟨q2, q3, q4, q5⟩ hpre
    have cY := q3.y
    obtain ⟨T, hT⟩ : ∃ T, T = bstr kt := ⟨_, rfl⟩
    obtain ⟨S, hS⟩ : ∃ S, S = bstr x.1 := ⟨_, rfl⟩
    obtain ⟨i, hi⟩ : ∃ i, i = x.2 := ⟨_, rfl⟩
    rw [← hT] at q4
    rw [← hS, ← hi]
    by_cases hk : kt.isEmpty = true
    case pos =>
      have hTe : (T.toList == ([] : List UInt8)) = true := by rw [hT, bstr_toList]; simpa using hk
      have hok : okB kt x = true := by unfold okB; simp [hk]
      obtain ⟨fn, tmps, assign, body, hyy, hR⟩ := hlo.call (l := l') (m' := 6) hY q2 q3 (x := x) (prefix_while9 hpre (mem_add9 q5 hok))
      simp only [en9] at hyy
      rw [← hS, ← hi] at hyy
      have HR : Hid (RoundIn (Fence.wide.inRound l') 6 Try.prog ly fn tmps assign body X fun e W' => ∃ b : Bool, e = .returned (.bool b) ∧ Hid (Rd cc ly p (p + 1) J Jx (pre ++ [x]) X b W' ∧ W'.cell? ⟨B2, 0, none⟩ = some (.string (bstr kt)) ∧ ∀ e ∈ pre ++ [x], okB kt e = true)) := hR.mono fun e W' h => by
        obtain ⟨b, e1, h2⟩ := h
        refine ⟨b, e1, h2.out, ?_, mem_add9 q5 hok⟩
        rw [← hT, ← q4]
        refine cell_only8 h2.out.kb.1 (q := ⟨B2, 0, none⟩) (by show B2 < X.heap.size; have := q3.sz; omega) (fun h => ?_)
        rcases h with h | ⟨h | h, h3⟩
        · exact hcB X q3.v h
        · exact absurd (show B2 = ly from h) (by omega)
        · exact absurd (show p < B2 from h) (by omega)
      clear hlo hY hp hs hJ1 hbw1 q2 q3 bY bY1 h0 hz hv hB hb0 hb1 hb2 hl0 hl1 hl2 hbw hcD hlw hlW hB0 hB1 hBW hpre hT hS hi q5 hcB hL hk hR hok
      simp only [List.setIfInBounds_toArray, List.set_cons_succ, List.set_cons_zero]
      gi_wp2_with fail
      refine HR.out.mono ?_
      rintro e1 W2 ⟨b, rfl, hB⟩
      have HB := Lib.hid hB.out
      clear hB HR hyy
      cases b with
      | true =>
        gi_wp2
        exact ⟨HB.out.1.kb, HB.out.1.go rfl, HB.out.1.z, HB.out.2.1, HB.out.2.2⟩
      | false =>
        gi_wp2
        exact ⟨HB.out.1.kb, rfl, HB.out.1.z, .inr ⟨HB.out.1.stop rfl, HB.out.2.2⟩⟩
    case neg =>
      by_cases hq : Tm.lt x.1 kt = true
      case pos =>
        have hTe : (T.toList == ([] : List UInt8)) = false := by rw [hT, bstr_toList]; simpa using hk
        have hqS : Op.bytesLess S.toList T.toList = true := by rw [hS, hT, bstr_toList, bstr_toList]; exact hq
        have hok : okB kt x = true := by unfold okB; simp [hq]
        obtain ⟨fn, tmps, assign, body, hyy, hR⟩ := hlo.call (l := l') (m' := 6) hY q2 q3 (x := x) (prefix_while9 hpre (mem_add9 q5 hok))
        simp only [en9] at hyy
        rw [← hS, ← hi] at hyy
        have HR : Hid (RoundIn (Fence.wide.inRound l') 6 Try.prog ly fn tmps assign body X fun e W' => ∃ b : Bool, e = .returned (.bool b) ∧ Hid (Rd cc ly p (p + 1) J Jx (pre ++ [x]) X b W' ∧ W'.cell? ⟨B2, 0, none⟩ = some (.string (bstr kt)) ∧ ∀ e ∈ pre ++ [x], okB kt e = true)) := hR.mono fun e W' h => by
          obtain ⟨b, e1, h2⟩ := h
          refine ⟨b, e1, h2.out, ?_, mem_add9 q5 hok⟩
          rw [← hT, ← q4]
          refine cell_only8 h2.out.kb.1 (q := ⟨B2, 0, none⟩) (by show B2 < X.heap.size; have := q3.sz; omega) (fun h => ?_)
          rcases h with h | ⟨h | h, h3⟩
          · exact hcB X q3.v h
          · exact absurd (show B2 = ly from h) (by omega)
          · exact absurd (show p < B2 from h) (by omega)
        clear hlo hY hp hs hJ1 hbw1 q2 q3 bY bY1 h0 hz hv hB hb0 hb1 hb2 hl0 hl1 hl2 hbw hcD hlw hlW hB0 hB1 hBW hpre hT hS hi q5 hcB hL hk hR hq hok
        simp only [List.setIfInBounds_toArray, List.set_cons_succ, List.set_cons_zero]
        gi_wp2_with fail
        refine HR.out.mono ?_
        rintro e1 W2 ⟨b, rfl, hB⟩
        have HB := Lib.hid hB.out
        clear hB HR hyy
        cases b with
        | true =>
          gi_wp2
          exact ⟨HB.out.1.kb, HB.out.1.go rfl, HB.out.1.z, HB.out.2.1, HB.out.2.2⟩
        | false =>
          gi_wp2
          exact ⟨HB.out.1.kb, rfl, HB.out.1.z, .inr ⟨HB.out.1.stop rfl, HB.out.2.2⟩⟩
      case neg =>
        have hTe : (T.toList == ([] : List UInt8)) = false := by rw [hT, bstr_toList]; simpa using hk
        have hqS : Op.bytesLess S.toList T.toList = false := by rw [hS, hT, bstr_toList, bstr_toList]; simpa using hq
        have HR : Hid ((c9 cc ly p (p + 1)).kb X X ∧ Zs cc ly p (p + 1) X ∧ ∃ s y, pre ++ [x] = s ++ [y] ∧ okB kt y = false ∧ (∀ e ∈ s, okB kt e = true) ∧ J s X) := ⟨(c9 cc ly p (p + 1)).kb_refl X, q3, pre, x, rfl, by unfold okB; simp at hk hq; simp [hk, hq], q5, q2⟩
        clear hlo hY hp hs hJ1 hbw1 q2 q3 bY bY1 h0 hz hv hB hb0 hb1 hb2 hl0 hl1 hl2 hbw hcD hlw hlW hB0 hB1 hBW hpre hT hS hi q5 hcB hL hk hq
        simp only [List.setIfInBounds_toArray, List.set_cons_succ, List.set_cons_zero]
        gi_wp2_with fail
        refine ⟨fun f h => (by cases h), ?_⟩
        gi_wp2
        exact ⟨HR.out.1, rfl, HR.out.2.1, .inl HR.out.2.2⟩
  case done =>
    rintro Dn X hDn ⟨q2, q3, -, q5⟩ hK hnD
    have HE : Hid (J (L.takeWhile (okB kt)) (X.putObj Dn (.deferred none))) := by
      show J _ _
      rw [while_all9 q5]
      exact hlo.jk q2 (only_w (only_put X Dn _) (fun k hk => by subst hk; exact ⟨by omega, fun h => hnD (.inl h)⟩))
    have HK := Lib.hid hK
    clear hlo hY hp hs hJ1 hbw1 q2 q3 bY bY1 h0 hK hnD hDn hz hv hB hb0 hb1 hb2 hl0 hl1 hl2 hbw hcD hlw hlW hB0 hB1 hBW
    gi_wp2
    refine ⟨by simp, .inl ⟨_, _, rfl, run_takeDeferred HK.out, ?_⟩⟩
    exact ⟨_, results_none rfl _ _ _, ⟨_, rfl⟩, .inl HE.out⟩
  case stop =>
    rintro Dn cd pre X hDn hpre ⟨rfl, q3, q2⟩ hK hnD
    have HE : Hid (J (L.takeWhile (okB kt)) (X.putObj Dn (.deferred none)) ∨ ∃ pre, pre <+: L.takeWhile (okB kt) ∧ Jx pre (X.putObj Dn (.deferred none))) := by
      have ho := only_w (only_put X Dn (.deferred none)) (q := fun k => p < k ∧ ¬ cc.O X k) (fun k hk => by subst hk; exact ⟨by omega, fun h => hnD (.inl h)⟩)
      rcases q2 with ⟨s2, x, rfl, e2, e3, q2⟩ | ⟨q2, q4⟩
      · left
        rw [while_stop9 hpre e3 e2]
        exact hlo.jk q2 ho
      · exact .inr ⟨_, prefix_while9 hpre q4, hlo.xk q2 ho⟩
    have HK := Lib.hid hK
    clear hlo hY hp hs hJ1 hbw1 q2 q3 bY bY1 h0 hK hnD hDn hz hv hB hb0 hb1 hb2 hl0 hl1 hl2 hbw hcD hlw hlW hB0 hB1 hBW hpre
    gi_wp2
    refine ⟨by simp, .inl ⟨_, _, rfl, run_takeDeferred HK.out, ?_⟩⟩
    exact ⟨_, results_none rfl _ _ _, ⟨_, rfl⟩, HE.out⟩
  · intro X k hv hk
    rcases hk with hk | ⟨rfl | hk, -⟩
    · exact (hcD X k hv.1 hk).1
    · exact .inr (by omega)
    · exact .inr (by omega)
end Go.Proofs.Ytdchapcpimhjaaa
/- Layer 9: HasPrefix. -/
namespace Go.Proofs.Ytdchapcpimhjaaa
open Go.RowKit

attribute [local go_sem] Oper.semAt_some

theorem bstr_extract9 (l : List UInt8) (i j : Nat) : (bstr l).extract i j = bstr ((l.drop i).take (j - i)) := by
  apply ByteArray.ext
  apply Array.ext'
  simp [bstr, List.take_drop]
/-- begins with p -/
def okP (p : Tm.K) (e : Tm.E) : Bool := p.isPrefixOf e.1
theorem has_lite {s p : Tm.K} {W : World} (hs : s.length ≤ 1000) (hp : p.length ≤ 1000) :
    Calls Try.prog 60 #[.string (bstr s), .string (bstr p)] W fun e w' => e = .returned (.bool (p.isPrefixOf s)) ∧ w' = W := by
  obtain ⟨S, hS⟩ : ∃ S, S = bstr s := ⟨_, rfl⟩
  obtain ⟨P, hP⟩ : ∃ P, P = bstr p := ⟨_, rfl⟩
  obtain ⟨r, hr⟩ : ∃ r, r = p.isPrefixOf s := ⟨_, rfl⟩
  have hSz : S.size = s.length := by rw [hS]; exact bstr_size s
  have hPz : P.size = p.length := by rw [hP]; exact bstr_size p
  rw [← hS, ← hP, ← hr]
  by_cases hl : P.size ≤ S.size
  case neg =>
    have hlI : ¬ (P.size : Int) ≤ (S.size : Int) := by omega
    have hr2 : Hid (r = false) := by
      show r = false
      rw [hr]
      cases h : p.isPrefixOf s with
      | false => rfl
      | true =>
        have := List.IsPrefix.length_le (List.isPrefixOf_iff_prefix.1 h)
        omega
    clear hS hP hr hSz hPz
    go_enter Try.func60, Try.ntmps60
    go_wp2
    go_ret
    exact ⟨by rw [hr2.out]; rfl, rfl⟩
  case pos =>
    have hlI : (P.size : Int) ≤ (S.size : Int) := by omega
    have hrI : Hid (((S.extract 0 P.size).toList == P.toList) = r) := by
      show _ = r
      rw [hr, hPz, hS, hP, bstr_extract9, bstr_toList, bstr_toList]
      rw [List.drop_zero, Nat.sub_zero]
      rw [Bool.eq_iff_iff, beq_iff_eq, List.isPrefixOf_iff_prefix]
      constructor
      · intro h; rw [← h]; exact List.take_prefix _ _
      · rintro ⟨t, rfl⟩; rw [List.take_left]
    have hb1 : S.size ≤ 1000 := by omega
    have hb2 : P.size ≤ 1000 := by omega
    clear hS hP hr hSz hPz
    go_enter Try.func60, Try.ntmps60
    go_wp2
    go_ret
    exact ⟨by rw [← hrI.out]; rfl, rfl⟩
theorem has_prefix {s p : Tm.K} {W : World} (hs : s.length ≤ 1000) (hp : p.length ≤ 1000) :
    Calls Try.prog 39 #[.string (bstr s), .string (bstr p)] W fun e w' => e = .returned (.bool (p.isPrefixOf s)) ∧ w' = W := by
  have H := Lib.hid (has_lite (W := W) hs hp)
  generalize p.isPrefixOf s = r at *
  clear hs hp
  generalize bstr s = S at *
  generalize bstr p = P at *
  go_enter Try.func39, Try.ntmps39
  go_wp2_with (refine H.out.mono ?_; rintro e w1 ⟨rfl, rfl⟩)
  go_ret
  exact ⟨rfl, rfl⟩
end Go.Proofs.Ytdchapcpimhjaaa
