/- Layer 9: Prefix. -/
import Derived.Test.YtdchapcpimhjaaaWlkBa
import Derived.Test.YtdchapcpimhjaaaWlkQa
namespace Go.Proofs.Ytdchapcpimhjaaa
open Go.RowKit Go.Shelf

attribute [local go_sem] Oper.semAt_some

set_option maxHeartbeats 4000000 in
set_option maxRecDepth 100000 in
theorem wlk_prefix1 {ex : Nat → Prop} {B B0 B1 : Nat} {o : Option Addr} {l : List Tm.E} {kp : Tm.K} {w : World} (hv : Tz ex B (.pointer o) l w) (hB : B ≤ w.heap.size)
    (hb0 : w.cell? ⟨B0, 0, none⟩ = some (.pointer o)) (hb1 : w.cell? ⟨B1, 0, none⟩ = some (.string (bstr kp))) (hkl : ∀ e ∈ Tm.from_ l kp, e.1.length ≤ 1000) (hpl : kp.length ≤ 1000) (hl0 : B0 < w.heap.size) (hl1 : B1 < w.heap.size) :
    SeqX 38 #[.pointer (some ⟨B0, 0, none⟩), .pointer (some ⟨B1, 0, none⟩)] en9 ((Tm.from_ l kp).takeWhile (okP kp)) (fun k => Kx ex B k ∧ k ≠ B1) w := fun m cc ly J Jx W hbw hcD hlw hlW hJV hJ hJx hJxV hY h0 => by
  have c0 : W.cell? ⟨B0, 0, none⟩ = some (.pointer o) := (hbw.cell (p := ⟨B0, 0, none⟩) hl0).trans hb0
  have c1 : W.cell? ⟨B1, 0, none⟩ = some (.string (bstr kp)) := (hbw.cell (p := ⟨B1, 0, none⟩) hl1).trans hb1
  have hsz := hbw.size
  have hk0 : B0 < W.heap.size := by omega
  have hk1 : B1 < W.heap.size := by omega
  obtain ⟨p, hp⟩ : ∃ p, p = W.heap.size := ⟨_, rfl⟩
  have hlo : Lo cc ly p J Jx := ⟨by omega, hJV, by rw [hp]; exact hJ, by rw [hp]; exact hJx, hJxV⟩
  clear hJV hJ hJx hJxV
  obtain ⟨L, hL⟩ : ∃ L, L = Tm.from_ l kp := ⟨_, rfl⟩
  rw [← hL] at hY ⊢
  have hcB : ∀ X, cc.V X → ¬ cc.O X B1 := fun X h e => (hcD X B1 h e).2 rfl
  obtain ⟨W0, hW0⟩ : ∃ W0, W0 = W.alloc (.cells #[.func (.yield ly) #[] #[]] 39) := ⟨_, rfl⟩
  have hs0 : W0.heap.size = p + 1 := by rw [hW0, hp]; simp
  have bY : Boxed W0 p 39 (.func (.yield ly) #[] #[]) := by rw [hW0, hp]; exact Boxed.new W _ _
  have hB0 : Below W.heap.size W W0 := by rw [hW0]; exact one_b8 _ _
  have HF := Lib.hid (wlk_seqFrom (k := kp) (hv.below (hbw.trans (hB0.mono hsz))) (show B ≤ W0.heap.size by omega))
  refine callsIn_wide.2 ((callsIn_wide (n := 9)).1 ?_)
  refine callsIn_of_wp_marks Try.func38 rfl trivial ?_ rfl
  simp only [Try.ntmps38, List.size_toArray, List.length_cons, List.length_nil, Nat.reduceAdd, Nat.reduceSub, Array.replicate_succ, Array.replicate_zero, List.push_toArray, List.append_toArray, List.nil_append, List.cons_append]
  gi_wp2_with fail
  rw [← hW0, ← hp]
  clear hW0
  refine ⟨trivial, (callsIn_wide.2 HF.out).mono ?_⟩
  rintro e W1 ⟨g, lb, rfl, HS, hB1⟩
  obtain ⟨hen, hs⟩ := HS.out
  have hz1 := hB1.size
  have bY1 : Boxed W1 p 39 (.func (.yield ly) #[] #[]) := boxed_at bY (hB1.block p (by omega))
  have hBW : Below W.heap.size W W1 := hB0.trans (hB1.mono hB0.size)
  obtain ⟨hz, hJ1⟩ := hlo.zs2 (q := p + 1) hp h0 hBW (by omega) (by omega) bY1.cell
  have hbw1 : Below w.heap.size w W1 := hbw.trans (hBW.mono hsz)
  clear HF HS
  gi_wp2_with fail
  rw [← hL] at hs
  rw [← hp]
  refine rangeX (n := 9) (w := W1) (α := Tm.E) (enc := en9) (L := L) (D := Kx ex B) (w0 := W1) (fun t x => (((t.setIfInBounds 9 (.string (bstr x.1))).setIfInBounds 10 (.int .i64 x.2)).setIfInBounds 4 (.string (bstr x.1))).setIfInBounds 5 (.int .i64 x.2)) (c9 cc ly p (p + 1)) (gf := g) (lb := lb) (by omega) rfl hen hs (Below.refl _ _) ?_ (fun _ => rfl)
    (fun pre X => J pre X ∧ Zs cc ly p (p + 1) X ∧ X.cell? ⟨B1, 0, none⟩ = some (.string (bstr kp)) ∧ ∀ e ∈ pre, okP kp e = true)
    (fun cd pre X => cd = .ret ∧ Zs cc ly p (p + 1) X ∧ ((∃ s x, pre = s ++ [x] ∧ okP kp x = false ∧ (∀ e ∈ s, okP kp e = true) ∧ J s X) ∨ (Jx pre X ∧ ∀ e ∈ pre, okP kp e = true))) (fun _ X h => h.2.1.co) (fun _ _ X h => h.2.1.co) ?hI ?hIx ?h0 ?assign ?body ?done ?stop
  case hI =>
    rintro s X Y ⟨q2, q3, q4, q5⟩ ho
    have ho2 := q3.only (only_w ho (fun k hk => ⟨by omega, hk.2⟩))
    exact ⟨hlo.jk q2 ho2, q3.keep ho2, (cell_only8 ho2 (q := ⟨B1, 0, none⟩) (by show B1 < X.heap.size; have := q3.sz; omega) (by show ¬ (p < B1 ∧ _); omega)).trans q4, q5⟩
  case hIx =>
    rintro cd s X Y ⟨q1, q3, q2⟩ ho
    have ho2 := q3.only (only_w ho (fun k hk => ⟨by omega, hk.2⟩))
    refine ⟨q1, q3.keep ho2, ?_⟩
    rcases q2 with ⟨s2, x, e1, e2, e3, q2⟩ | ⟨q2, q4⟩
    · exact .inl ⟨s2, x, e1, e2, e3, hlo.jk q2 ho2⟩
    · exact .inr ⟨hlo.xk q2 ho2, q4⟩
  case h0 => exact ⟨hJ1, hz, (hbw1.cell (p := ⟨B1, 0, none⟩) hl1).trans hb1, by simp⟩
  case assign =>
    intro l x wx K hK
    clear hp hs0
    simp only [en9]
    simp only [List.setIfInBounds_toArray, List.set_cons_succ, List.set_cons_zero] at hK
    gi_wp2
    exact hK
  case body =>
    rintro l' pre x X hl hlX hnl ⟨q2, q3, q4, q5⟩ hpre
    have cY := q3.y
    have hxl : x.1.length ≤ 1000 := by
      refine hkl x ?_
      rw [← hL]
      exact hpre.subset (by simp)
    obtain ⟨T, hT⟩ : ∃ T, T = bstr kp := ⟨_, rfl⟩
    obtain ⟨S, hS⟩ : ∃ S, S = bstr x.1 := ⟨_, rfl⟩
    obtain ⟨i, hi⟩ : ∃ i, i = x.2 := ⟨_, rfl⟩
    have HF := has_prefix (W := X) hxl hpl
    rw [← hT] at q4
    rw [← hS, ← hT] at HF
    rw [← hS, ← hi]
    by_cases hok : okP kp x = true
    case pos =>
      have HH : Hid (Calls Try.prog 39 #[.string S, .string T] X fun e w' => e = .returned (.bool true) ∧ w' = X) := by
        have := HF
        rw [show kp.isPrefixOf x.1 = true from hok] at this
        exact this
      skip
      obtain ⟨fn, tmps, assign, body, hyy, hR⟩ := hlo.call (l := l') (m' := 6) hY q2 q3 (x := x) (prefix_while9 hpre (mem_add9 q5 hok))
      simp only [en9] at hyy
      rw [← hS, ← hi] at hyy
      have HR : Hid (RoundIn (Fence.wide.inRound l') 6 Try.prog ly fn tmps assign body X fun e W' => ∃ b : Bool, e = .returned (.bool b) ∧ Hid (Rd cc ly p (p + 1) J Jx (pre ++ [x]) X b W' ∧ W'.cell? ⟨B1, 0, none⟩ = some (.string (bstr kp)) ∧ ∀ e ∈ pre ++ [x], okP kp e = true)) := hR.mono fun e W' h => by
        obtain ⟨b, e1, h2⟩ := h
        refine ⟨b, e1, h2.out, ?_, mem_add9 q5 hok⟩
        rw [← hT, ← q4]
        refine cell_only8 h2.out.kb.1 (q := ⟨B1, 0, none⟩) (by show B1 < X.heap.size; have := q3.sz; omega) (fun h => ?_)
        rcases h with h | ⟨h | h, h3⟩
        · exact hcB X q3.v h
        · exact absurd (show B1 = ly from h) (by omega)
        · exact absurd (show p < B1 from h) (by omega)
      clear hlo hY hp hs hJ1 hbw1 q2 q3 bY bY1 h0 hz hv hB hb0 hb1 hl0 hl1 hbw hcD hlw hlW hB0 hB1 hBW hpre hT hS hi q5 hcB hL hR HF hok hkl hpl hxl
      simp only [List.setIfInBounds_toArray, List.set_cons_succ, List.set_cons_zero]
      gi_wp2_with fail
      refine ⟨trivial, (CallsIn.inRound l' (callsIn_wide.2 HH.out)).mono ?_⟩
      rintro e wz ⟨rfl, rfl⟩
      gi_wp2_with fail
      refine HR.out.mono ?_
      rintro e1 W2 ⟨b, rfl, hB⟩
      have HB := Lib.hid hB.out
      clear hB HR hyy
      cases b with
      | true =>
        gi_wp2
        exact ⟨HB.out.1.kb, HB.out.1.go rfl, HB.out.1.z, HB.out.2.1, HB.out.2.2⟩
      | false =>
        gi_wp2
        exact ⟨HB.out.1.kb, rfl, HB.out.1.z, .inr ⟨HB.out.1.stop rfl, HB.out.2.2⟩⟩
    case neg =>
      have hno : okP kp x = false := by simpa using hok
      have HH : Hid (Calls Try.prog 39 #[.string S, .string T] X fun e w' => e = .returned (.bool false) ∧ w' = X) := by
        have := HF
        rw [show kp.isPrefixOf x.1 = false from hno] at this
        exact this
      have HR : Hid ((c9 cc ly p (p + 1)).kb X X ∧ Zs cc ly p (p + 1) X ∧ ∃ s y, pre ++ [x] = s ++ [y] ∧ okP kp y = false ∧ (∀ e ∈ s, okP kp e = true) ∧ J s X) := ⟨(c9 cc ly p (p + 1)).kb_refl X, q3, pre, x, rfl, hno, q5, q2⟩
      clear hlo hY hp hs hJ1 hbw1 q2 q3 bY bY1 h0 hz hv hB hb0 hb1 hl0 hl1 hbw hcD hlw hlW hB0 hB1 hBW hpre hT hS hi q5 hcB hL HF hok hno hkl hpl hxl
      simp only [List.setIfInBounds_toArray, List.set_cons_succ, List.set_cons_zero]
      gi_wp2_with fail
      refine ⟨trivial, (CallsIn.inRound l' (callsIn_wide.2 HH.out)).mono ?_⟩
      rintro e wz ⟨rfl, rfl⟩
      gi_wp2_with fail
      refine ⟨fun f h => (by cases h), ?_⟩
      gi_wp2
      exact ⟨HR.out.1, rfl, HR.out.2.1, .inl HR.out.2.2⟩
  case done =>
    rintro Dn X hDn ⟨q2, q3, -, q5⟩ hK hnD
    have HE : Hid (J (L.takeWhile (okP kp)) (X.putObj Dn (.deferred none))) := by
      show J _ _
      rw [while_all9 q5]
      exact hlo.jk q2 (only_w (only_put X Dn _) (fun k hk => by subst hk; exact ⟨by omega, fun h => hnD (.inl h)⟩))
    have HK := Lib.hid hK
    clear hlo hY hp hs hJ1 hbw1 q2 q3 bY bY1 h0 hK hnD hDn hz hv hB hb0 hb1 hl0 hl1 hbw hcD hlw hlW hB0 hB1 hBW
    gi_wp2
    refine ⟨by simp, .inl ⟨_, _, rfl, run_takeDeferred HK.out, ?_⟩⟩
    exact ⟨_, results_none rfl _ _ _, ⟨_, rfl⟩, .inl HE.out⟩
  case stop =>
    rintro Dn cd pre X hDn hpre ⟨rfl, q3, q2⟩ hK hnD
    have HE : Hid (J (L.takeWhile (okP kp)) (X.putObj Dn (.deferred none)) ∨ ∃ pre, pre <+: L.takeWhile (okP kp) ∧ Jx pre (X.putObj Dn (.deferred none))) := by
      have ho := only_w (only_put X Dn (.deferred none)) (q := fun k => p < k ∧ ¬ cc.O X k) (fun k hk => by subst hk; exact ⟨by omega, fun h => hnD (.inl h)⟩)
      rcases q2 with ⟨s2, x, rfl, e2, e3, q2⟩ | ⟨q2, q4⟩
      · left
        rw [while_stop9 hpre e3 e2]
        exact hlo.jk q2 ho
      · exact .inr ⟨_, prefix_while9 hpre q4, hlo.xk q2 ho⟩
    have HK := Lib.hid hK
    clear hlo hY hp hs hJ1 hbw1 q2 q3 bY bY1 h0 hK hnD hDn hz hv hB hb0 hb1 hl0 hl1 hbw hcD hlw hlW hB0 hB1 hBW hpre
    gi_wp2
    refine ⟨by simp, .inl ⟨_, _, rfl, run_takeDeferred HK.out, ?_⟩⟩
    exact ⟨_, results_none rfl _ _ _, ⟨_, rfl⟩, HE.out⟩
  · intro X k hv hk
    rcases hk with hk | ⟨rfl | hk, -⟩
    · exact (hcD X k hv.1 hk).1
    · exact .inr (by omega)
    · exact .inr (by omega)
end Go.Proofs.Ytdchapcpimhjaaa
/- Layer 9: Between and Prefix: what they hand back. -/
namespace Go.Proofs.Ytdchapcpimhjaaa
open Go.RowKit

set_option maxHeartbeats 1000000 in
set_option maxRecDepth 100000 in
theorem wlk_between {ex : Nat → Prop} {B : Nat} {o : Option Addr} {l : List Tm.E} {k kt : Tm.K} {w : World} (hv : Tz ex B (.pointer o) l w) (hB : B ≤ w.heap.size) :
    Calls Try.prog 10 #[.pointer o, .string (bstr k), .string (bstr kt)] w fun e w' => ∃ g lb D, e = .returned (.func (.func g) #[] lb) ∧ Hid ((∀ args w, (callFunc g args).run Try.prog w = .ok (.enter g args) w) ∧ (∀ k, w'.heap.size ≤ k → D k) ∧ SeqX g lb en9 ((Tm.from_ l k).takeWhile (okB kt)) D w') ∧ Below w.heap.size w w' := by
  have HS := Lib.hid hv; have HBB := Lib.hid hB
  skip
  go_enter Try.func10, Try.ntmps10
  clear hv hB
  go_wp2
  go_ret
  obtain ⟨w', hw'⟩ : ∃ w', w' = ((w.alloc (.cells #[.pointer o] 24)).alloc (.cells #[.string (bstr k)] 9)).alloc (.cells #[.string (bstr kt)] 9) := ⟨_, rfl⟩
  have hs : w'.heap.size = w.heap.size + 3 := by rw [hw']; simp
  have hb : Below w.heap.size w w' := by rw [hw']; exact ((one_b8 _ _).alloc (by simp) _).alloc (by simp; omega) _
  have b0 : Boxed w' w.heap.size 24 (.pointer o) := by rw [hw']; exact ((Boxed.new w _ _).alloc _).alloc _
  have b1 : Boxed w' (w.heap.size + 1) 9 (.string (bstr k)) := by
    have := Boxed.new (w.alloc (.cells #[.pointer o] 24)) 9 (.string (bstr k))
    rw [World.size_alloc] at this
    rw [hw']; exact this.alloc _
  have b2 : Boxed w' (w.heap.size + 1 + 1) 9 (.string (bstr kt)) := by
    have := Boxed.new ((w.alloc (.cells #[.pointer o] 24)).alloc (.cells #[.string (bstr k)] 9)) 9 (.string (bstr kt))
    rw [World.size_alloc, World.size_alloc] at this
    rw [hw']; exact this
  rw [← hw']
  refine ⟨_, _, _, rfl, ⟨enters_of Try.func37 (by kernel_rfl) rfl, ?_, wlk_between1 (HS.out.below hb) (by have := HBB.out; omega) b0.cell b1.cell b2.cell b0.lt b1.lt b2.lt⟩, hb⟩
  exact fun k hk => ⟨.inr (by have := HBB.out; omega), by omega⟩

set_option maxHeartbeats 1000000 in
set_option maxRecDepth 100000 in
theorem wlk_prefix {ex : Nat → Prop} {B : Nat} {o : Option Addr} {l : List Tm.E} {k : Tm.K} {w : World} (hv : Tz ex B (.pointer o) l w) (hB : B ≤ w.heap.size) (hkl : ∀ e ∈ Tm.from_ l k, e.1.length ≤ 1000) (hpl : k.length ≤ 1000) :
    Calls Try.prog 12 #[.pointer o, .string (bstr k)] w fun e w' => ∃ g lb D, e = .returned (.func (.func g) #[] lb) ∧ Hid ((∀ args w, (callFunc g args).run Try.prog w = .ok (.enter g args) w) ∧ (∀ k, w'.heap.size ≤ k → D k) ∧ SeqX g lb en9 ((Tm.from_ l k).takeWhile (okP k)) D w') ∧ Below w.heap.size w w' := by
  have HS := Lib.hid hv; have HBB := Lib.hid hB
  have HKL := Lib.hid hkl; have HPL := Lib.hid hpl
  clear hkl hpl
  go_enter Try.func12, Try.ntmps12
  clear hv hB
  go_wp2
  go_ret
  obtain ⟨w', hw'⟩ : ∃ w', w' = (w.alloc (.cells #[.pointer o] 24)).alloc (.cells #[.string (bstr k)] 9) := ⟨_, rfl⟩
  have hs : w'.heap.size = w.heap.size + 2 := by rw [hw']; simp
  have hb : Below w.heap.size w w' := by rw [hw']; exact (one_b8 _ _).alloc (by simp) _
  have b0 : Boxed w' w.heap.size 24 (.pointer o) := by rw [hw']; exact (Boxed.new w _ _).alloc _
  have b1 : Boxed w' (w.heap.size + 1) 9 (.string (bstr k)) := by
    have := Boxed.new (w.alloc (.cells #[.pointer o] 24)) 9 (.string (bstr k))
    rw [World.size_alloc] at this
    rw [hw']; exact this
  rw [← hw']
  refine ⟨_, _, _, rfl, ⟨enters_of Try.func38 (by kernel_rfl) rfl, ?_, wlk_prefix1 (HS.out.below hb) (by have := HBB.out; omega) b0.cell b1.cell HKL.out HPL.out b0.lt b1.lt⟩, hb⟩
  exact fun k hk => ⟨.inr (by have := HBB.out; omega), by omega⟩
end Go.Proofs.Ytdchapcpimhjaaa
/- Layer 9: the walk of WalkTrees. -/
namespace Go.Proofs.Ytdchapcpimhjaaa
open Go.RowKit

attribute [local go_sem] Oper.semAt_some

/-- the nil tree, to be walked over -/
theorem tz_nil9 (ex : Nat → Prop) (W : World) (hex : ∀ k, W.heap.size ≤ k → ¬ ex k) : Tz ex W.heap.size (.pointer none) [] W := Tq.tz (.inl ⟨rfl, rfl⟩) hex
/-- what is looped over: L -/
def Wk9 (L : List Tm.E) (g : FuncId) (lb : Array Value) (w : World) : Prop := (∀ args w, (callFunc g args).run Try.prog w = .ok (.enter g args) w) ∧ ∃ D, (∀ k, w.heap.size ≤ k → D k) ∧ SeqX g lb en9 L D w
/-- a tree beside its pairs -/
structure St9 (W : World) (t : Nat) (x : Option Addr) (m c' : Nat) (l : List Tm.E) (w : World) : Prop where
  p1 : P1 W (exs e0 t) t l w
  ps : Ps (exs e0 t) (.slice x m c') l w
  pl : Pl l
  ln : m = l.length
section
variable {W w w' : World} {t : Nat} {x : Option Addr} {m c' : Nat} {l : List Tm.E}
theorem St9.below (h : St9 W t x m c' l w) (hb : Below w.heap.size w w') : St9 W t x m c' l w' := ⟨h.p1.below hb, h.ps.below hb, h.pl, h.ln⟩
theorem st9_between {k kt : Tm.K} {S T : ByteArray} (h : St9 W t x m c' l w) (hS : S = bstr k) (hT : T = bstr kt) :
    Calls Try.prog 10 #[.pointer (some ⟨t, 0, none⟩), .string S, .string T] w fun e w' => ∃ g lb, e = .returned (.func (.func g) #[] lb) ∧ Hid (Wk9 (l.filter (fB k kt)) g lb w') ∧ St9 W t x m c' l w' := by
  subst hS hT
  refine (wlk_between (h.p1.A.tq.tz h.p1.hex) (Nat.le_refl _)).mono ?_
  rintro e w' ⟨g, lb, D, rfl, HS, hb⟩
  refine ⟨g, lb, rfl, ⟨HS.out.1, D, HS.out.2.1, ?_⟩, h.below hb⟩
  rw [← between_eq9 h.pl.asc]
  exact HS.out.2.2
theorem st9_nil (h : St9 W t x m c' l w) :
    Calls Try.prog 10 #[.pointer none, .string ⟨#[]⟩, .string ⟨#[]⟩] w fun e w' => ∃ g lb, e = .returned (.func (.func g) #[] lb) ∧ Hid (Wk9 [] g lb w') ∧ St9 W t x m c' l w' := by
  refine (wlk_between (k := []) (kt := []) (tz_nil9 (exs e0 t) w h.p1.hex) (Nat.le_refl _)).mono ?_
  rintro e w' ⟨g, lb, D, rfl, HS, hb⟩
  exact ⟨g, lb, rfl, ⟨HS.out.1, D, HS.out.2.1, HS.out.2.2⟩, h.below hb⟩
theorem st9_prefix {k : Tm.K} {S : ByteArray} (h : St9 W t x m c' l w) (hS : S = bstr k) (hk : k.length ≤ 1000) :
    Calls Try.prog 12 #[.pointer (some ⟨t, 0, none⟩), .string S] w fun e w' => ∃ g lb, e = .returned (.func (.func g) #[] lb) ∧ Hid (Wk9 (l.filter (okP k)) g lb w') ∧ St9 W t x m c' l w' := by
  subst hS
  refine (wlk_prefix (h.p1.A.tq.tz h.p1.hex) (Nat.le_refl _) (fun e he => ?_) hk).mono ?_
  · have := (h.pl.one e (List.mem_filter.1 he).1).1
    omega
  rintro e w' ⟨g, lb, D, rfl, HS, hb⟩
  refine ⟨g, lb, rfl, ⟨HS.out.1, D, HS.out.2.1, ?_⟩, h.below hb⟩
  rw [← prefix_eq9 h.pl.asc]
  exact HS.out.2.2
theorem st9_list {L : List Tm.E} {g : FuncId} {lb : Array Value} (h : St9 W t x m c' l w) (hs : Wk9 L g lb w) (hL : L.length ≤ 60) :
    Calls Try.prog 9 #[.func (.func g) #[] lb] w fun e w' => ∃ a n c, e = .returned (.slice a n c) ∧ Hid (n = L.length ∧ Ps (exs e0 t) (.slice a n c) L w') ∧ St9 W t x m c' l w' := by
  obtain ⟨h1, D, h2, h3⟩ := hs
  refine (wlk_listp h3 h1 h2 hL).mono ?_
  rintro e w' ⟨a, n, c, rfl, HS, hb⟩
  exact ⟨a, n, c, rfl, ⟨HS.out.1, HS.out.2 _ h.p1.hex⟩, h.below hb⟩
theorem st9_refB {k kt : Tm.K} {S T : ByteArray} {a : Option Addr} {n c : Nat} {L : List Tm.E} (h : St9 W t x m c' l w) (hS : S = bstr k) (hT : T = bstr kt) (hq : n = L.length ∧ Ps (exs e0 t) (.slice a n c) L w) :
    Calls Try.prog 11 #[.slice x m c', .string S, .string T] w fun e w' => ∃ a2 n2 c2, e = .returned (.slice a2 n2 c2) ∧ Hid ((n = L.length ∧ Ps (exs e0 t) (.slice a n c) L w') ∧ (n2 = (l.filter (fB k kt)).length ∧ Ps (exs e0 t) (.slice a2 n2 c2) (l.filter (fB k kt)) w')) ∧ St9 W t x m c' l w' := by
  subst hS hT
  refine (ref9_Between h.ps (by have := h.ln; have := h.pl.len; omega) h.p1.hex).mono ?_
  rintro e w' ⟨v, rfl, h1, hb⟩
  obtain ⟨a2, c2, rfl⟩ := h1.form
  exact ⟨a2, _, c2, rfl, ⟨⟨hq.1, hq.2.below hb⟩, rfl, h1⟩, h.below hb⟩
theorem st9_refP {k : Tm.K} {S : ByteArray} {a : Option Addr} {n c : Nat} {L : List Tm.E} (h : St9 W t x m c' l w) (hS : S = bstr k) (hk : k.length ≤ 1000) (hq : n = L.length ∧ Ps (exs e0 t) (.slice a n c) L w) :
    Calls Try.prog 13 #[.slice x m c', .string S] w fun e w' => ∃ a2 n2 c2, e = .returned (.slice a2 n2 c2) ∧ Hid ((n = L.length ∧ Ps (exs e0 t) (.slice a n c) L w') ∧ (n2 = (l.filter (okP k)).length ∧ Ps (exs e0 t) (.slice a2 n2 c2) (l.filter (okP k)) w')) ∧ St9 W t x m c' l w' := by
  subst hS
  refine (ref9_Prefix h.ps (by have := h.ln; have := h.pl.len; omega) (fun e he => by have := (h.pl.one e he).1; omega) hk h.p1.hex).mono ?_
  rintro e w' ⟨v, rfl, h1, hb⟩
  obtain ⟨a2, c2, rfl⟩ := h1.form
  exact ⟨a2, _, c2, rfl, ⟨⟨hq.1, hq.2.below hb⟩, rfl, h1⟩, h.below hb⟩
theorem st9_same {a a2 : Option Addr} {n c n2 c2 : Nat} {L : List Tm.E} (h : St9 W t x m c' l w) (hq : (n = L.length ∧ Ps (exs e0 t) (.slice a n c) L w) ∧ (n2 = L.length ∧ Ps (exs e0 t) (.slice a2 n2 c2) L w)) (hL : L.length ≤ 60) :
    Calls Try.prog 8 #[.slice a n c, .slice a2 n2 c2] w fun e w' => e = .returned (.bool true) ∧ St9 W t x m c' l w' := by
  refine (ref8_same hq.1.2 hq.2.2 (by omega) (by omega)).mono ?_
  rintro e w' ⟨v, rfl, h1, hb⟩
  exact ⟨by rw [h1.2 rfl], h.below hb⟩
theorem Pl.few {p : Tm.E → Bool} (h : Pl l) : (l.filter p).length ≤ 60 := Nat.le_trans (take_len9 l) h.len
end
set_option maxHeartbeats 4000000 in
set_option maxRecDepth 100000 in
theorem walk_trees9 {a : Option Addr} {n c : Nat} {ks : List Tm.K} {k kt : Tm.K} {W : World} (h : Rv (fun _ => False) a n c (sk ks) W) :
    Calls Try.prog 3 #[.slice a n c, .string (bstr k), .string (bstr kt)] W fun e w' => e = .returned (.bool true) ∧ Below W.heap.size W w' := by
  have HF := Lib.hid (first9_true (W := W))
  obtain ⟨S, hS⟩ : ∃ S, S = bstr k := ⟨_, rfl⟩
  obtain ⟨T, hT⟩ : ∃ T, T = bstr kt := ⟨_, rfl⟩
  have hSz : S.size = k.length := by rw [hS]; exact bstr_size _
  have hTz : T.size = kt.length := by rw [hT]; exact bstr_size _
  rw [← hS, ← hT]
  obtain ⟨M, hM⟩ : ∃ M : Int, max (S.size : Int) (T.size : Int) = M := ⟨_, rfl⟩
  have HA := Lib.hid h
  by_cases hl : k.length ≤ 50 ∧ kt.length ≤ 50
  case neg =>
    have hMI : 50 < M := by rw [← hM]; omega
    clear hS hT hSz hTz h hl
    go_enter Try.func3, Try.ntmps3
    go_wp2_with (first | (go_at_call 6; refine HF.out.mono ?_; rintro e w1 ⟨rfl, hb1⟩))
    go_ret
    exact ⟨rfl, hb1⟩
  case pos =>
    have hMI : ¬ 50 < M := by rw [← hM]; omega
    have HPR : Hid (∀ w, Below W.heap.size W w → Calls Try.prog 7 #[.slice a n c] w fun e w' => ∃ t x m c' l, e = .returned (.tuple #[.pointer (some ⟨t, 0, none⟩), .slice x m c']) ∧ Hid (P1 w (exs e0 t) t l w' ∧ Ps (exs e0 t) (.slice x m c') l w' ∧ Pl l ∧ m = l.length) ∧ Below w.heap.size w w') := fun w hb => wlk_pairs (HA.out.below hb)
    have HKL : Hid (k.length ≤ 1000) := by show _ ≤ _; omega
    clear hSz hTz h hl
    go_enter Try.func3, Try.ntmps3
    have HS := Lib.hid hS; have HT := Lib.hid hT
    clear hS hT
    go_wp2_with (first
      | (go_at_call 6; refine HF.out.mono ?_; rintro e w1 ⟨rfl, hb1⟩)
      | (go_at_call 7; refine (HPR.out w1 hb1).mono ?_; rintro e w2 ⟨t, x, m, c', l, rfl, HP, hb2⟩; have h2 : Hid (St9 w1 t x m c' l w2) := ⟨HP.out.1, HP.out.2.1, HP.out.2.2.1, HP.out.2.2.2⟩; have HFW : Hid (∀ p : Tm.E → Bool, (l.filter p).length ≤ 60) := fun p => HP.out.2.2.1.few; clear HP hb2)
      | (go_at_call 10; refine (st9_between h2.out HS.out HT.out).mono ?_; rintro e w3 ⟨g3, lb3, rfl, HS3, h3'⟩; have h3 := Lib.hid h3'; clear h3' h2)
      | (go_at_call 9; refine (st9_list h3.out HS3.out (HFW.out _)).mono ?_; rintro e w4 ⟨a4, n4, c4, rfl, HS4, h4'⟩; have h4 := Lib.hid h4'; clear h4' h3 HS3)
      | (go_at_call 11; refine (st9_refB h4.out HS.out HT.out HS4.out).mono ?_; rintro e w5 ⟨a5, n5, c5, rfl, HS5, h5'⟩; have h5 := Lib.hid h5'; clear h5' h4 HS4)
      | (go_at_call 8; refine (st9_same h5.out HS5.out (HFW.out _)).mono ?_; rintro e w6 ⟨rfl, h6'⟩; have h6 := Lib.hid h6'; clear h6' h5 HS5)
      | (go_at_call 12; refine (st9_prefix h6.out HS.out HKL.out).mono ?_; rintro e w7 ⟨g7, lb7, rfl, HS7, h7'⟩; have h7 := Lib.hid h7'; clear h7' h6)
      | (go_at_call 9; refine (st9_list h7.out HS7.out (HFW.out _)).mono ?_; rintro e w8 ⟨a8, n8, c8, rfl, HS8, h8'⟩; have h8 := Lib.hid h8'; clear h8' h7 HS7)
      | (go_at_call 13; refine (st9_refP h8.out HS.out HKL.out HS8.out).mono ?_; rintro e w9 ⟨a9, n9, c9, rfl, HS9, h9'⟩; have h9 := Lib.hid h9'; clear h9' h8 HS8)
      | (go_at_call 8; refine (st9_same h9.out HS9.out (HFW.out _)).mono ?_; rintro e w10 ⟨rfl, h10'⟩; have h10 := Lib.hid h10'; clear h10' h9 HS9)
      | (go_at_call 10; refine (st9_nil h10.out).mono ?_; rintro e w11 ⟨g11, lb11, rfl, HS11, h11'⟩; have h11 := Lib.hid h11'; clear h11' h10)
      | (go_at_call 9; refine (st9_list h11.out HS11.out (by simp)).mono ?_; rintro e w12 ⟨a12, n12, c12, rfl, HS12, h12'⟩; have h12 := Lib.hid h12'; have hn12 : n12 = 0 := HS12.out.1; subst hn12; clear h12' h11 HS11 HS12))
    go_ret
    exact ⟨rfl, hb1.trans (h12.out.p1.bel.mono hb1.size)⟩
end Go.Proofs.Ytdchapcpimhjaaa
