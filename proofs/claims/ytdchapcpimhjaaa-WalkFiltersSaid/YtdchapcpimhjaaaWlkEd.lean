/- Layer 9: Filter: what is handed over is asked for each pair, and counts how often. -/
import Derived.Test.YtdchapcpimhjaaaWlkEc
import Derived.Test.YtdchapcpimhjaaaWlkBa
import Derived.Test.YtdchapcpimhjaaaWlkEb
import Derived.Test.YtdchapcpimhjaaaWlkUa
import Derived.Test.YtdchapcpimhjaaaWlkRa
import Derived.Test.YtdchapcpimhjaaaWlkSa
import Derived.Test.YtdchapcpimhjaaaWlkPb
import Derived.Test.YtdchapcpimhjaaaTreM
import Derived.ProofKit
import Derived.OpenShut
import Derived.ChangeSlices
import Derived.ChangeOld
import Derived.ChangeMaps5
import Derived.Deep.Strs
import Derived.Shelf.Vars
namespace Go.Proofs.Ytdchapcpimhjaaa
open Go.RowKit Go.Shelf

attribute [local go_sem] Oper.semAt_some

/-- is a pair kept? -/
def okM (m : Nat) (e : Tm.E) : Bool := e.2 % (m : Int) == 0
/-- how many were asked for before n of them were kept -/
def Mn (L : List Tm.E) (ok : Tm.E → Bool) (n i : Nat) : Prop := i ≤ L.length ∧ ((L.take i).filter ok).length = n ∧ ∀ j, j < i → ((L.take j).filter ok).length < n
theorem mn_last {L s : List Tm.E} {ok : Tm.E → Bool} {x : Tm.E} (h : s ++ [x] <+: L) (hx : ok x = true) : Mn L ok ((s ++ [x]).filter ok).length (s ++ [x]).length := by
  refine ⟨h.length_le, ?_, fun j hj => ?_⟩
  · obtain ⟨t, rfl⟩ := h
    rw [List.take_left]
  · obtain ⟨t, rfl⟩ := h
    rw [List.length_append, List.length_singleton] at hj
    rw [List.append_assoc, List.take_append_of_le_length (by omega), List.filter_append, List.length_append, List.filter_cons_of_pos hx]
    have : ((s.take j).filter ok).length ≤ (s.filter ok).length := ((List.take_sublist j s).filter ok).length_le
    simp only [List.filter_nil, List.length_cons, List.length_nil]
    omega
theorem prefix_filter9 {α : Type} (f : α → Bool) {a b : List α} (h : a <+: b) : a.filter f <+: b.filter f := by
  obtain ⟨t, rfl⟩ := h
  rw [List.filter_append]
  exact List.prefix_append _ _
set_option maxHeartbeats 1000000 in
set_option maxRecDepth 100000 in
theorem filters_keep {A M n m : Nat} {v : Int} {S : ByteArray} {Y : World} (hb : cnt9 A n Y) (hm : Y.cell? ⟨M, 0, none⟩ = some (.int .i64 (m : Int))) (hne : M ≠ A) (hn : n ≤ 1000) (hm0 : 1 ≤ m) (hm1 : m ≤ 4) (hv0 : 0 ≤ v) (hv : v ≤ 1000) :
    Calls Try.prog 16 #[.string S, .int .i64 v, .pointer (some ⟨A, 0, none⟩), .pointer (some ⟨M, 0, none⟩)] Y fun e Y' => e = .returned (.bool (v % (m : Int) == 0)) ∧ Y' = Y.setCell ⟨A, 0, none⟩ (.int .i64 ((n : Int) + 1)) := by
  have c0 := hb.cell
  have f0 := hb.frozen
  have c1 : (Y.setCell ⟨A, 0, none⟩ (.int .i64 ((n : Int) + 1))).cell? ⟨M, 0, none⟩ = some (.int .i64 (m : Int)) := by
    rw [← hm]
    simp only [World.cell?, Below.heap_setCell Y ⟨A, 0, none⟩ (.int .i64 ((n : Int) + 1)) M hne]
  have hmI : ¬ (m : Int) = 0 := by omega
  clear hb hm
  go_enter Try.func16, Try.ntmps16
  go_wp2
  go_ret
  exact ⟨rfl, rfl⟩
set_option maxHeartbeats 4000000 in
set_option maxRecDepth 100000 in
theorem wlk_filter1 {B0 B1 A M md g : Nat} {lb : Array Value} {L : List Tm.E} {D : Nat → Prop} {w : World} (hs : SeqX g lb en9 L D w) (hen : ∀ args w, (callFunc g args).run Try.prog w = .ok (.enter g args) w) (hD : ∀ k, w.heap.size ≤ k → D k)
    (hA : cnt9 A 0 w) (hAD : D A) (hM : w.cell? ⟨M, 0, none⟩ = some (.int .i64 (md : Int))) (hMA : M ≠ A) (hMl : M < w.heap.size) (hm0 : 1 ≤ md) (hm1 : md ≤ 4) (hL : L.length ≤ 60) (hLv : ∀ x ∈ L, 0 ≤ x.2 ∧ x.2 ≤ 1000)
    (hb0 : w.cell? ⟨B0, 0, none⟩ = some (.func (.func g) #[] lb)) (hb1 : w.cell? ⟨B1, 0, none⟩ = some (.func (.func 16) #[] #[.pointer (some ⟨A, 0, none⟩), .pointer (some ⟨M, 0, none⟩)])) (hl0 : B0 < w.heap.size) (hl1 : B1 < w.heap.size) :
    SeqE (fun k => k = A) (fun n X => ∃ i, cnt9 A i X ∧ (n = 0 ∧ i = 0 ∨ Mn L (okM md) n i)) (fun X => cnt9 A L.length X) 40 #[.pointer (some ⟨B0, 0, none⟩), .pointer (some ⟨B1, 0, none⟩)] en9 (L.filter (okM md)) (fun k => D k ∧ k ≠ B1 ∧ k ≠ M) w := fun m cc ly J Jx W hbw hcD hlw hlW hJV hJ hJx hJxV hY h0 => by
  have c0 : W.cell? ⟨B0, 0, none⟩ = some (.func (.func g) #[] lb) := (hbw.cell (p := ⟨B0, 0, none⟩) hl0).trans hb0
  have hAl : A < w.heap.size := hA.lt
  have hsz := hbw.size
  have hk0 : B0 < W.heap.size := by omega
  have hBA : B1 ≠ A := fun e => by rw [e] at hb1; rw [Boxed.cell hA] at hb1; cases hb1
  have hnf : ∀ w, (binOp .eql 31 (.func (.func g) #[] lb) .nilFunc).run Try.prog w = .ok (.bool false) w := fun w => rfl
  have hnf2 : ∀ w, (binOp .eql 39 (.func (.func 16) #[] #[.pointer (some ⟨A, 0, none⟩), .pointer (some ⟨M, 0, none⟩)]) .nilFunc).run Try.prog w = .ok (.bool false) w := fun w => rfl
  obtain ⟨p, hp⟩ : ∃ p, p = W.heap.size := ⟨_, rfl⟩
  have hlo : LoE (fun k => k = A) cc ly p J Jx := ⟨by omega, hJV, by rw [hp]; exact hJ, by rw [hp]; exact hJx, hJxV, fun k hk => by omega, fun X k a b => (hcD X k a b).2⟩
  clear hJV hJ hJx hJxV
  obtain ⟨W1, hW1⟩ : ∃ W1, W1 = W.alloc (.cells #[.func (.yield ly) #[] #[]] 39) := ⟨_, rfl⟩
  have hs1 : W1.heap.size = p + 1 := by rw [hW1, hp]; simp
  have bY : Boxed W1 p 39 (.func (.yield ly) #[] #[]) := by rw [hW1, hp]; exact Boxed.new W _ _
  obtain ⟨hz1, hJ1⟩ := hlo.zs (q := p + 1) hp h0 (by rw [hW1]; exact only_new _ W _) hs1.symm (by omega) bY.cell
  have hB1 : Below W.heap.size W W1 := by rw [hW1]; exact one_b8 _ _
  have hb1' : Below w.heap.size w W1 := hbw.trans (hB1.mono hsz)
  have hT1 : cnt9 A 0 W1 := cnt9_at hA (hb1'.block A hAl)
  have d1 : W1.cell? ⟨B1, 0, none⟩ = some (.func (.func 16) #[] #[.pointer (some ⟨A, 0, none⟩), .pointer (some ⟨M, 0, none⟩)]) := (hb1'.cell (p := ⟨B1, 0, none⟩) hl1).trans hb1
  have d2 : W1.cell? ⟨M, 0, none⟩ = some (.int .i64 (md : Int)) := (hb1'.cell (p := ⟨M, 0, none⟩) hMl).trans hM
  have hF : ∀ k, (fun k => k = A) k → (fun k => k = A) k := fun _ h => h
  have hEi : ∀ k, (fun _ : Nat => False) k → (fun k => k = A) k := fun _ h => h.elim
  have hlp := hlo.lt
  have hkp : B1 < p := by omega
  have hMp : M < p := by omega
  have hAp : A < p := by omega
  -- what a box below p keeps
  have hin : ∀ X Y Z, Zs cc ly p (p + 1) X → Only (fun k => (p + 1 ≤ k ∨ False) ∧ ¬ (c9F cc ly p (p + 1) (fun k => k = A)).O X k) X Y → ∀ b, b < p → X.cell? ⟨b, 0, none⟩ = some Z → Y.cell? ⟨b, 0, none⟩ = some Z := fun X Y Z z ho b hb hc => by
    have := z.sz
    refine (cell_only8 ho (q := ⟨b, 0, none⟩) (by show b < X.heap.size; omega) (fun e => ?_)).trans hc
    rcases e.1 with e | e
    · have e : p + 1 ≤ b := e
      omega
    · exact e
  have hout : ∀ X X1 Y Z, Zs cc ly p (p + 1) X1 → Only (fun k => (p < k ∧ k < p + 1) ∨ (fun k => k = A) k) X X1 → p + 1 ≤ X.heap.size → (c9F cc ly p (p + 1) (fun k => k = A)).kb X1 Y → ∀ b, b < p → b ≠ ly → b ≠ A → (b = B1 ∨ b = M) → X.cell? ⟨b, 0, none⟩ = some Z → Y.cell? ⟨b, 0, none⟩ = some Z := fun X X1 Y Z z o1 hx hk b hb h1 h2 h3 hc => by
    have e1 : X1.cell? ⟨b, 0, none⟩ = X.cell? ⟨b, 0, none⟩ := cell_only8 o1 (q := ⟨b, 0, none⟩) (by show b < X.heap.size; omega) (fun e => by
      rcases e with e | e
      · have e : p < b ∧ b < p + 1 := e
        omega
      · exact h2 e)
    rw [← hc, ← e1]
    refine cell_only8 hk.1 (q := ⟨b, 0, none⟩) (by show b < X1.heap.size; have := z.sz; omega) (fun h => ?_)
    rcases h with h | ⟨h | h | h, h4⟩
    · rcases h3 with rfl | rfl
      · exact (hcD X1 _ z.v h).1.2.1 rfl
      · exact (hcD X1 _ z.v h).1.2.2 rfl
    · exact h1 h
    · exact absurd (show p < b from h) (by omega)
    · exact h2 h
  have hBl : B1 ≠ ly := by omega
  have hMly : M ≠ ly := by omega
  refine callsIn_wide.2 ((callsIn_wide (n := 9)).1 ?_)
  refine callsIn_of_wp_marks Try.func40 rfl trivial ?_ rfl
  simp only [Try.ntmps40, List.size_toArray, List.length_cons, List.length_nil, Nat.reduceAdd, Nat.reduceSub, Array.replicate_succ, Array.replicate_zero, List.push_toArray, List.append_toArray, List.nil_append, List.cons_append]
  gi_wp2_with fail
  rw [← hW1, ← hp]
  clear hW1
  refine rangeE (n := 9) (w := W1) (α := Tm.E) (enc := en9) (L := L) (D := D) (w0 := w) (fun t x => (((t.setIfInBounds 9 (.string (bstr x.1))).setIfInBounds 10 (.int .i64 x.2)).setIfInBounds 4 (.string (bstr x.1))).setIfInBounds 5 (.int .i64 x.2)) (c9F cc ly p (p + 1) (fun k => k = A)) (gf := g) (lb := lb) (by omega) rfl hen (seqE_of hs) hb1' (stat_none _) ?_ (fun _ => rfl)
    (fun pre X => J (pre.filter (okM md)) X ∧ Zs cc ly p (p + 1) X ∧ cnt9 A pre.length X ∧ X.cell? ⟨B1, 0, none⟩ = some (.func (.func 16) #[] #[.pointer (some ⟨A, 0, none⟩), .pointer (some ⟨M, 0, none⟩)]) ∧ X.cell? ⟨M, 0, none⟩ = some (.int .i64 (md : Int)))
    (fun cd pre X => cd = .ret ∧ Zs cc ly p (p + 1) X ∧ Jx (pre.filter (okM md)) X ∧ cnt9 A pre.length X ∧ ∃ s x, pre = s ++ [x] ∧ okM md x = true) (fun _ X h => hlo.co hF h.2.1) (fun _ _ X h => hlo.co hF h.2.1) ?hI ?hIx ?h0 ?assign ?body ?done ?stop
  case hI =>
    rintro s X Y ⟨q2, q3, q4, q5, q6⟩ ho
    rw [hs1] at ho
    have ho2 := hlo.only hEi q3 ho
    exact ⟨hlo.jk q2 ho2, hlo.keep q3 ho2, cnt9_at q4 (hlo.ownF hF ho q3 rfl), hin _ _ _ q3 ho B1 hkp q5, hin _ _ _ q3 ho M hMp q6⟩
  case hIx =>
    rintro cd s X Y ⟨q1, q3, q2, q4, q5⟩ ho
    rw [hs1] at ho
    have ho2 := hlo.only hEi q3 ho
    exact ⟨q1, hlo.keep q3 ho2, hlo.xk q2 ho2, cnt9_at q4 (hlo.ownF hF ho q3 rfl), q5⟩
  case h0 => exact ⟨hJ1, hz1, hT1, d1, d2⟩
  case assign =>
    intro l x wx K hK
    clear hp hs1
    simp only [en9]
    simp only [List.setIfInBounds_toArray, List.set_cons_succ, List.set_cons_zero] at hK
    gi_wp2
    exact hK
  case body =>
    rintro l pre x X hl hlX hnl ⟨q2, q3, q4, q5, q6⟩ hpre
    have hxL : x ∈ L := by obtain ⟨t, rfl⟩ := hpre; simp
    obtain ⟨hx0, hx1⟩ := hLv x hxL
    obtain ⟨n, hn⟩ : ∃ n, n = pre.length := ⟨_, rfl⟩
    rw [← hn] at q4
    have hn60 : n ≤ 1000 := by have := hpre.length_le; rw [List.length_append, List.length_singleton] at this; omega
    have hX := q3.sz
    obtain ⟨S, hS⟩ : ∃ S, S = bstr x.1 := ⟨_, rfl⟩
    obtain ⟨i, hi⟩ : ∃ i, i = x.2 := ⟨_, rfl⟩
    have HK : Hid (∀ X1, Only (fun k => False) X X1 → Calls Try.prog 16 #[.string S, .int .i64 i, .pointer (some ⟨A, 0, none⟩), .pointer (some ⟨M, 0, none⟩)] X1 fun e Y' => e = .returned (.bool (okM md x)) ∧ Y' = X1.setCell ⟨A, 0, none⟩ (.int .i64 ((n : Int) + 1))) := fun X1 ho => by
      have := filters_keep (S := S) (v := i) (cnt9_at q4 (ho.block A (by omega) id)) ((cell_only8 ho (q := ⟨M, 0, none⟩) (by show M < X.heap.size; omega) id).trans q6) hMA hn60 hm0 hm1 (by omega) (by omega)
      rw [hi] at this ⊢
      exact this
    have HAFT : Hid (∀ X1, Only (fun k => False) X X1 → ∃ X2, X2 = X1.setCell ⟨A, 0, none⟩ (.int .i64 ((n : Int) + 1)) ∧ Only (fun k => (p < k ∧ k < p + 1) ∨ (fun k => k = A) k) X X2 ∧ cnt9 A (n + 1) X2) := fun X1 ho => by
      refine ⟨_, rfl, Only.setCell (p := fun k => (p < k ∧ k < p + 1) ∨ k = A) (q := ⟨A, 0, none⟩) (only_w ho (fun _ h => h.elim)) (.inl (.inr rfl)) _, (cnt9_at q4 (ho.block A (by omega) id)).set _⟩
    rw [← hS, ← hi]
    by_cases hok : okM md x = true
    case pos =>
      have hfl : (pre ++ [x]).filter (okM md) = pre.filter (okM md) ++ [x] := by rw [List.filter_append, List.filter_cons_of_pos hok, List.filter_nil]
      have HR : Hid (∀ X1, Only (fun k => False) X X1 → ∃ fn tmps assign body, (Instr.yield ly #[.string S, .int .i64 i]).run Try.prog (X1.setCell ⟨A, 0, none⟩ (.int .i64 ((n : Int) + 1))) = .ok (.round ly fn tmps assign body) (X1.setCell ⟨A, 0, none⟩ (.int .i64 ((n : Int) + 1))) ∧ (X1.setCell ⟨A, 0, none⟩ (.int .i64 ((n : Int) + 1))).cell? ⟨p, 0, none⟩ = some (.func (.yield ly) #[] #[]) ∧ RoundIn (Fence.wide.inRound l) 6 Try.prog ly fn tmps assign body (X1.setCell ⟨A, 0, none⟩ (.int .i64 ((n : Int) + 1))) fun e W' => ∃ b : Bool, e = .returned (.bool b) ∧ Hid ((c9F cc ly p (p + 1) (fun k => k = A)).kb X W' ∧ Zs cc ly p (p + 1) W' ∧ cnt9 A (pre ++ [x]).length W' ∧ (W'.cell? ⟨B1, 0, none⟩ = some (.func (.func 16) #[] #[.pointer (some ⟨A, 0, none⟩), .pointer (some ⟨M, 0, none⟩)]) ∧ W'.cell? ⟨M, 0, none⟩ = some (.int .i64 (md : Int))) ∧ (b = true → J ((pre ++ [x]).filter (okM md)) W') ∧ (b = false → Jx ((pre ++ [x]).filter (okM md)) W'))) := fun X1 ho => by
        obtain ⟨X2, hX2, o1, t2⟩ := HAFT.out X1 ho
        obtain ⟨o2, k1⟩ := hlo.wr hF q3 o1
        have z1 := hlo.keep q3 o2
        have j1 := hlo.jk q2 o2
        rw [← hX2]
        obtain ⟨fn, tmps, assign, body, hyy, hR⟩ := hlo.call hF (l := l) (m' := 6) hY j1 z1 (x := x) (by rw [← hfl]; exact prefix_filter9 _ hpre)
        simp only [en9] at hyy
        rw [← hS, ← hi] at hyy
        refine ⟨fn, tmps, assign, body, hyy, z1.y, hR.mono ?_⟩
        rintro e W' ⟨b, rfl, hd⟩
        have hd := hd.out
        refine ⟨b, rfl, Co.kb_trans k1 hd.kb, hd.z, ?_, ⟨hout _ _ _ _ z1 o1 hX hd.kb B1 hkp hBl hBA (.inl rfl) q5, hout _ _ _ _ z1 o1 hX hd.kb M hMp hMly hMA (.inr rfl) q6⟩, ?_, ?_⟩
        · rw [List.length_append, List.length_singleton, ← hn]
          exact cnt9_at t2 (hd.ownE A rfl)
        · rw [hfl]; exact hd.go
        · rw [hfl]; exact hd.stop
      have HLA : Hid (∃ s y, pre ++ [x] = s ++ [y] ∧ okM md y = true) := ⟨pre, x, rfl, hok⟩
      have cY := q3.y
      have HK2 : Hid (Calls Try.prog 16 #[.string S, .int .i64 i, .pointer (some ⟨A, 0, none⟩), .pointer (some ⟨M, 0, none⟩)] X fun e Y' => e = .returned (.bool true) ∧ Y' = X.setCell ⟨A, 0, none⟩ (.int .i64 ((n : Int) + 1))) := by rw [← hok]; exact HK.out X (Only.refl _ _)
      obtain ⟨fn, tmps, assign, body, hyy, cY2, hR⟩ := HR.out X (Only.refl _ _)
      have HR2 := Lib.hid hR
      clear hlo hY hp hs1 hs hz1 hJ1 hb1' bY h0 hF hEi hB1 hT1 d1 d2 hbw hcD hlw hlW hD hA hb0 hb1 hl0 hl1 hAl hLv hL hin hout hlp hkp hMp hAp hBl hMly hBA hsz hMl hM hAD hMA q2 q3 q4 q6 hok hfl hS hi hn hx0 hx1 hX hpre hxL HR hR HAFT HK
      simp only [List.setIfInBounds_toArray, List.set_cons_succ, List.set_cons_zero]
      gi_wp2_with fail
      refine ⟨trivial, ?_⟩
      refine (CallsIn.inRound l (callsIn_wide.2 HK2.out)).mono ?_
      rintro e w1 ⟨rfl, rfl⟩
      gi_wp2_with fail
      refine HR2.out.mono ?_
      rintro e1 W2 ⟨b, rfl, hB⟩
      have HB := Lib.hid hB.out
      clear hB HR2 hyy cY2
      cases b with
      | true =>
        gi_wp2
        exact ⟨HB.out.1, HB.out.2.2.2.2.1 (by trivial), HB.out.2.1, HB.out.2.2.1, HB.out.2.2.2.1⟩
      | false =>
        gi_wp2
        exact ⟨HB.out.1, rfl, HB.out.2.1, HB.out.2.2.2.2.2 (by trivial), HB.out.2.2.1, HLA.out⟩
    case neg =>
      have hok' : okM md x = false := by simpa using hok
      have hfl : (pre ++ [x]).filter (okM md) = pre.filter (okM md) := by rw [List.filter_append, List.filter_cons_of_neg hok, List.filter_nil, List.append_nil]
      have HE : Hid ((c9F cc ly p (p + 1) (fun k => k = A)).kb X (X.setCell ⟨A, 0, none⟩ (.int .i64 ((n : Int) + 1))) ∧ J ((pre ++ [x]).filter (okM md)) (X.setCell ⟨A, 0, none⟩ (.int .i64 ((n : Int) + 1))) ∧ Zs cc ly p (p + 1) (X.setCell ⟨A, 0, none⟩ (.int .i64 ((n : Int) + 1))) ∧ cnt9 A (pre ++ [x]).length (X.setCell ⟨A, 0, none⟩ (.int .i64 ((n : Int) + 1))) ∧ (X.setCell ⟨A, 0, none⟩ (.int .i64 ((n : Int) + 1))).cell? ⟨B1, 0, none⟩ = some (.func (.func 16) #[] #[.pointer (some ⟨A, 0, none⟩), .pointer (some ⟨M, 0, none⟩)]) ∧ (X.setCell ⟨A, 0, none⟩ (.int .i64 ((n : Int) + 1))).cell? ⟨M, 0, none⟩ = some (.int .i64 (md : Int))) := by
        obtain ⟨X2, hX2, o1, t2⟩ := HAFT.out X (Only.refl _ _)
        obtain ⟨o2, k1⟩ := hlo.wr hF q3 o1
        rw [← hX2, hfl, List.length_append, List.length_singleton, ← hn]
        refine ⟨k1, hlo.jk q2 o2, hlo.keep q3 o2, t2, ?_, ?_⟩
        · exact hout _ _ _ _ (hlo.keep q3 o2) o1 hX ((c9F cc ly p (p + 1) (fun k => k = A)).kb_refl _) B1 hkp hBl hBA (.inl rfl) q5
        · exact hout _ _ _ _ (hlo.keep q3 o2) o1 hX ((c9F cc ly p (p + 1) (fun k => k = A)).kb_refl _) M hMp hMly hMA (.inr rfl) q6
      have cY := q3.y
      have HK2 : Hid (Calls Try.prog 16 #[.string S, .int .i64 i, .pointer (some ⟨A, 0, none⟩), .pointer (some ⟨M, 0, none⟩)] X fun e Y' => e = .returned (.bool false) ∧ Y' = X.setCell ⟨A, 0, none⟩ (.int .i64 ((n : Int) + 1))) := by rw [← hok']; exact HK.out X (Only.refl _ _)
      clear hlo hY hp hs1 hs hz1 hJ1 hb1' bY h0 hF hEi hB1 hT1 d1 d2 hbw hcD hlw hlW hD hA hb0 hb1 hl0 hl1 hAl hLv hL hin hout hlp hkp hMp hAp hBl hMly hBA hsz hMl hM hAD hMA q2 q3 q4 q6 hok hok' hfl hS hi hn hx0 hx1 hX hpre hxL HAFT HK
      simp only [List.setIfInBounds_toArray, List.set_cons_succ, List.set_cons_zero]
      gi_wp2_with fail
      refine ⟨trivial, ?_⟩
      refine (CallsIn.inRound l (callsIn_wide.2 HK2.out)).mono ?_
      rintro e w1 ⟨rfl, rfl⟩
      gi_wp2_with fail
      refine ⟨fun f h => (by cases h), ?_⟩
      gi_wp2
      exact ⟨HE.out.1, HE.out.2.1, HE.out.2.2.1, HE.out.2.2.2.1, HE.out.2.2.2.2⟩
  case done =>
    rintro Dn X hDn ⟨q2, q3, q4, -⟩ - hK hnD
    have HE : Hid (J (L.filter (okM md)) (X.putObj Dn (.deferred none)) ∧ cnt9 A L.length (X.putObj Dn (.deferred none))) := ⟨hlo.jk q2 (only_w (only_put X Dn _) (fun k hk => by subst hk; exact ⟨.inl (by omega), fun h => hnD (.inl h)⟩)), cnt9_at q4 (World.putObj_heap_other (by omega))⟩
    have HK := Lib.hid hK
    clear hlo hY hp hs1 hs hz1 hJ1 hb1' bY h0 hF hEi hB1 hT1 d1 d2 hbw hcD hlw hlW hD hA hb0 hb1 hl0 hl1 hAl hLv hL hin hout hlp hkp hMp hAp hBl hMly hBA hsz hMl hM hAD hMA q2 q3 q4 hK hnD hDn
    gi_wp2
    refine ⟨by simp, .inl ⟨_, _, rfl, run_takeDeferred HK.out, ?_⟩⟩
    exact ⟨_, results_none rfl _ _ _, ⟨_, rfl⟩, .inl HE.out⟩
  case stop =>
    rintro Dn cd pre X hDn hpre ⟨rfl, q3, q2, q4, s, x, rfl, hx⟩ - hK hnD
    have HE : Hid (∃ pre, pre <+: L.filter (okM md) ∧ Jx pre (X.putObj Dn (.deferred none)) ∧ ∃ i, cnt9 A i (X.putObj Dn (.deferred none)) ∧ (pre.length = 0 ∧ i = 0 ∨ Mn L (okM md) pre.length i)) := ⟨_, prefix_filter9 _ hpre, hlo.xk q2 (only_w (only_put X Dn _) (fun k hk => by subst hk; exact ⟨.inl (by omega), fun h => hnD (.inl h)⟩)), _, cnt9_at q4 (World.putObj_heap_other (by omega)), .inr (mn_last hpre hx)⟩
    have HK := Lib.hid hK
    clear hlo hY hp hs1 hs hz1 hJ1 hb1' bY h0 hF hEi hB1 hT1 d1 d2 hbw hcD hlw hlW hD hA hb0 hb1 hl0 hl1 hAl hLv hL hin hout hlp hkp hMp hAp hBl hMly hBA hsz hMl hM hAD hMA q2 q3 q4 hK hnD hDn hpre
    gi_wp2
    refine ⟨by simp, .inl ⟨_, _, rfl, run_takeDeferred HK.out, ?_⟩⟩
    exact ⟨_, results_none rfl _ _ _, ⟨_, rfl⟩, .inr HE.out⟩
  · exact c9F_D (fun X k a b => ⟨(hcD X k a b).1.1, (hcD X k a b).2⟩) hEi hlo.el hlo.lt (fun k hk => by subst hk; exact ⟨hAD, id⟩) hD hlw
set_option maxHeartbeats 1000000 in
set_option maxRecDepth 100000 in
theorem wlk_filter {A M md g : Nat} {lb : Array Value} {L : List Tm.E} {D : Nat → Prop} {w : World} (hs : SeqX g lb en9 L D w) (hen : ∀ args w, (callFunc g args).run Try.prog w = .ok (.enter g args) w) (hD : ∀ k, w.heap.size ≤ k → D k)
    (hA : cnt9 A 0 w) (hAD : D A) (hM : w.cell? ⟨M, 0, none⟩ = some (.int .i64 (md : Int))) (hMA : M ≠ A) (hMl : M < w.heap.size) (hm0 : 1 ≤ md) (hm1 : md ≤ 4) (hL : L.length ≤ 60) (hLv : ∀ x ∈ L, 0 ≤ x.2 ∧ x.2 ≤ 1000) :
    Calls Try.prog 14 #[.func (.func g) #[] lb, (.func (.func 16) #[] #[.pointer (some ⟨A, 0, none⟩), .pointer (some ⟨M, 0, none⟩)])] w fun e w' => ∃ g2 lb2, e = .returned (.func (.func g2) #[] lb2) ∧ Hid ((∀ args w, (callFunc g2 args).run Try.prog w = .ok (.enter g2 args) w) ∧ SeqE (fun k => k = A) (fun n X => ∃ i, cnt9 A i X ∧ (n = 0 ∧ i = 0 ∨ Mn L (okM md) n i)) (fun X => cnt9 A L.length X) g2 lb2 en9 (L.filter (okM md)) (fun k => D k ∧ k ≠ w.heap.size + 1 ∧ k ≠ M) w') ∧ w'.heap.size = w.heap.size + 2 ∧ Below w.heap.size w w' := by
  have HS := Lib.hid hs; have HE := Lib.hid hen; have HD := Lib.hid hD; have HA := Lib.hid hA; have HAD := Lib.hid hAD; have HM := Lib.hid hM; have HX := Lib.hid (And.intro hMA (And.intro hMl (And.intro hm0 (And.intro hm1 (And.intro hL hLv)))))
  clear hs hen hD hA hAD hM hMA hMl hm0 hm1 hL hLv
  go_enter Try.func14, Try.ntmps14
  go_wp2
  go_ret
  have hb : Below w.heap.size w ((w.alloc (.cells #[.func (.func g) #[] lb] 31)).alloc (.cells #[(.func (.func 16) #[] #[.pointer (some ⟨A, 0, none⟩), .pointer (some ⟨M, 0, none⟩)])] 39)) := (one_b8 _ _).alloc (by simp) _
  have b0 := ((Boxed.new w 31 (.func (.func g) #[] lb)).alloc (.cells #[(.func (.func 16) #[] #[.pointer (some ⟨A, 0, none⟩), .pointer (some ⟨M, 0, none⟩)])] 39)).cell
  have b1 := (Boxed.new (w.alloc (.cells #[.func (.func g) #[] lb] 31)) 39 (.func (.func 16) #[] #[.pointer (some ⟨A, 0, none⟩), .pointer (some ⟨M, 0, none⟩)])).cell
  rw [World.size_alloc] at b1
  obtain ⟨x1, x2, x3, x4, x5, x6⟩ := HX.out
  refine ⟨_, _, rfl, ⟨enters_of Try.func40 (by kernel_rfl) rfl, wlk_filter1 (HS.out.below hb) HE.out (fun k hk => HD.out k (by simp at hk; omega)) (cnt9_at HA.out (hb.block A HA.out.lt)) HAD.out ((hb.cell (p := ⟨M, 0, none⟩) x2).trans HM.out) x1 (by simp; omega) x3 x4 x5 x6 b0 b1 (by simp; omega) (by simp)⟩, by simp, hb⟩
end Go.Proofs.Ytdchapcpimhjaaa
/- Layer 9: how many are asked for (plain). -/
namespace Go.Proofs.Ytdchapcpimhjaaa

def cntM (L : List Tm.E) (ok : Tm.E → Bool) (i : Nat) : Nat := ((L.take i).filter ok).length
/-- i of L must be asked for, where n of the kept ones are wanted -/
def Mu (L : List Tm.E) (ok : Tm.E → Bool) (n i : Nat) : Prop := i ≤ L.length ∧ (∀ j, j < i → cntM L ok j < n) ∧ (cntM L ok i = n ∨ i = L.length)
section
variable {L : List Tm.E} {ok : Tm.E → Bool} {n i j : Nat}
theorem mu_uniq (h : Mu L ok n i) (h2 : Mu L ok n j) : i = j := by
  obtain ⟨a1, a2, a3⟩ := h
  obtain ⟨b1, b2, b3⟩ := h2
  rcases Nat.lt_trichotomy i j with e | e | e
  · have := b2 i e
    rcases a3 with a3 | a3 <;> omega
  · exact e
  · have := a2 j e
    rcases b3 with b3 | b3 <;> omega
theorem cntM_step (hj : j < L.length) : L.take (j + 1) = L.take j ++ [L[j]] := by rw [List.take_add_one, List.getElem?_eq_getElem hj]; rfl
theorem cntM_le (hj : j < L.length) : cntM L ok (j + 1) ≤ cntM L ok j + 1 := by
  unfold cntM
  rw [cntM_step hj, List.filter_append, List.length_append]
  have := List.length_filter_le ok [L[j]]
  simp only [List.length_singleton] at this
  omega
theorem cntM_all : cntM L ok L.length = (L.filter ok).length := by unfold cntM; rw [List.take_length]
theorem mu_filter (h : Mu L ok n i) : (L.take i).filter ok = (L.filter ok).take n := by
  obtain ⟨h1, h2, h3⟩ := h
  rcases h3 with h3 | h3
  · have e : L.filter ok = (L.take i).filter ok ++ (L.drop i).filter ok := by rw [← List.filter_append, List.take_append_drop]
    rw [e, ← h3]
    exact (List.take_left).symm
  · subst h3
    rw [List.take_length, List.take_of_length_le]
    rcases Nat.eq_zero_or_pos L.length with h0 | h0
    · have := List.length_filter_le ok L
      omega
    · have a := h2 (L.length - 1) (by omega)
      have b := cntM_le (L := L) (ok := ok) (j := L.length - 1) (by omega)
      rw [show L.length - 1 + 1 = L.length by omega, cntM_all] at b
      omega
theorem mu_mn (h : Mn L ok n i) : Mu L ok n i := ⟨h.1, h.2.2, .inl h.2.1⟩
theorem mu_zero : Mu L ok 0 0 := ⟨Nat.zero_le _, fun j hj => by omega, .inl rfl⟩
theorem mu_all (h : (L.filter ok).length < n) : Mu L ok n L.length := by
  refine ⟨Nat.le_refl _, fun j _ => ?_, .inr rfl⟩
  have : cntM L ok j ≤ (L.filter ok).length := ((List.take_sublist j L).filter ok).length_le
  omega
end
theorem from_nil9 (l : List Tm.E) : Tm.from_ l [] = l := by
  unfold Tm.from_
  refine List.filter_eq_self.2 (fun e _ => ?_)
  cases e.1 <;> rfl
/-- what the counters hold behind the loop -/
theorem cnt_end {A T n : Nat} {L : List Tm.E} {ok : Tm.E → Bool} {X : World} {N : Nat} (hN : N = (L.filter ok).length) (h : (n ≤ N → (∃ i, cnt9 A i X ∧ (n = 0 ∧ i = 0 ∨ Mn L ok n i)) ∧ cnt9 T n X) ∧ (N < n → cnt9 A L.length X ∧ cnt9 T N X)) : ∃ i, Mu L ok n i ∧ cnt9 A i X ∧ cnt9 T (min n N) X := by
  subst hN
  rcases Nat.lt_or_ge (L.filter ok).length n with e | e
  · obtain ⟨h1, h2⟩ := h.2 e
    exact ⟨_, mu_all e, h1, by rw [Nat.min_eq_right (by omega)]; exact h2⟩
  · obtain ⟨⟨i, h1, h2⟩, h3⟩ := h.1 e
    refine ⟨i, ?_, h1, by rw [Nat.min_eq_left e]; exact h3⟩
    rcases h2 with ⟨rfl, rfl⟩ | h2
    · exact mu_zero
    · exact mu_mn h2
/-- what is known of the counters' blocks alone -/
theorem stat_filter {A B : Nat} {L : List Tm.E} {ok : Tm.E → Bool} (h : A < B) : Stat (fun k => k = A) B (fun n X => ∃ i, cnt9 A i X ∧ (n = 0 ∧ i = 0 ∨ Mn L ok n i)) (fun X => cnt9 A L.length X) :=
  ⟨fun k hk => by omega, fun _ _ _ ⟨i, h1, h2⟩ e => ⟨i, cnt9_at h1 (e A rfl), h2⟩, fun _ _ h1 e => cnt9_at h1 (e A rfl)⟩
theorem stat_map {E : Nat → Prop} {St : Nat → World → Prop} {Se : World → Prop} {T B N : Nat} (h : Stat E B St Se) (hT : T < B) : Stat (fun k => E k ∨ k = T) B (fun n X => St n X ∧ cnt9 T n X) (fun X => Se X ∧ cnt9 T N X) :=
  ⟨fun k hk => hk.elim (h.lt k) (fun e => by omega), fun _ _ _ ⟨h1, h2⟩ e => ⟨h.st _ _ _ h1 (fun k hk => e k (.inl hk)), cnt9_at h2 (e T (.inr rfl))⟩, fun _ _ ⟨h1, h2⟩ e => ⟨h.se _ _ h1 (fun k hk => e k (.inl hk)), cnt9_at h2 (e T (.inr rfl))⟩⟩
theorem stat_take {E : Nat → Prop} {St : Nat → World → Prop} {Se : World → Prop} {B n N : Nat} (h : Stat E B St Se) : Stat E B St (fun X => (n ≤ N → St n X) ∧ (N < n → Se X)) :=
  ⟨h.lt, h.st, fun _ _ ⟨h1, h2⟩ e => ⟨fun q => h.st _ _ _ (h1 q) e, fun q => h.se _ _ (h2 q) e⟩⟩
end Go.Proofs.Ytdchapcpimhjaaa
/- Layer 9: the steps of WalkFilters. -/
namespace Go.Proofs.Ytdchapcpimhjaaa
open Go.RowKit

/-- behind the counters: the tree beside its pairs; the divisor, how many were asked for, how many were turned -/
structure Sf (W : World) (t : Nat) (x : Option Addr) (m c' : Nat) (l : List Tm.E) (V : World) (md i k : Nat) (w : World) : Prop where
  st : St9 W t x m c' l V
  bel : Below V.heap.size V w
  sz : V.heap.size + 3 ≤ w.heap.size
  cm : cnt9 V.heap.size md w
  ca : cnt9 (V.heap.size + 1) i w
  ct : cnt9 (V.heap.size + 1 + 1) k w
/-- what is looped over, with what is known behind the loop -/
def Ws {α : Type} (V : World) (E : Nat → Prop) (St : Nat → World → Prop) (Se : World → Prop) (enc : α → Array Value) (L : List α) (g : FuncId) (lb : Array Value) (w : World) : Prop :=
  (∀ args w, (callFunc g args).run Try.prog w = .ok (.enter g args) w) ∧ ∃ D, (∀ k, w.heap.size ≤ k → D k) ∧ D (V.heap.size + 1 + 1) ∧ SeqE E St Se g lb enc L D w
section
variable {W : World} {t : Nat} {x : Option Addr} {m c' : Nat} {l : List Tm.E} {V : World} {md i k : Nat} {w w' : World}
theorem Sf.below (h : Sf W t x m c' l V md i k w) (hb : Below w.heap.size w w') : Sf W t x m c' l V md i k w' := by
  have h1 := h.sz
  have h2 := hb.size
  exact ⟨h.st, h.bel.trans (hb.mono (by omega)), by omega, cnt9_at h.cm (hb.block _ (by omega)), cnt9_at h.ca (hb.block _ (by omega)), cnt9_at h.ct (hb.block _ (by omega))⟩
theorem Sf.st9 (h : Sf W t x m c' l V md i k w) : St9 W t x m c' l w := h.st.below h.bel
theorem sf_start (h : St9 W t x m c' l V) (_hm : W.heap.size ≤ V.heap.size) : Sf W t x m c' l V md 0 0 (((V.alloc (.cells #[.int .i64 (md : Int)] 3)).alloc (.cells #[.int .i64 0] 3)).alloc (.cells #[.int .i64 0] 3)) := by
  have b1 := Boxed.new (V.alloc (.cells #[.int .i64 (md : Int)] 3)) 3 (.int .i64 0)
  have b2 := Boxed.new ((V.alloc (.cells #[.int .i64 (md : Int)] 3)).alloc (.cells #[.int .i64 0] 3)) 3 (.int .i64 0)
  simp only [World.size_alloc] at b1 b2
  exact ⟨h, ((one_b8 _ _).alloc (by simp) _).alloc (by simp; omega) _, by simp, ((Boxed.new V _ _).alloc _).alloc _, b1.alloc _, b2⟩
theorem sf_from (h : Sf W t x m c' l V md i k w) :
    Calls Try.prog 15 #[.pointer (some ⟨t, 0, none⟩), .string ⟨#[]⟩] w fun e w' => ∃ g lb, e = .returned (.func (.func g) #[] lb) ∧ Hid ((∀ args w, (callFunc g args).run Try.prog w = .ok (.enter g args) w) ∧ SeqX g lb en9 l (Kx (exs e0 t) V.heap.size) w') ∧ Sf W t x m c' l V md i k w' := by
  have h1 := h.sz
  refine (wlk_seqFrom (k := []) ((h.st.p1.A.tq.tz h.st.p1.hex).below h.bel) (by omega)).mono ?_
  rintro e w' ⟨g, lb, rfl, HS, hb⟩
  refine ⟨g, lb, rfl, ⟨HS.out.1, ?_⟩, h.below hb⟩
  have := HS.out.2
  rw [from_nil9] at this
  exact this
/-- behind the loop over what was kept -/
def StF (V : World) (l : List Tm.E) (md n : Nat) (X : World) : Prop := ∃ i, cnt9 (V.heap.size + 1) i X ∧ (n = 0 ∧ i = 0 ∨ Mn l (okM md) n i)
def SeF (V : World) (l : List Tm.E) (X : World) : Prop := cnt9 (V.heap.size + 1) l.length X
def EA (V : World) (k : Nat) : Prop := k = V.heap.size + 1
def EB (V : World) (k : Nat) : Prop := EA V k ∨ k = V.heap.size + 1 + 1
def StM (V : World) (l : List Tm.E) (md n : Nat) (X : World) : Prop := StF V l md n X ∧ cnt9 (V.heap.size + 1 + 1) n X
def SeM (V : World) (l : List Tm.E) (md : Nat) (X : World) : Prop := SeF V l X ∧ cnt9 (V.heap.size + 1 + 1) ((l.filter (okM md)).map (·.2)).length X
def SeT (V : World) (l : List Tm.E) (md n : Nat) (X : World) : Prop := (n ≤ (((l.filter (okM md)).map (·.2)).map dbl9).length → StM V l md n X) ∧ ((((l.filter (okM md)).map (·.2)).map dbl9).length < n → SeM V l md X)
theorem stF (hw : V.heap.size + 3 ≤ w.heap.size) : Stat (EA V) w.heap.size (StF V l md) (SeF V l) := stat_filter (by omega)
theorem stM (hw : V.heap.size + 3 ≤ w.heap.size) : Stat (EB V) w.heap.size (StM V l md) (SeM V l md) := stat_map (stF hw) (by omega)
theorem stT {n : Nat} (hw : V.heap.size + 3 ≤ w.heap.size) : Stat (EB V) w.heap.size (StM V l md) (SeT V l md n) := stat_take (stM hw)
theorem kx_hi {ex : Nat → Prop} {B k : Nat} (h : B ≤ k) : Kx ex B k := .inr h
theorem sf_filter {g : FuncId} {lb : Array Value} (h : Sf W t x m c' l V md 0 0 w) (hm0 : 1 ≤ md) (hm1 : md ≤ 4) (hs : (∀ args w, (callFunc g args).run Try.prog w = .ok (.enter g args) w) ∧ SeqX g lb en9 l (Kx (exs e0 t) V.heap.size) w) :
    Calls Try.prog 14 #[.func (.func g) #[] lb, .func (.func 16) #[] #[.pointer (some ⟨V.heap.size + 1, 0, none⟩), .pointer (some ⟨V.heap.size, 0, none⟩)]] w fun e w' => ∃ g2 lb2, e = .returned (.func (.func g2) #[] lb2) ∧ Hid (Ws V (EA V) (StF V l md) (SeF V l) en9 (l.filter (okM md)) g2 lb2 w') ∧ Sf W t x m c' l V md 0 0 w' := by
  have h1 := h.sz
  have hpl := h.st.pl
  refine (wlk_filter hs.2 hs.1 (fun k hk => kx_hi (by omega)) h.ca (kx_hi (by omega)) h.cm.cell (by omega) (by omega) hm0 hm1 hpl.len (fun e he => ⟨(hpl.one e he).2.1, by have := (hpl.one e he).2.2; omega⟩)).mono ?_
  rintro e w' ⟨g2, lb2, rfl, HS, hz, hb⟩
  refine ⟨g2, lb2, rfl, ⟨HS.out.1, _, ?_, ?_, HS.out.2⟩, h.below hb⟩
  · intro k hk
    exact ⟨kx_hi (by omega), by omega, by omega⟩
  · exact ⟨kx_hi (by omega), by omega, by omega⟩
theorem sf_values {g : FuncId} {lb : Array Value} (h : Sf W t x m c' l V md 0 0 w) (hs : Ws V (EA V) (StF V l md) (SeF V l) en9 (l.filter (okM md)) g lb w) :
    Calls Try.prog 18 #[.func (.func g) #[] lb] w fun e w' => ∃ g2 lb2, e = .returned (.func (.func g2) #[] lb2) ∧ Hid (Ws V (EA V) (StF V l md) (SeF V l) eI ((l.filter (okM md)).map (·.2)) g2 lb2 w') ∧ Sf W t x m c' l V md 0 0 w' := by
  obtain ⟨s1, D, s2, s3, s4⟩ := hs
  have h1 := h.sz
  refine (wlk_values s4 (stF h1) s1 s2).mono ?_
  rintro e w' ⟨g2, lb2, rfl, HS, hb⟩
  exact ⟨g2, lb2, rfl, ⟨HS.out.1, D, fun k hk => s2 k (by have := hb.size; omega), s3, HS.out.2⟩, h.below hb⟩
theorem sf_map {g : FuncId} {lb : Array Value} (h : Sf W t x m c' l V md 0 0 w) (hs : Ws V (EA V) (StF V l md) (SeF V l) eI ((l.filter (okM md)).map (·.2)) g lb w) :
    Calls Try.prog 17 #[.func (.func g) #[] lb, .func (.func 19) #[] #[.pointer (some ⟨V.heap.size + 1 + 1, 0, none⟩)]] w fun e w' => ∃ g2 lb2, e = .returned (.func (.func g2) #[] lb2) ∧ Hid (Ws V (EB V) (StM V l md) (SeM V l md) eI (((l.filter (okM md)).map (·.2)).map dbl9) g2 lb2 w') ∧ Sf W t x m c' l V md 0 0 w' := by
  obtain ⟨s1, D, s2, s3, s4⟩ := hs
  have h1 := h.sz
  have hpl := h.st.pl
  refine (wlk_map s4 (stF h1) s1 s2 h.ct s3 (fun e => by have e : V.heap.size + 1 + 1 = V.heap.size + 1 := e; omega) ?_ ?_).mono ?_
  · rw [List.length_map]; exact hpl.few
  · intro y hy
    obtain ⟨e, he, rfl⟩ := List.mem_map.1 hy
    have := hpl.one e (List.mem_filter.1 he).1
    exact ⟨this.2.1, by omega⟩
  rintro e w' ⟨g2, lb2, rfl, HS, hb⟩
  obtain ⟨q1, D2, q2, q3⟩ := HS.out
  refine ⟨g2, lb2, rfl, ⟨q1, fun k => D2 k ∨ k = V.heap.size + 1 + 1, fun k hk => .inl (q2 k hk), .inr rfl, ?_⟩, h.below hb⟩
  intro m c l J Jx W a1 a2
  exact q3 m c l J Jx W a1 (fun X k b1 b2 => by
    obtain ⟨d1, d2⟩ := a2 X k b1 b2
    rcases d1 with d1 | d1
    · exact ⟨d1, d2⟩
    · exact absurd (.inr d1) d2)
theorem sf_take {g : FuncId} {lb : Array Value} {n : Nat} (h : Sf W t x m c' l V md 0 0 w) (hn : n ≤ 1000) (hs : Ws V (EB V) (StM V l md) (SeM V l md) eI (((l.filter (okM md)).map (·.2)).map dbl9) g lb w) :
    Calls Try.prog 21 #[.func (.func g) #[] lb, .int .i64 (n : Int)] w fun e w' => ∃ g2 lb2, e = .returned (.func (.func g2) #[] lb2) ∧ Hid (Ws V (EB V) (StM V l md) (SeT V l md n) eI ((((l.filter (okM md)).map (·.2)).map dbl9).take n) g2 lb2 w') ∧ Sf W t x m c' l V md 0 0 w' := by
  obtain ⟨s1, D, s2, s3, s4⟩ := hs
  have h1 := h.sz
  refine (wlk_takeE s4 (stM h1) ⟨⟨0, h.ca, .inl ⟨rfl, rfl⟩⟩, h.ct⟩ s1 s2 (by omega)).mono ?_
  rintro e w' ⟨g2, lb2, rfl, HS, hb⟩
  exact ⟨g2, lb2, rfl, ⟨HS.out.1, D, fun k hk => s2 k (by have := hb.size; omega), s3, HS.out.2⟩, h.below hb⟩
theorem sf_list {g : FuncId} {lb : Array Value} {n : Nat} (h : Sf W t x m c' l V md 0 0 w) (hn : n ≤ 1000) (hs : Ws V (EB V) (StM V l md) (SeT V l md n) eI ((((l.filter (okM md)).map (·.2)).map dbl9).take n) g lb w) :
    Calls Try.prog 20 #[.func (.func g) #[] lb, .int .i64 1000] w fun e w' => ∃ a q d, e = .returned (.tuple #[.slice a q d, .bool true]) ∧ Hid (Rv (fun k => k < w.heap.size ∨ w'.heap.size ≤ k) a q d (iv ((((l.filter (okM md)).map (·.2)).map dbl9).take n)) w' ∧ ∃ i, Mu l (okM md) n i ∧ Sf W t x m c' l V md i (min n (l.filter (okM md)).length) w') ∧ Below W.heap.size W w' := by
  obtain ⟨s1, D, s2, s3, s4⟩ := hs
  have h1 := h.sz
  refine (wlk_listE (n := 1000) s4 (stT h1) s1 s2 (by omega)).mono ?_
  rintro e w' ⟨a, q, d, b, rfl, HS⟩
  obtain ⟨e1, hr, hse, ho⟩ := HS.out
  have hfew := h.st.pl.few (p := okM md)
  have hlen : ((((l.filter (okM md)).map (·.2)).map dbl9).take n).length ≤ 1000 := by
    rw [List.length_take, List.length_map, List.length_map]; omega
  have hb : b = true := by rw [e1]; simpa using hlen
  subst hb
  have hse' := hse hlen
  rw [List.take_of_length_le hlen] at hr
  have hce : ∃ i, Mu l (okM md) n i ∧ cnt9 (V.heap.size + 1) i w' ∧ cnt9 (V.heap.size + 1 + 1) (min n (l.filter (okM md)).length) w' := by
    obtain ⟨c1, c2⟩ := hse'
    rw [List.length_map, List.length_map] at c1 c2
    refine cnt_end rfl ⟨c1, fun e => ?_⟩
    obtain ⟨d1, d2⟩ := c2 e
    rw [List.length_map] at d2
    exact ⟨d1, d2⟩
  obtain ⟨i, i1, i2, i3⟩ := hce
  have hq : ∀ k, (w.heap.size ≤ k ∨ EB V k) → V.heap.size ≤ k := fun k hk => by
    rcases hk with hk | hk | hk
    · omega
    · have hk : k = V.heap.size + 1 := hk
      omega
    · omega
  have hbel := below_ge9 h.bel ho hq (by omega)
  refine ⟨a, q, d, rfl, ⟨hr, i, i1, h.st, hbel, by have := ho.size; omega, cnt9_at h.cm (ho.block _ (by omega) (fun e => ?_)), i2, i3⟩, h.st.p1.bel.trans (hbel.mono h.st.p1.bel.size)⟩
  rcases e with e | e | e
  · omega
  · have e : V.heap.size = V.heap.size + 1 := e
    omega
  · omega
theorem sf_filterN {g : FuncId} {lb : Array Value} (h : Sf W t x m c' l V md i k w) (hs : (∀ args w, (callFunc g args).run Try.prog w = .ok (.enter g args) w) ∧ SeqX g lb en9 l (Kx (exs e0 t) V.heap.size) w) :
    Calls Try.prog 14 #[.func (.func g) #[] lb, .nilFunc] w fun e w' => ∃ g2 lb2, e = .returned (.func (.func g2) #[] lb2) ∧ Hid ((∀ args w, (callFunc g2 args).run Try.prog w = .ok (.enter g2 args) w) ∧ ∃ D2 : Nat → Prop, (∀ k, w'.heap.size ≤ k → D2 k) ∧ SeqX g2 lb2 en9 l D2 w') ∧ Below w.heap.size w w' := by
  have h1 := h.sz
  exact wlk_filterN hs.2 hs.1 (fun k hk => kx_hi (by omega))
theorem sf_keys {g : FuncId} {lb : Array Value} (hs : (∀ args w, (callFunc g args).run Try.prog w = .ok (.enter g args) w) ∧ ∃ D2 : Nat → Prop, (∀ k, w.heap.size ≤ k → D2 k) ∧ SeqX g lb en9 l D2 w) :
    Calls Try.prog 24 #[.func (.func g) #[] lb] w fun e w' => ∃ g2 lb2, e = .returned (.func (.func g2) #[] lb2) ∧ Hid ((∀ args w, (callFunc g2 args).run Try.prog w = .ok (.enter g2 args) w) ∧ ∃ D2 : Nat → Prop, (∀ k, w'.heap.size ≤ k → D2 k) ∧ SeqX g2 lb2 eS (l.map (·.1)) D2 w') ∧ Below w.heap.size w w' := by
  obtain ⟨s1, D, s2, s3⟩ := hs
  refine (wlk_keys s3 s1 s2).mono ?_
  rintro e w' ⟨g2, lb2, rfl, HS, hb⟩
  exact ⟨g2, lb2, rfl, ⟨HS.out.1, D, fun k hk => s2 k (by have := hb.size; omega), HS.out.2⟩, hb⟩
theorem sf_lists {g : FuncId} {lb : Array Value} {L : List Tm.K} (hL : L.length ≤ 60) (hs : (∀ args w, (callFunc g args).run Try.prog w = .ok (.enter g args) w) ∧ ∃ D2 : Nat → Prop, (∀ k, w.heap.size ≤ k → D2 k) ∧ SeqX g lb eS L D2 w) :
    Calls Try.prog 23 #[.func (.func g) #[] lb, .int .i64 1000] w fun e w' => ∃ a q d b, e = .returned (.tuple #[.slice a q d, .bool b]) ∧ Hid (Rv (fun _ => False) a q d (sk L) w') ∧ Below w.heap.size w w' := by
  obtain ⟨s1, D, s2, s3⟩ := hs
  refine (wlk_list_string (n := 1000) s3 s1 s2 (by omega)).mono ?_
  rintro e w' ⟨a, q, d, b, rfl, HS, hb⟩
  have hr := HS.out.2
  rw [List.take_of_length_le (by omega)] at hr
  exact ⟨a, q, d, b, rfl, hr.mono (fun _ _ h => h.elim), hb⟩
end
/-- the row that was wanted, element by element -/
theorem want_step {l : List Tm.E} {md j : Nat} (hj : j < l.length) (f : Tm.E → Int) :
    (((l.take (j + 1)).filter (okM md)).map f) = ((l.take j).filter (okM md)).map f ++ (if okM md l[j] then [f l[j]] else []) := by
  rw [cntM_step hj, List.filter_append, List.map_append]
  by_cases h : okM md l[j] = true
  · rw [if_pos h, List.filter_cons_of_pos h]; rfl
  · rw [if_neg h, List.filter_cons_of_neg h]; rfl
end Go.Proofs.Ytdchapcpimhjaaa
/- Layer 9: the walk of WalkFilters. -/
namespace Go.Proofs.Ytdchapcpimhjaaa
open Go.RowKit

attribute [local go_sem] Oper.semAt_some

/-- what is wanted of j pairs -/
def wn9 (l : List Tm.E) (md j : Nat) : List Int := (((l.take j).filter (okM md)).map (·.2)).map dbl9
theorem wn9_step {l : List Tm.E} {md j : Nat} (hj : j < l.length) : wn9 l md (j + 1) = wn9 l md j ++ (if okM md l[j] then [dbl9 l[j].2] else []) := by
  unfold wn9
  rw [List.map_map, List.map_map]
  exact want_step hj _
theorem wn9_len {l : List Tm.E} {md j : Nat} : (wn9 l md j).length = cntM l (okM md) j := by unfold wn9 cntM; rw [List.length_map, List.length_map]
theorem wn9_mu {l : List Tm.E} {md n i : Nat} (h : Mu l (okM md) n i) : wn9 l md i = (((l.filter (okM md)).map (·.2)).map dbl9).take n := by
  unfold wn9
  rw [mu_filter h, List.map_take, List.map_take]
set_option maxHeartbeats 4000000 in
set_option maxRecDepth 100000 in
theorem walk_filters9 (f1 f2 : Nat) (hf1 : f1 < 256) (hf2 : f2 < 256) {a : Option Addr} {n c : Nat} {ks : List Tm.K} {W : World} (h : Rv (fun _ => False) a n c (sk ks) W) :
    Calls Try.prog 4 #[.slice a n c, .int .u8 (f1 : Int), .int .u8 (f2 : Int)] W fun e w' => e = .returned (.bool true) ∧ Below W.heap.size W w' := by
  have HF := Lib.hid (first9_true (W := W))
  have HPR : Hid (∀ w, Below W.heap.size W w → Calls Try.prog 7 #[.slice a n c] w fun e w' => ∃ t x m c' l, e = .returned (.tuple #[.pointer (some ⟨t, 0, none⟩), .slice x m c']) ∧ Hid (P1 w (exs e0 t) t l w' ∧ Ps (exs e0 t) (.slice x m c') l w' ∧ Pl l ∧ m = l.length) ∧ Below w.heap.size w w') := fun w hb => wlk_pairs (h.below hb)
  obtain ⟨md, hmd⟩ : ∃ md : Nat, md = 1 + f1 % 4 := ⟨_, rfl⟩
  obtain ⟨nn, hnn⟩ : ∃ nn : Nat, nn = f2 % 20 := ⟨_, rfl⟩
  have hnI : (f2 : Int) % 20 = (nn : Int) := by omega
  have hmI : 1 + (f1 : Int) % 4 = (md : Int) := by omega
  have hm0 : 1 ≤ md := by omega
  have hm1 : md ≤ 4 := by omega
  have hn20 : nn < 20 := by omega
  clear h hmd hnn
  go_enter Try.func4, Try.ntmps4
  go_wp2_with (first
      | (go_at_call 6; refine HF.out.mono ?_; rintro e w1 ⟨rfl, hb1⟩)
      | (go_at_call 7; refine (HPR.out w1 hb1).mono ?_; rintro e V ⟨t, x, m, c', l, rfl, HP, hb2⟩; have h2 : Hid (St9 w1 t x m c' l V) := ⟨HP.out.1, HP.out.2.1, HP.out.2.2.1, HP.out.2.2.2⟩; have HBV : Hid (Below W.heap.size W V) := hb1.trans (hb2.mono hb1.size); have HW1 : Hid (w1.heap.size ≤ V.heap.size) := hb2.size; clear HP hb2 hb1))
  have HS3 : Hid (Sf w1 t x m c' l V md 0 0 (((V.alloc (.cells #[.int .i64 (md : Int)] 3)).alloc (.cells #[.int .i64 0] 3)).alloc (.cells #[.int .i64 0] 3))) := sf_start h2.out HW1.out
  have HML : Hid (m = l.length ∧ Pl l) := ⟨h2.out.ln, h2.out.pl⟩
  clear HW1 h2
  generalize (((V.alloc (.cells #[.int .i64 (md : Int)] 3)).alloc (.cells #[.int .i64 0] 3)).alloc (.cells #[.int .i64 0] 3)) = w3 at HS3 ⊢
  go_upto_block 0 with (first
      | (go_at_call 15; refine (sf_from HS3.out).mono ?_; rintro e w4 ⟨g4, lb4, rfl, HQ4, hq4⟩; have HS4 := Lib.hid hq4; clear hq4)
      | (go_at_call 14; refine (sf_filter HS4.out hm0 hm1 HQ4.out).mono ?_; rintro e w5 ⟨g5, lb5, rfl, HQ5, hq5⟩; have HS5 := Lib.hid hq5; clear hq5 HQ4 HS4)
      | (go_at_call 18; refine (sf_values HS5.out HQ5.out).mono ?_; rintro e w6 ⟨g6, lb6, rfl, HQ6, hq6⟩; have HS6 := Lib.hid hq6; clear hq6 HQ5 HS5)
      | (go_at_call 17; refine (sf_map HS6.out HQ6.out).mono ?_; rintro e w7 ⟨g7, lb7, rfl, HQ7, hq7⟩; have HS7 := Lib.hid hq7; clear hq7 HQ6 HS6)
      | (go_at_call 21; refine (sf_take (n := nn) HS7.out (by omega) HQ7.out).mono ?_; rintro e w8 ⟨g8, lb8, rfl, HQ8, hq8⟩; have HS8 := Lib.hid hq8; clear hq8 HQ7 HS7)
      | (go_at_call 20; refine (sf_list HS8.out (by omega) HQ8.out).mono ?_; rintro e w9 ⟨a9, n9, c9, rfl, HQ9, hq9⟩; clear HQ8 HS8 hq9))
  obtain ⟨i, HI⟩ : ∃ i, Hid (Rv (fun _ => False) a9 n9 c9 (iv ((((l.filter (okM md)).map (·.2)).map dbl9).take nn)) w9 ∧ Mu l (okM md) nn i ∧ Sf w1 t x m c' l V md i (wn9 l md i).length w9) := by
    obtain ⟨q1, i, q2, q3⟩ := HQ9.out
    refine ⟨i, q1.mono (fun _ _ h => h.elim), q2, ?_⟩
    have e : min nn (l.filter (okM md)).length = (wn9 l md i).length := by rw [wn9_mu q2, List.length_take, List.length_map, List.length_map]
    rw [← e]; exact q3
  have hi60 : i ≤ 60 := by have := HI.out.2.1.1; have := HML.out.2.len; omega
  have hm60 : m ≤ 60 := by have := HML.out.1; have := HML.out.2.len; omega
  clear HQ9 HF HPR HS3
  have HCM : Hid (∀ w, Below w9.heap.size w9 w → V.heap.size < w.heap.size ∧ w.cell? ⟨V.heap.size, 0, none⟩ = some (.int .i64 (md : Int))) := fun w hb => by
    have := (HI.out.2.2.below hb).cm
    exact ⟨this.lt, Boxed.cell this⟩
  have HJ : Hid (∀ j, j < m → ∃ (g off : Nat) (X : ByteArray) (y : Int) (e : Tm.E), x = some ⟨g, off, none⟩ ∧ 0 ≤ y ∧ y ≤ 1000 ∧ (∀ w, Below w9.heap.size w9 w → g < w.heap.size ∧ w.cell? ⟨g, off + j * 2, none⟩ = some (.string X) ∧ w.cell? ⟨g, off + j * 2 + 1, none⟩ = some (.int .i64 y)) ∧ Hid (wn9 l md (j + 1) = wn9 l md j ++ (if okM md e then [dbl9 e.2] else [])) ∧ Hid (X = bstr e.1 ∧ y = e.2)) := fun j hj => by
    have hjl : j < l.length := by have := HML.out.1; omega
    obtain ⟨g, off, e, -, hg, h1, h2⟩ := (HI.out.2.2.st9.ps).at j hjl
    have hp := HML.out.2.one l[j] (List.getElem_mem hjl)
    refine ⟨g, off, _, _, l[j], e, hp.2.1, by omega, fun w hb => ⟨by have := hb.size; omega, (hb.cell (p := ⟨g, off + j * 2, none⟩) hg).trans h1, (hb.cell (p := ⟨g, off + j * 2 + 1, none⟩) hg).trans h2⟩, wn9_step hjl, rfl, rfl⟩
  obtain ⟨i0, hi0, hz0, hz1, hz2⟩ := info_of8 info9l_int
  have HI0 := Lib.hid hi0; have HZ0 := Lib.hid hz0; have HZ1 := Lib.hid hz1; have HZ2 := Lib.hid hz2
  clear hi0 hz0 hz1 hz2
  go_cut [17, 18] (fun wv mv wx => ∃ (x2 : Option Addr) (k c2 : Nat), wv = .slice x2 k c2 ∧ mv = .int .i64 (i : Int) ∧ k ≤ 60 ∧ Hid (k = (wn9 l md i).length ∧ Below w9.heap.size w9 wx ∧ wx.ownsRow w9.heap.size 3 1 (.slice x2 k c2) k (iv (wn9 l md i))))
  case first =>
    go_wp2_with fail
    go_loopw [17, 18, 56] (fun wv mv jv wr => ∃ (j k : Nat) (x2 : Option Addr) (c2 : Nat), j ≤ m ∧ k ≤ j ∧ wv = .slice x2 k c2 ∧ mv = .int .i64 (j : Int) ∧ jv = .int .i64 (j : Int) ∧ Hid (k = (wn9 l md j).length ∧ Below w9.heap.size w9 wr ∧ wr.ownsRow w9.heap.size 3 1 (.slice x2 k c2) k (iv (wn9 l md j))) ∧ Hid ((∀ j', j' < j → cntM l (okM md) j' < nn) ∧ cntM l (okM md) j ≤ nn)) (fun _ _ jv _ => m - (ixOf jv).toNat)
    case atStart => exact ⟨0, 0, none, 0, Nat.zero_le _, Nat.le_refl _, rfl, rfl, rfl, ⟨rfl, Below.refl _ _, World.ownsRow_nil _ _ _ _⟩, fun j' h => by omega, Nat.zero_le _⟩
    case round =>
      obtain ⟨j, k, x2, c2, hj, hk, rfl, rfl, rfl, HO, HU⟩ := hrel
      by_cases hlt : j < m
      · have hjI : (j : Int) < (m : Int) := by omega
        obtain ⟨g, off, X, y, e, rfl, hy0, hy1, hcell, HDR, HX⟩ := HJ.out j hlt
        obtain ⟨hgr, w0, w1⟩ := hcell wr HO.out.2.1
        obtain ⟨hVr, cM⟩ := HCM.out wr HO.out.2.1
        have hkc : k = cntM l (okM md) j := HO.out.1.trans wn9_len
        by_cases hkn : k = nn
        case pos =>
          have HE : Hid (j = i) := mu_uniq ⟨by have := HML.out.1; omega, HU.out.1, .inl (hkc.symm.trans hkn)⟩ HI.out.2.1
          have hkI : (k : Int) = (nn : Int) := by omega
          obtain ⟨wr1, hw1⟩ : ∃ wr1, wr1 = wr.alloc (.cells #[.string X, .int .i64 y] 50) := ⟨_, rfl⟩
          have HO1 : Hid (k = (wn9 l md j).length ∧ Below w9.heap.size w9 wr1 ∧ wr1.ownsRow w9.heap.size 3 1 (.slice x2 k c2) k (iv (wn9 l md j))) := by
            refine ⟨HO.out.1, ?_, ?_⟩
            · rw [hw1]; exact HO.out.2.1.trans ((one_b8 _ _).mono HO.out.2.1.size)
            · rw [hw1]; exact HO.out.2.2.alloc _
          have HW1 := Lib.hid hw1
          clear hcell HDR HX HO HU hkc hkn hw1 cM
          go_wp2_with fail
          go_meet
          rw [← HW1.out]
          have := HE.out
          subst this
          exact ⟨x2, k, c2, rfl, rfl, by omega, HO1⟩
        case neg =>
          have hkI : ¬ (k : Int) = (nn : Int) := by omega
          have HU2 : Hid ((∀ j', j' < j + 1 → cntM l (okM md) j' < nn) ∧ cntM l (okM md) (j + 1) ≤ nn) := by
            have h1 := HU.out.2
            have h2 := cntM_le (L := l) (ok := okM md) (j := j) (by have := HML.out.1; omega)
            refine ⟨fun j' hj' => ?_, by omega⟩
            rcases Nat.lt_or_ge j' j with e | e
            · exact HU.out.1 j' e
            · rw [show j' = j by omega]; omega
          by_cases hok : okM md e = true
          case pos =>
            have hv : (y % (md : Int) == 0) = true := by rw [HX.out.2]; exact hok
            have HF2 : Hid (iv (wn9 l md (j + 1)) = iv (wn9 l md j) ++ [.int .i64 (2 * y)] ∧ (wn9 l md (j + 1)).length = k + 1) := by
              have e1 := HDR.out
              rw [if_pos hok] at e1
              refine ⟨?_, ?_⟩
              · rw [e1]; unfold iv; rw [List.map_append, HX.out.2]; rfl
              · rw [e1, List.length_append, HO.out.1]; rfl
            obtain ⟨wr2, hw2⟩ : ∃ wr2, wr2 = (wr.alloc (.cells #[.string X, .int .i64 y] 50)).alloc (.cells #[.int .i64 (2 * y)] 3) := ⟨_, rfl⟩
            have HA2 : Hid (Below w9.heap.size w9 wr2) := by show Below _ _ _; rw [hw2]; exact HO.out.2.1.trans (((one_b8 _ _).alloc (by simp) _).mono HO.out.2.1.size)
            have HO3 : Hid (wr2.ownsRow w9.heap.size 3 1 (.slice x2 k c2) k (iv (wn9 l md j))) := by show World.ownsRow _ _ _ _ _ _ _; rw [hw2]; exact (HO.out.2.2.alloc _).alloc _
            have HSRC : Hid (Src Try.prog 1 45 (.slice (some ⟨wr.heap.size + 1, 0, none⟩) 1 1) 1 [.int .i64 (2 * y)] wr2) := by
              show Src _ _ _ _ _ _ _
              rw [hw2]
              refine Src.ofSlice _ Try.underlying45 ⟨wr.heap.size + 1, 0, none⟩ 1 1 [.int .i64 (2 * y)] rfl (fun i u hu => ?_) (by simp [Value.oneCell'])
              have hn := heap_alloc_new (wr.alloc (.cells #[.string X, .int .i64 y] 50)) (.cells #[.int .i64 (2 * y)] 3)
              rw [World.size_alloc] at hn
              rw [add_p9, Lib.cell_of_heap hn, Nat.zero_add, ← Array.getElem?_toList]
              exact hu
            have hsz2 : w9.heap.size ≤ wr2.heap.size := HA2.out.size
            have HW2 := Lib.hid hw2
            clear hcell HDR HX HO HU hkc hkn hw2 hok
            go_wp2_with (at_builtin; rw [← HW2.out]; refine wpList_append_src _ rfl (.tmp 71) (.tmp 75) 45 45 rfl w9.heap.size 3 i0 _ 1 8 Try.underlying45 HI0.out HZ0.out HZ1.out HZ2.out rfl (.slice x2 k c2) k (iv (wn9 l md j)) rfl HO3.out _ 1 [.int .i64 (2 * y)] rfl HSRC.out ?qa ?qb ?qc ?_)
            case qa => unfold maxLen; omega
            case qb => omega
            case qc => exact hsz2
            intro v2 w2 hown2 hgrow2 hv2
            have hb2 : Below w9.heap.size w9 w2 := HA2.out.grown hgrow2 hsz2 (fun k e => (HO3.out.lt k e).1)
            rw [← HF2.out.1] at hown2
            obtain ⟨a2, c3, rfl⟩ := own_formp hown2
            have HO4 := Lib.hid hown2; have HB4 := Lib.hid hb2
            clear hown2 hgrow2 hv2 hb2
            go_wp2
            go_roundw
            case rel => exact ⟨j + 1, k + 1, a2, c3, by omega, by omega, rfl, by go_num, by go_num, ⟨HF2.out.2.symm, HB4.out, HO4.out⟩, HU2.out⟩
            case measure => simp [ixOf]; omega
          case neg =>
            have hv : (y % (md : Int) == 0) = false := by rw [HX.out.2]; simpa [okM] using hok
            obtain ⟨wr1, hw1⟩ : ∃ wr1, wr1 = wr.alloc (.cells #[.string X, .int .i64 y] 50) := ⟨_, rfl⟩
            have HO1 : Hid (k = (wn9 l md (j + 1)).length ∧ Below w9.heap.size w9 wr1 ∧ wr1.ownsRow w9.heap.size 3 1 (.slice x2 k c2) k (iv (wn9 l md (j + 1)))) := by
              have e1 := HDR.out
              rw [if_neg hok, List.append_nil] at e1
              rw [e1]
              refine ⟨HO.out.1, ?_, ?_⟩
              · rw [hw1]; exact HO.out.2.1.trans ((one_b8 _ _).mono HO.out.2.1.size)
              · rw [hw1]; exact HO.out.2.2.alloc _
            have HW1 := Lib.hid hw1
            clear hcell HDR HX HO HU hkc hkn hw1 hok
            go_wp2_with fail
            rw [← HW1.out]
            refine ⟨⟨j + 1, k, x2, c2, by omega, by omega, rfl, by go_num, by go_num, HO1, HU2⟩, ?_⟩
            simp [ixOf]; omega
      · have hjI : ¬ (j : Int) < (m : Int) := by omega
        have HE : Hid (j = i) := mu_uniq ⟨by have := HML.out.1; omega, HU.out.1, .inr (by have := HML.out.1; omega)⟩ HI.out.2.1
        clear HU HJ HCM
        go_wp2_with fail
        go_meet
        have := HE.out
        subst this
        exact ⟨x2, k, c2, rfl, rfl, by omega, HO⟩
  case rest =>
    obtain ⟨x2, k, c2, rfl, rfl, hk60, HO⟩ := hcut
    have HS := Lib.hid (HI.out.2.2.below HO.out.2.1)
    have HGOT := Lib.hid (HI.out.1.below HO.out.2.1)
    obtain rfl : k = n9 := by
      symm
      have h1 := HI.out.1.ln
      have h2 := HO.out.1
      rw [wn9_mu HI.out.2.1] at h2
      rw [h2, h1]; simp [iv]
    have HEQ : Hid ((((l.filter (okM md)).map (·.2)).map dbl9).take nn = wn9 l md i) := (wn9_mu HI.out.2.1).symm
    have HWN : Hid (Rv (fun k => k < w9.heap.size ∨ wc.heap.size ≤ k) x2 k c2 (iv (wn9 l md i)) wc) := rv_own9 HO.out.2.2 (Nat.le_refl _)
    have HKL : Hid (k = (wn9 l md i).length) := HO.out.1
    have hb9 := HO.out.2.1
    clear HO HJ HCM HI0 HZ0 HZ1 HZ2
    go_wp2_with (first
      | (go_at_call 22; refine (ref9_Ints HGOT.out HWN.out (by omega) (by omega)).mono ?_; rintro e wd ⟨v, rfl, hv, hbd⟩; have hv' : v = .bool true := hv.2 HEQ.out; subst hv'; have HSD := Lib.hid (HS.out.below hbd); have cA := Boxed.cell HSD.out.ca; have cT := Boxed.cell HSD.out.ct; rw [← HKL.out] at cT; clear HS HGOT HWN hv hbd)
      | (go_at_call 15; clear cA cT; refine (sf_from HSD.out).mono ?_; rintro e we ⟨ge, lbe, rfl, HQE, hqe⟩; have HSE := Lib.hid hqe; clear hqe)
      | (go_at_call 14; refine (sf_filterN HSE.out HQE.out).mono ?_; rintro e wf ⟨gf, lbf, rfl, HQF, hqf⟩; have HSF := Lib.hid (HSE.out.below hqf); clear hqf HQE HSE)
      | (go_at_call 24; refine (sf_keys HQF.out).mono ?_; rintro e wg ⟨gg, lbg, rfl, HQG, hqg⟩; have HSG := Lib.hid (HSF.out.below hqg); clear hqg HQF HSF)
      | (go_at_call 23; refine (sf_lists (by rw [List.length_map]; exact HML.out.2.len) HQG.out).mono ?_; rintro e wh ⟨ah, nh, ch, bh, rfl, HQH, hqh⟩; have HSH := Lib.hid (HSG.out.below hqh); clear hqh HQG HSG))
    have hnh : nh = m := by
      have h1 := HQH.out.ln
      have h2 := HML.out.1
      simp only [sk, List.length_map] at h1
      omega
    obtain rfl : m = nh := hnh.symm
    have HJ2 : Hid (∀ j, j < m → ∃ (g off g2 off2 : Nat) (X : ByteArray) (y : Int), x = some ⟨g, off, none⟩ ∧ ah = some ⟨g2, off2, none⟩ ∧ m ≤ ch ∧ (g < wh.heap.size ∧ g2 < wh.heap.size) ∧ wh.cell? ⟨g, off + j * 2, none⟩ = some (.string X) ∧ wh.cell? ⟨g, off + j * 2 + 1, none⟩ = some (.int .i64 y) ∧ wh.cell? ⟨g2, off2 + j, none⟩ = some (.string X)) := fun j hj => by
      have hjl : j < l.length := by have := HML.out.1; omega
      obtain ⟨g, off, e, -, hg, h1, h2⟩ := (HSH.out.st9.ps).at j hjl
      obtain ⟨g2, off2, e2, hc2, hg2, hcell⟩ := HQH.out.at (by omega)
      have h3 := hcell j hj
      rw [sk_get _ (by rw [List.length_map]; omega)] at h3
      rw [show (l.map (·.1)).getD j [] = l[j].1 by simp [List.getD, List.getElem?_eq_getElem hjl]] at h3
      exact ⟨g, off, g2, off2, _, _, e, e2, hc2, ⟨hg, hg2⟩, h1, h2, h3⟩
    have HBW : Hid (Below W.heap.size W wh) := HBV.out.trans (HSH.out.bel.mono HBV.out.size)
    have HR5 : Hid (∀ w : World, Rv (fun _ => False) (some ⟨w.heap.size, 0, none⟩) 1 1 (iv [1]) (w.alloc (.cells #[.int .i64 1] 3))) := fun w => rv_lit9 rfl
    clear HQH HSH HI HML HKL HEQ hb9 HBV hi60 hk60 hn20 hm0 hm1 hnI hmI
    go_loopw [107] (fun jv wr => ∃ j : Nat, j ≤ m ∧ jv = .int .i64 (j : Int) ∧ Hid (Below wh.heap.size wh wr)) (fun jv _ => m - (ixOf jv).toNat)
    case atStart => exact ⟨0, Nat.zero_le _, rfl, Below.refl _ _⟩
    case round =>
      obtain ⟨j, hj, rfl, HB⟩ := hrel
      by_cases hlt : j < m
      · have hjI : (j : Int) < (m : Int) := by omega
        have hjI2 : ¬ (m : Int) ≤ (j : Int) := by omega
        obtain ⟨g, off, g2, off2, X, y, rfl, rfl, hc2, ⟨hg, hg2⟩, c0, c1, d0⟩ := HJ2.out j hlt
        have hXX : (X.toList == X.toList) = true := by simp
        have u0 := (HB.out.cell (p := ⟨g, off + j * 2, none⟩) hg).trans c0
        have u1 := (HB.out.cell (p := ⟨g, off + j * 2 + 1, none⟩) hg).trans c1
        have u2 := (HB.out.cell (p := ⟨g2, off2 + j, none⟩) hg2).trans d0
        have hgr : g < wr.heap.size := by have := HB.out.size; omega
        have hgr2 : g2 < wr.heap.size := by have := HB.out.size; omega
        have HBD : Hid (Below wh.heap.size wh (wr.alloc (.cells #[.string X, .int .i64 y] 50)).drew) := by
          have h1 := HB.out.trans ((one_b8 wr (.cells #[.string X, .int .i64 y] 50)).mono HB.out.size)
          exact h1.trans ((below_dr8 _).mono h1.size)
        clear HJ2 c0 c1 d0
        go_upto_region 26 with (fail)
        go_region
        all_goals
          go_wp2_with fail
          go_roundw
        all_goals first
          | exact ⟨j + 1, by omega, by go_num, HBD⟩
          | (simp [ixOf]; omega)
      · have hjI : ¬ (j : Int) < (m : Int) := by omega
        have hmm : ((m : Int) == (m : Int)) = true := by simp
        have HBE := Lib.hid (HBW.out.trans (HB.out.mono HBW.out.size))
        clear HJ2 HB HBW
        go_wp2_with (first
          | (go_at_call 26; refine (wlk_of_int (HR5.out _) (by decide) (fun _ _ h => h)).mono ?_; rintro e wi ⟨gi, lbi, rfl, HQI, hqi⟩; have HBI : Hid (Below W.heap.size W wi) := HBE.out.trans (((one_b8 _ _).trans (hqi.mono (by simp))).mono HBE.out.size); clear HQI hqi HBE)
          | (go_at_call 17; refine (wlk_mapN).mono ?_; rintro e wj ⟨gj, lbj, rfl, HQJ, hqj⟩; have HBJ : Hid (Below W.heap.size W wj) := HBI.out.trans (hqj.mono HBI.out.size); clear hqj HBI)
          | (go_at_call 25; refine (wlk_count_int HQJ.out.2 HQJ.out.1 (fun _ _ => trivial) (by decide)).mono ?_; rintro e wk ⟨rfl, hqk⟩; have HBK : Hid (Below W.heap.size W wk) := HBJ.out.trans (hqk.mono HBJ.out.size); clear hqk HBJ HQJ))
        go_ret
        exact ⟨rfl, HBK.out⟩
end Go.Proofs.Ytdchapcpimhjaaa
/- Layer 9: texts as arguments. -/
namespace Go.Proofs.Ytdchapcpimhjaaa
open Go.ChangeShapes Go.WideShapes Go.ChangeAt Go.RowKit Go.WideMaps Go.Joins

section
variable {H : Type} {enc : TypeId × Value → H} {w : World} {base : Nat} {held : Bool}
theorem str_bstr9 (s : ByteArray) : ∃ k : Tm.K, s = bstr k := ⟨s.data.toList, by unfold bstr; apply ByteArray.ext; simp⟩
set_option maxRecDepth 100000 in
theorem open_strs9 {r : Reach} {b0 : Nat} {v : Value} {d : DataW H} {p : List MemPlace} (hv : Value.okWide Try.prog w r b0 22 v) (h : DataW.Trod enc Try.prog w base (fun _ => true) held 22 v d p) :
    ∃ (a : Option Addr) (n c : Nat) (ks : List Tm.K), v = .slice a n c ∧ Rv (fun _ => False) a n c (sk ks) w := by
  obtain ⟨a, n, cap, rfl⟩ := okWide_slice Try.underlying22 hv
  obtain ⟨fuel, hf⟩ := h
  rcases Go.Deep.open_strs Try.underlying22 Try.underlying9 (by kernel_rfl) hf with ⟨hcs, _⟩ | ⟨x, l, c, m, Sx, hcs, _, hl, hm, hmm, _, hcell⟩
  · simp [Value.cells] at hcs
    obtain ⟨rfl, rfl, rfl⟩ := hcs
    exact ⟨_, _, _, [], rfl, Rv.nil _ _ _ _⟩
  · simp [Value.cells] at hcs
    obtain ⟨rfl, rfl, rfl⟩ := hcs
    rw [if_pos rfl] at hmm
    refine ⟨_, _, _, (List.range n).map (fun i => (Sx i).data.toList), rfl, by simp [sk], fun h0 => ?_⟩
    obtain ⟨b, off, spot⟩ := x
    have hspot : spot = none := by simpa [Addr.add] using World.cell?_spot (hcell 0 (by omega)).1
    subst hspot
    have hc : ∀ j, j < m → w.cell? ⟨b, off + j, none⟩ = some (.string (Sx j)) := fun j hj => by rw [← Go.WideShapes.add_plain]; exact (hcell j hj).1
    refine ⟨b, off, rfl, hl, World.block_lt_of_cell? w ⟨b, off + 0, none⟩ (hc 0 (by omega)), fun h => h, fun j hj => ?_⟩
    rw [hc j (by omega), sk_get _ (by simpa using hj)]
    have : bstr (Sx j).data.toList = Sx j := by unfold bstr; apply ByteArray.ext; simp
    simp [List.getD, hj, this]
end
theorem wf9 (a : Int) (h : (Lit.int .u8 a).wf = true) : 0 ≤ a ∧ a < 256 := by
  simp [Lit.wf, IntKind.min, IntKind.max, IntKind.signed, IntKind.bits] at h
  exact ⟨by omega, by omega⟩
end Go.Proofs.Ytdchapcpimhjaaa
