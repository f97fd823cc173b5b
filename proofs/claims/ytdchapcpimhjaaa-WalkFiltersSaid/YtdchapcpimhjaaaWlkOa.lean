/- Layer 9: Of. -/
import Derived.Shelf.RegionOpen
import Derived.WalkKit
import Derived.LoopNIn
import Derived.LoopIn
import Derived.Test.YtdchapcpimhjaaaTreC2
import Derived.Test.YtdchapcpimhjaaaWlkFa
import Derived.Test.YtdchapcpimhjaaaWlkC
namespace Go.Proofs.Ytdchapcpimhjaaa
open Go.RowKit Go.Shelf

attribute [local go_sem] Oper.semAt_some

/-- what a loop body gets: a number, a text -/
def eI (i : Int) : Array Value := #[.int .i64 i]
def eS (k : Tm.K) : Array Value := #[.string (bstr k)]
theorem below_only9 {w X Y : World} {p : Nat → Prop} (h : Below w.heap.size w X) (k : Only p X Y) (hp : ∀ i, p i → w.heap.size ≤ i) : Below w.heap.size w Y :=
  h.trans ⟨k.os, k.tape, k.output, k.size, fun i hi => k.block i (Nat.lt_of_lt_of_le hi h.size) (fun e => by have := hp i e; omega)⟩

set_option maxHeartbeats 2000000 in
set_option maxRecDepth 100000 in
theorem wlk_of1_int {Bl n c : Nat} {a : Option Addr} {l : List Int} {w : World} (hr : Rv (fun k => w.heap.size ≤ k) a n c (iv l) w) (hbl : w.cell? ⟨Bl, 0, none⟩ = some (.slice a n c)) (hlt : Bl < w.heap.size) (hn : n ≤ 10000) :
    SeqX 49 #[.pointer (some ⟨Bl, 0, none⟩)] eI l (fun k => w.heap.size ≤ k) w := fun m cc ly J Jx W hbw hcD hl1 hl2 hJV hJ hJx hJxV hY h0 => by
  have hln : n = l.length := by have := hr.ln; simpa [iv] using this
  have HRD : Hid (∀ wr, Below w.heap.size w wr → ∀ j, j < n → ∃ (g off : Nat) (x : Int), a = some ⟨g, off, none⟩ ∧ n ≤ c ∧ wr.cell? ⟨g, off + j, none⟩ = some (.int .i64 x) ∧ Hid (l[j]? = some x)) := fun wr hb j hj => by
    obtain ⟨g, off, rfl, hc, hg, hx, hcell⟩ := hr.row (by omega)
    have hjl : j < l.length := by omega
    refine ⟨g, off, l[j], rfl, hc, (hb.cell (p := ⟨g, off + j, none⟩) hg).trans ?_, List.getElem?_eq_getElem hjl⟩
    rw [hcell j hj]
    simp [iv, List.getD, List.getElem?_eq_getElem hjl]
  have HTK : Hid (∀ j x, l[j]? = some x → l.take j ++ [x] = l.take (j + 1)) := fun j x hj => by rw [List.take_add_one, hj]; rfl
  have cb : W.cell? ⟨Bl, 0, none⟩ = some (.slice a n c) := (hbw.cell (p := ⟨Bl, 0, none⟩) hlt).trans hbl
  have HB0 := Lib.hid hbw
  have H0 : Hid (J (l.take 0) W) := h0
  have HYY : Hid (∀ (j : Nat) (x : Int) (wr : World), l[j]? = some x → Below w.heap.size w wr → J (l.take j) wr → YieldAt Fence.wide m Try.prog ly (eI x) wr fun e W' => ∃ b : Bool, e = .returned (.bool b) ∧ Hid (Below w.heap.size w W' ∧ (b = true → J (l.take (j + 1)) W') ∧ (b = false → Jx (l.take (j + 1)) W'))) := fun j x wr hj hb hJr => by
    have h1 := HTK.out j x hj
    refine (hY m (l.take j) x wr hJr (by rw [h1]; exact List.take_prefix _ _)).mono ?_
    have hbel : ∀ W', cc.kq ly wr W' → Below w.heap.size w W' := fun W' h => below_only9 hb h.1 (fun k hk => by
      rcases hk with hk | rfl
      · exact hcD wr k (hJV _ _ hJr).1 hk
      · exact hl1)
    rw [h1]
    rintro e W' (⟨rfl, q1, q2⟩ | ⟨rfl, q1, q2⟩)
    · exact ⟨true, rfl, hbel _ q2, fun _ => q1, fun h => by cases h⟩
    · exact ⟨false, rfl, hbel _ q2, fun h => (by cases h), fun _ => q1⟩
  have HE : Hid (l.take n = l) := by rw [hln]; exact List.take_length
  clear hY hr hbl hJ h0 hJx hcD hl1 hl2 hJV hJxV hlt hbw HTK hln
  refine callsIn_of_wp Try.func49 rfl trivial ?_ rfl
  simp only [Try.ntmps49, List.size_toArray, List.length_cons, List.length_nil, Nat.reduceAdd, Nat.reduceSub, Array.replicate_succ, Array.replicate_zero, List.push_toArray, List.append_toArray, List.nil_append, List.cons_append]
  gi_wp2_with fail
  gi_loopw [7] (fun iv wr => ∃ j : Nat, j ≤ n ∧ iv = .int .i64 (j : Int) ∧ Hid (J (l.take j) wr) ∧ Hid (Below w.heap.size w wr)) (fun iv _ => n - (ixOf iv).toNat)
  case atStart => exact ⟨0, Nat.zero_le _, rfl, H0.out, HB0.out⟩
  case round =>
    clear H0 HB0
    obtain ⟨j, hj, rfl, HJr, HBr⟩ := hrel
    by_cases hlt : j < n
    case neg =>
      have hjI : ¬ (j : Int) < (n : Int) := by omega
      have HEND : Hid (J l wr) := by
        have := HJr.out
        rw [show j = n by omega, HE.out] at this
        exact this
      clear HRD HYY HJr HBr hlt HE
      gi_wp2
      go_end0
      exact ⟨⟨_, rfl⟩, .inl HEND.out⟩
    case pos =>
      have hjI : (j : Int) < (n : Int) := by omega
      obtain ⟨g, off, x, rfl, hc, k0, HX⟩ := HRD.out wr HBr.out j hlt
      obtain ⟨fn, tmps, assign, body, hyy, hR⟩ := HYY.out j x wr HX.out HBr.out HJr.out
      have HR := Lib.hid hR
      simp only [eI] at hyy
      clear hR HRD HYY
      gi_wp2_with fail
      refine HR.out.mono ?_
      rintro e1 W1 ⟨b, rfl, hB⟩
      have HBX := Lib.hid hB.out
      clear hB HR HJr HBr hyy k0
      cases b with
      | true =>
        have HJ2 : Hid (J (l.take (j + 1)) W1) := HBX.out.2.1 rfl
        have HB2 : Hid (Below w.heap.size w W1) := HBX.out.1
        clear HBX HX
        gi_wp2_with fail
        go_roundw
        case rel => exact ⟨j + 1, by omega, by go_num, HJ2, HB2⟩
        case measure => simp [ixOf]; omega
      | false =>
        have HX2 : Hid (Jx (l.take (j + 1)) W1) := HBX.out.2.2 rfl
        clear HBX HX
        gi_wp2
        refine bodyPost_ret (results_none rfl _ _ _) rfl ?_
        exact ⟨⟨_, rfl⟩, .inr ⟨_, List.take_prefix _ _, HX2.out⟩⟩

theorem info9_int : (Try.prog.info? 3).map (fun i => (i.zero, i.size, i.bytes)) = some (some (.int .i64 0), 1, 8) := by kernel_rfl
set_option maxHeartbeats 1000000 in
set_option maxRecDepth 100000 in
theorem wlk_clone_int {ex : Nat → Prop} {a : Addr} {n c : Nat} {l : List Int} {w : World} (hr : Rv ex (some a) n c (iv l) w) (hn : n ≤ 10000) (_hx : ∀ k, w.heap.size ≤ k → ¬ ex k) :
    Calls Try.prog 48 #[.slice (some a) n c] w fun e w' => ∃ a' c', e = .returned (.slice a' n c') ∧ Hid (Rv (fun k => k < w.heap.size ∨ w'.heap.size ≤ k) a' n c' (iv l) w') ∧ Below w.heap.size w w' := by
  obtain ⟨i0, hi0, hz0, hz1, hz2⟩ := info_of8 info9_int
  have hnil : ∀ (wx : World), (binOp .eql 45 (.slice (some a) n c) (.slice none 0 0)).run Try.prog wx = .ok (.bool false) wx := fun wx => Lib.run_eql_slice_nil wx _ _ _ n c 0 0 Try.underlying45
  have HS := Lib.hid ((hr.below (one_b8 w (.cells #[] 3))).src Try.underlying45 (iv_one l))
  have hln : n = l.length := by have := hr.ln; simpa [iv] using this
  have HN := Lib.hid hln
  have HM := Lib.hid hn
  clear hr hln hn
  go_enter Try.func48, Try.ntmps48
  go_wp2_with (at_builtin; refine wpList_append_src _ rfl _ _ 45 45 rfl w.heap.size 3 i0 (.int .i64 0) 1 8 Try.underlying45 hi0 hz0 hz1 hz2 rfl _ 0 [] rfl (World.ownsRow_made w #[] 0 (Nat.le_refl _) (Nat.zero_le _) rfl) _ n (iv l) rfl HS.out ?ca ?cb ?cc ?_)
  case ca => have := HM.out; unfold maxLen; omega
  case cb => have := HM.out; omega
  case cc => simp
  intro v' w1 hown hgrow _
  have hB : Below w.heap.size w w1 := ((Below.refl _ w).alloc (Nat.le_refl _) _).grown hgrow (by simp) (fun k hk => by simp [Value.ownBlock] at hk; omega)
  obtain ⟨a2, c2, rfl, hY⟩ : ∃ a2 c2, v' = .slice a2 n c2 ∧ Rv (fun k => k < w.heap.size ∨ w1.heap.size ≤ k) a2 n c2 (iv l) w1 := by
    rcases hown.2 with ⟨rfl, h0⟩ | ⟨g, cap, cur, rfl, hB2, hg, hr⟩
    · exact ⟨none, 0, by rw [h0], by rw [h0]; exact ⟨by have := hown.1; omega, fun h => by omega⟩⟩
    · refine ⟨_, _, rfl, ?_⟩
      have := Rv.of_own (ex := fun k => k < w.heap.size) hown (fun k hk => by omega)
      exact this.mono (fun k hk h => by rcases h with h | h <;> omega)
  go_wp2
  go_ret
  exact ⟨a2, c2, rfl, hY, hB⟩
set_option maxHeartbeats 1000000 in
set_option maxRecDepth 100000 in
theorem wlk_of_int {ex : Nat → Prop} {a : Addr} {n c : Nat} {l : List Int} {w : World} (hr : Rv ex (some a) n c (iv l) w) (hn : n ≤ 10000) (hx : ∀ k, w.heap.size ≤ k → ¬ ex k) :
    Calls Try.prog 26 #[.slice (some a) n c] w fun e w' => ∃ g lb, e = .returned (.func (.func g) #[] lb) ∧ Hid ((∀ args w, (callFunc g args).run Try.prog w = .ok (.enter g args) w) ∧ SeqX g lb eI l (fun k => w'.heap.size ≤ k) w') ∧ Below w.heap.size w w' := by
  have HC := Lib.hid (wlk_clone_int (w := w.alloc (.cells #[.slice (some a) n c] 45)) (hr.below (one_b8 w _)) hn (fun k hk => hx k (by simp at hk; omega)))
  clear hr
  go_enter Try.func26, Try.ntmps26
  go_wp2_with (refine HC.out.mono ?_; rintro e w1 ⟨a2, c2, rfl, hY, hB⟩; have hbx : Boxed w1 w.heap.size 45 (.slice (some a) n c) := (hB.block _ (by simp)).trans (Boxed.new w _ _); have c1 := hbx.cell; have f1 := hbx.frozen; have HBX := Lib.hid hbx; clear hbx)
  go_ret
  have hb2 : Below w.heap.size w (w1.setCell ⟨w.heap.size, 0, none⟩ (.slice a2 n c2)) := ((one_b8 w _).trans (hB.mono (by simp))).setCell (Nat.le_refl _) _
  have hx2 := HBX.out.set (.slice a2 n c2)
  refine ⟨_, _, rfl, ⟨enters_of Try.func49 (by kernel_rfl) rfl, ?_⟩, hb2⟩
  refine wlk_of1_int ?_ hx2.cell hx2.lt hn
  have hsz : (w1.setCell ⟨w.heap.size, 0, none⟩ (.slice a2 n c2)).heap.size = w1.heap.size := by simp
  rw [hsz]
  have ho : Only (fun k => k = w.heap.size) w1 (w1.setCell ⟨w.heap.size, 0, none⟩ (.slice a2 n c2)) := Only.setCell (p := fun k => k = w.heap.size) (q := ⟨w.heap.size, 0, none⟩) (Only.refl _ _) (.inl rfl) _
  have h3 := (hY.out.mono (ex' := fun k => k = w.heap.size) (fun k _ e => .inl (by rw [e]; simp))).keep ho
  have h4 : ∀ {k}, k < w1.heap.size → ¬ w1.heap.size ≤ k := fun h => by omega
  refine ⟨h3.ln, fun h0 => ?_⟩
  obtain ⟨g, off, e, hc, hg, hxg, hcell⟩ := h3.row h0
  exact ⟨g, off, e, hc, hg, h4 (by rw [hsz] at hg; exact hg), hcell⟩

set_option maxHeartbeats 2000000 in
set_option maxRecDepth 100000 in
theorem wlk_of1_string {Bl n c : Nat} {a : Option Addr} {l : List Tm.K} {w : World} (hr : Rv (fun k => w.heap.size ≤ k) a n c (sk l) w) (hbl : w.cell? ⟨Bl, 0, none⟩ = some (.slice a n c)) (hlt : Bl < w.heap.size) (hn : n ≤ 10000) :
    SeqX 56 #[.pointer (some ⟨Bl, 0, none⟩)] eS l (fun k => w.heap.size ≤ k) w := fun m cc ly J Jx W hbw hcD hl1 hl2 hJV hJ hJx hJxV hY h0 => by
  have hln : n = l.length := by have := hr.ln; simpa [sk] using this
  have HRD : Hid (∀ wr, Below w.heap.size w wr → ∀ j, j < n → ∃ (g off : Nat) (x : Tm.K), a = some ⟨g, off, none⟩ ∧ n ≤ c ∧ wr.cell? ⟨g, off + j, none⟩ = some (.string (bstr x)) ∧ Hid (l[j]? = some x)) := fun wr hb j hj => by
    obtain ⟨g, off, rfl, hc, hg, hx, hcell⟩ := hr.row (by omega)
    have hjl : j < l.length := by omega
    refine ⟨g, off, l[j], rfl, hc, (hb.cell (p := ⟨g, off + j, none⟩) hg).trans ?_, List.getElem?_eq_getElem hjl⟩
    rw [hcell j hj]
    simp [sk, List.getD, List.getElem?_eq_getElem hjl]
  have HTK : Hid (∀ j x, l[j]? = some x → l.take j ++ [x] = l.take (j + 1)) := fun j x hj => by rw [List.take_add_one, hj]; rfl
  have cb : W.cell? ⟨Bl, 0, none⟩ = some (.slice a n c) := (hbw.cell (p := ⟨Bl, 0, none⟩) hlt).trans hbl
  have HB0 := Lib.hid hbw
  have H0 : Hid (J (l.take 0) W) := h0
  have HYY : Hid (∀ (j : Nat) (x : Tm.K) (wr : World), l[j]? = some x → Below w.heap.size w wr → J (l.take j) wr → YieldAt Fence.wide m Try.prog ly (eS x) wr fun e W' => ∃ b : Bool, e = .returned (.bool b) ∧ Hid (Below w.heap.size w W' ∧ (b = true → J (l.take (j + 1)) W') ∧ (b = false → Jx (l.take (j + 1)) W'))) := fun j x wr hj hb hJr => by
    have h1 := HTK.out j x hj
    refine (hY m (l.take j) x wr hJr (by rw [h1]; exact List.take_prefix _ _)).mono ?_
    have hbel : ∀ W', cc.kq ly wr W' → Below w.heap.size w W' := fun W' h => below_only9 hb h.1 (fun k hk => by
      rcases hk with hk | rfl
      · exact hcD wr k (hJV _ _ hJr).1 hk
      · exact hl1)
    rw [h1]
    rintro e W' (⟨rfl, q1, q2⟩ | ⟨rfl, q1, q2⟩)
    · exact ⟨true, rfl, hbel _ q2, fun _ => q1, fun h => by cases h⟩
    · exact ⟨false, rfl, hbel _ q2, fun h => (by cases h), fun _ => q1⟩
  have HE : Hid (l.take n = l) := by rw [hln]; exact List.take_length
  clear hY hr hbl hJ h0 hJx hcD hl1 hl2 hJV hJxV hlt hbw HTK hln
  refine callsIn_of_wp Try.func56 rfl trivial ?_ rfl
  simp only [Try.ntmps56, List.size_toArray, List.length_cons, List.length_nil, Nat.reduceAdd, Nat.reduceSub, Array.replicate_succ, Array.replicate_zero, List.push_toArray, List.append_toArray, List.nil_append, List.cons_append]
  gi_wp2_with fail
  gi_loopw [7] (fun iv wr => ∃ j : Nat, j ≤ n ∧ iv = .int .i64 (j : Int) ∧ Hid (J (l.take j) wr) ∧ Hid (Below w.heap.size w wr)) (fun iv _ => n - (ixOf iv).toNat)
  case atStart => exact ⟨0, Nat.zero_le _, rfl, H0.out, HB0.out⟩
  case round =>
    clear H0 HB0
    obtain ⟨j, hj, rfl, HJr, HBr⟩ := hrel
    by_cases hlt : j < n
    case neg =>
      have hjI : ¬ (j : Int) < (n : Int) := by omega
      have HEND : Hid (J l wr) := by
        have := HJr.out
        rw [show j = n by omega, HE.out] at this
        exact this
      clear HRD HYY HJr HBr hlt HE
      gi_wp2
      go_end0
      exact ⟨⟨_, rfl⟩, .inl HEND.out⟩
    case pos =>
      have hjI : (j : Int) < (n : Int) := by omega
      obtain ⟨g, off, x, rfl, hc, k0, HX⟩ := HRD.out wr HBr.out j hlt
      obtain ⟨fn, tmps, assign, body, hyy, hR⟩ := HYY.out j x wr HX.out HBr.out HJr.out
      have HR := Lib.hid hR
      simp only [eS] at hyy
      clear hR HRD HYY
      gi_wp2_with fail
      refine HR.out.mono ?_
      rintro e1 W1 ⟨b, rfl, hB⟩
      have HBX := Lib.hid hB.out
      clear hB HR HJr HBr hyy k0
      cases b with
      | true =>
        have HJ2 : Hid (J (l.take (j + 1)) W1) := HBX.out.2.1 rfl
        have HB2 : Hid (Below w.heap.size w W1) := HBX.out.1
        clear HBX HX
        gi_wp2_with fail
        go_roundw
        case rel => exact ⟨j + 1, by omega, by go_num, HJ2, HB2⟩
        case measure => simp [ixOf]; omega
      | false =>
        have HX2 : Hid (Jx (l.take (j + 1)) W1) := HBX.out.2.2 rfl
        clear HBX HX
        gi_wp2
        refine bodyPost_ret (results_none rfl _ _ _) rfl ?_
        exact ⟨⟨_, rfl⟩, .inr ⟨_, List.take_prefix _ _, HX2.out⟩⟩

theorem info9_string : (Try.prog.info? 9).map (fun i => (i.zero, i.size, i.bytes)) = some (some (.string ⟨#[]⟩), 1, 16) := by kernel_rfl
set_option maxHeartbeats 1000000 in
set_option maxRecDepth 100000 in
theorem wlk_clone_string {ex : Nat → Prop} {a : Addr} {n c : Nat} {l : List Tm.K} {w : World} (hr : Rv ex (some a) n c (sk l) w) (hn : n ≤ 10000) (_hx : ∀ k, w.heap.size ≤ k → ¬ ex k) :
    Calls Try.prog 55 #[.slice (some a) n c] w fun e w' => ∃ a' c', e = .returned (.slice a' n c') ∧ Hid (Rv (fun k => k < w.heap.size ∨ w'.heap.size ≤ k) a' n c' (sk l) w') ∧ Below w.heap.size w w' := by
  obtain ⟨i0, hi0, hz0, hz1, hz2⟩ := info_of8 info9_string
  have hnil : ∀ (wx : World), (binOp .eql 22 (.slice (some a) n c) (.slice none 0 0)).run Try.prog wx = .ok (.bool false) wx := fun wx => Lib.run_eql_slice_nil wx _ _ _ n c 0 0 Try.underlying22
  have HS := Lib.hid ((hr.below (one_b8 w (.cells #[] 9))).src Try.underlying22 (sk_one l))
  have hln : n = l.length := by have := hr.ln; simpa [sk] using this
  have HN := Lib.hid hln
  have HM := Lib.hid hn
  clear hr hln hn
  go_enter Try.func55, Try.ntmps55
  go_wp2_with (at_builtin; refine wpList_append_src _ rfl _ _ 22 22 rfl w.heap.size 9 i0 (.string ⟨#[]⟩) 1 16 Try.underlying22 hi0 hz0 hz1 hz2 rfl _ 0 [] rfl (World.ownsRow_made w #[] 0 (Nat.le_refl _) (Nat.zero_le _) rfl) _ n (sk l) rfl HS.out ?ca ?cb ?cc ?_)
  case ca => have := HM.out; unfold maxLen; omega
  case cb => have := HM.out; omega
  case cc => simp
  intro v' w1 hown hgrow _
  have hB : Below w.heap.size w w1 := ((Below.refl _ w).alloc (Nat.le_refl _) _).grown hgrow (by simp) (fun k hk => by simp [Value.ownBlock] at hk; omega)
  obtain ⟨a2, c2, rfl, hY⟩ : ∃ a2 c2, v' = .slice a2 n c2 ∧ Rv (fun k => k < w.heap.size ∨ w1.heap.size ≤ k) a2 n c2 (sk l) w1 := by
    rcases hown.2 with ⟨rfl, h0⟩ | ⟨g, cap, cur, rfl, hB2, hg, hr⟩
    · exact ⟨none, 0, by rw [h0], by rw [h0]; exact ⟨by have := hown.1; omega, fun h => by omega⟩⟩
    · refine ⟨_, _, rfl, ?_⟩
      have := Rv.of_own (ex := fun k => k < w.heap.size) hown (fun k hk => by omega)
      exact this.mono (fun k hk h => by rcases h with h | h <;> omega)
  go_wp2
  go_ret
  exact ⟨a2, c2, rfl, hY, hB⟩
set_option maxHeartbeats 1000000 in
set_option maxRecDepth 100000 in
theorem wlk_of_string {ex : Nat → Prop} {a : Addr} {n c : Nat} {l : List Tm.K} {w : World} (hr : Rv ex (some a) n c (sk l) w) (hn : n ≤ 10000) (hx : ∀ k, w.heap.size ≤ k → ¬ ex k) :
    Calls Try.prog 33 #[.slice (some a) n c] w fun e w' => ∃ g lb, e = .returned (.func (.func g) #[] lb) ∧ Hid ((∀ args w, (callFunc g args).run Try.prog w = .ok (.enter g args) w) ∧ SeqX g lb eS l (fun k => w'.heap.size ≤ k) w') ∧ Below w.heap.size w w' := by
  have HC := Lib.hid (wlk_clone_string (w := w.alloc (.cells #[.slice (some a) n c] 22)) (hr.below (one_b8 w _)) hn (fun k hk => hx k (by simp at hk; omega)))
  clear hr
  go_enter Try.func33, Try.ntmps33
  go_wp2_with (refine HC.out.mono ?_; rintro e w1 ⟨a2, c2, rfl, hY, hB⟩; have hbx : Boxed w1 w.heap.size 22 (.slice (some a) n c) := (hB.block _ (by simp)).trans (Boxed.new w _ _); have c1 := hbx.cell; have f1 := hbx.frozen; have HBX := Lib.hid hbx; clear hbx)
  go_ret
  have hb2 : Below w.heap.size w (w1.setCell ⟨w.heap.size, 0, none⟩ (.slice a2 n c2)) := ((one_b8 w _).trans (hB.mono (by simp))).setCell (Nat.le_refl _) _
  have hx2 := HBX.out.set (.slice a2 n c2)
  refine ⟨_, _, rfl, ⟨enters_of Try.func56 (by kernel_rfl) rfl, ?_⟩, hb2⟩
  refine wlk_of1_string ?_ hx2.cell hx2.lt hn
  have hsz : (w1.setCell ⟨w.heap.size, 0, none⟩ (.slice a2 n c2)).heap.size = w1.heap.size := by simp
  rw [hsz]
  have ho : Only (fun k => k = w.heap.size) w1 (w1.setCell ⟨w.heap.size, 0, none⟩ (.slice a2 n c2)) := Only.setCell (p := fun k => k = w.heap.size) (q := ⟨w.heap.size, 0, none⟩) (Only.refl _ _) (.inl rfl) _
  have h3 := (hY.out.mono (ex' := fun k => k = w.heap.size) (fun k _ e => .inl (by rw [e]; simp))).keep ho
  have h4 : ∀ {k}, k < w1.heap.size → ¬ w1.heap.size ≤ k := fun h => by omega
  refine ⟨h3.ln, fun h0 => ?_⟩
  obtain ⟨g, off, e, hc, hg, hxg, hcell⟩ := h3.row h0
  exact ⟨g, off, e, hc, hg, h4 (by rw [hsz] at hg; exact hg), hcell⟩
end Go.Proofs.Ytdchapcpimhjaaa
/- Layer 9: Take. -/
namespace Go.Proofs.Ytdchapcpimhjaaa
open Go.RowKit Go.Shelf

attribute [local go_sem] Oper.semAt_some

theorem SeqX.below {α : Type} {g : FuncId} {lb : Array Value} {enc : α → Array Value} {L : List α} {D : Nat → Prop} {w w' : World} (h : SeqX g lb enc L D w) (hb : Below w.heap.size w w') : SeqX g lb enc L D w' :=
  fun m c l J Jx W h1 h2 h3 => h m c l J Jx W (hb.trans (h1.mono hb.size)) h2 (Nat.le_trans hb.size h3)
theorem round_in {m : Nat} {F : Fence} {P : Program} {l l' : Nat} {f : FuncId} {tmps : Array Value} {assign body : Code} {w : World} {R : Ending → World → Prop} (h : RoundIn F m P l f tmps assign body w R) : RoundIn (F.inRound l') m P l f tmps assign body w R := h


set_option maxHeartbeats 4000000 in
set_option maxRecDepth 100000 in
theorem wlk_take1_int {B0 B1 g : Nat} {lb : Array Value} {N : Int} {L : List Int} {D : Nat → Prop} {w : World} (hs : SeqX g lb eI L D w) (hen : ∀ args w, (callFunc g args).run Try.prog w = .ok (.enter g args) w) (hD : ∀ k, w.heap.size ≤ k → D k)
    (hb0 : w.cell? ⟨B0, 0, none⟩ = some (.func (.func g) #[] lb)) (hb1 : w.cell? ⟨B1, 0, none⟩ = some (.int .i64 N)) (hl0 : B0 < w.heap.size) (hl1 : B1 < w.heap.size) (hN : N ≤ 4611686018427387904) :
    SeqX 46 #[.pointer (some ⟨B0, 0, none⟩), .pointer (some ⟨B1, 0, none⟩)] eI (L.take N.toNat) D w := fun m cc ly J Jx W hbw hcD hlw hlW hJV hJ hJx hJxV hY h0 => by
  have c0 : W.cell? ⟨B0, 0, none⟩ = some (.func (.func g) #[] lb) := (hbw.cell (p := ⟨B0, 0, none⟩) hl0).trans hb0
  have c1 : W.cell? ⟨B1, 0, none⟩ = some (.int .i64 N) := (hbw.cell (p := ⟨B1, 0, none⟩) hl1).trans hb1
  have hk0 : B0 < W.heap.size := by have := hbw.size; omega
  have hk1 : B1 < W.heap.size := by have := hbw.size; omega
  have hnf : ∀ w, (binOp .eql 41 (.func (.func g) #[] lb) .nilFunc).run Try.prog w = .ok (.bool false) w := fun w => rfl
  obtain ⟨p, hp⟩ : ∃ p, p = W.heap.size := ⟨_, rfl⟩
  have HP := Lib.hid hp
  by_cases hn : N ≤ 0
  case pos =>
    have HE : Hid (∀ o, J (L.take N.toNat) (W.alloc o)) := fun o => by
      rw [show N.toNat = 0 by omega]
      exact hJ _ _ _ h0 (only_new _ _ _)
    clear hY hJ h0 hJx hcD hJV hJxV hbw hs hb0 hb1 hl0 hl1 hD hlw hlW
    refine callsIn_of_wp Try.func46 rfl trivial ?_ rfl
    simp only [Try.ntmps46, List.size_toArray, List.length_cons, List.length_nil, Nat.reduceAdd, Nat.reduceSub, Array.replicate_succ, Array.replicate_zero, List.push_toArray, List.append_toArray, List.nil_append, List.cons_append]
    gi_wp2
    refine bodyPost_ret (results_none rfl _ _ _) rfl ?_
    exact ⟨⟨_, rfl⟩, .inl (HE.out _)⟩
  case neg =>
    obtain ⟨n, rfl⟩ : ∃ n : Nat, N = (n : Int) := ⟨N.toNat, by omega⟩
    rw [show ((n : Int)).toNat = n by omega] at hY ⊢
    have hn0 : 0 < n := by omega
    have hnb : n ≤ 4611686018427387904 := by omega
    -- what stands in a round
    obtain ⟨c2, hc2⟩ : ∃ c2 : Co, c2 = cc.plus (fun k => k = ly ∨ k = p + 1) (p + 2) := ⟨_, rfl⟩
    obtain ⟨Z, hZ⟩ : ∃ Z : World → Prop, Z = fun X => p + 2 ≤ X.heap.size ∧ X.cell? ⟨p, 0, none⟩ = some (.func (.yield ly) #[] #[]) ∧ cc.V X ∧ ¬ cc.O X ly ∧ ¬ cc.O X p ∧ ¬ cc.O X (p + 1) := ⟨_, rfl⟩
    have hZk : ∀ X Y, Z X → Only (fun k => p + 1 ≤ k ∧ ¬ cc.O X k) X Y → Z Y := fun X Y h ho => by
      rw [hZ] at h ⊢
      obtain ⟨h1, h2, h3, h4, h5, h6⟩ := h
      have hs := cc.same h3 ho (fun k h => h.2)
      exact ⟨by have := ho.size; omega, (cell_only8 ho (q := ⟨p, 0, none⟩) (by show p < X.heap.size; omega) (fun h => Nat.not_succ_le_self p h.1)).trans h2, hs.1, fun h => h4 ((hs.2 _).1 h), fun h => h5 ((hs.2 _).1 h), fun h => h6 ((hs.2 _).1 h)⟩
    have hZc : ∀ X, Z X → c2.V X ∧ (∀ k, c2.O X k ↔ cc.O X k ∨ ((k = ly ∨ k = p + 1) ∧ k < p + 2)) := fun X h => by
      rw [hZ] at h
      subst hc2
      refine ⟨⟨h.2.2.1, h.1, fun k hk _ => ?_⟩, fun k => Iff.rfl⟩
      rcases hk with rfl | rfl
      · exact h.2.2.2.1
      · exact h.2.2.2.2.2
    have hly : ly < p := by omega
    have hmv : ∀ X Y, Z X → Only (fun k => p + 1 ≤ k ∧ ¬ cc.O X k) X Y → cc.mv ly W.heap.size X Y := fun X Y h ho => only_w ho (fun k hk => ⟨by omega, hk.2, by omega⟩)
    have hJ2 : ∀ s X Y, J s X → Z X → Only (fun k => p + 1 ≤ k ∧ ¬ cc.O X k) X Y → J s Y := fun s X Y h hz ho => hJ s X Y h (hmv X Y hz ho)
    have hJx2 : ∀ s X Y, Jx s X → Z X → Only (fun k => p + 1 ≤ k ∧ ¬ cc.O X k) X Y → Jx s Y := fun s X Y h hz ho => hJx s X Y h (hJxV s X h).1 (hmv X Y hz ho)
    obtain ⟨W1, hW1⟩ : ∃ W1, W1 = (W.alloc (.cells #[.func (.yield ly) #[] #[]] 75)).alloc (.cells #[.int .i64 n] 3) := ⟨_, rfl⟩
    have hs1 : W1.heap.size = p + 2 := by rw [hW1, hp]; simp
    have ho1 : ∀ q : Nat → Prop, Only q W W1 := fun q => by rw [hW1]; exact (only_new q W _).alloc _
    have hJ1 : J [] W1 := hJ _ _ _ h0 (ho1 _)
    have hvl := hJV _ _ hJ1
    have hlt0 : ∀ k, cc.O W1 k → k < p := fun k hk => by
      have h2 := cc.same (hJV _ _ h0).1 (ho1 (fun _ => False)) (fun _ h => h.elim)
      have := cc.lt W k (hJV _ _ h0).1 ((h2.2 k).1 hk)
      omega
    have bY : Boxed W1 p 75 (.func (.yield ly) #[] #[]) := by rw [hW1, hp]; exact (Boxed.new W _ _).alloc _
    have bL : Boxed W1 (p + 1) 3 (.int .i64 n) := by
      have := Boxed.new (W.alloc (.cells #[.func (.yield ly) #[] #[]] 75)) 3 (.int .i64 n)
      rw [World.size_alloc, ← hW1, ← hp] at this
      exact this
    have hZ1 : Z W1 := by
      rw [hZ]
      exact ⟨by omega, bY.cell, hvl.1, hvl.2, fun h => by have := hlt0 p h; omega, fun h => by have := hlt0 (p + 1) h; omega⟩
    have hb1' : Below w.heap.size w W1 := by rw [hW1]; exact (hbw.alloc (by have := hbw.size; omega) _).alloc (by have := hbw.size; simp; omega) _
    refine callsIn_wide.2 ((callsIn_wide (n := 9)).1 ?_)
    refine callsIn_of_wp_marks Try.func46 rfl trivial ?_ rfl
    simp only [Try.ntmps46, List.size_toArray, List.length_cons, List.length_nil, Nat.reduceAdd, Nat.reduceSub, Array.replicate_succ, Array.replicate_zero, List.push_toArray, List.append_toArray, List.nil_append, List.cons_append]
    gi_wp2_with fail
    rw [← hW1, ← hp]
    have HOW := Lib.hid ho1
    clear hW1
    refine rangeX (n := 9) (w := W1) (α := Int) (enc := eI) (L := L) (D := D) (w0 := w) (fun t x => (t.setIfInBounds 14 (.int .i64 x)).setIfInBounds 5 (.int .i64 x)) c2 (gf := g) (lb := lb) (by omega) rfl hen hs hb1' ?_ (fun _ => rfl)
      (fun pre X => pre.length < n ∧ J pre X ∧ Z X ∧ Boxed X (p + 1) 3 (.int .i64 ((n - pre.length : Nat) : Int)))
      (fun cd pre X => cd = .ret ∧ Z X ∧ ((J pre X ∧ pre.length = n) ∨ (Jx pre X ∧ pre.length ≤ n))) (fun _ X h => (hZc X h.2.2.1).1) (fun _ _ X h => (hZc X h.2.1).1) ?hI ?hIx ?h0 ?assign ?body ?done ?stop
    case hI =>
      rintro s X Y ⟨q1, q2, q3, q4⟩ ho
      have ho2 : Only (fun k => p + 1 ≤ k ∧ ¬ cc.O X k) X Y := only_w ho (fun k hk => ⟨by omega, fun h => hk.2 (((hZc X q3).2 k).2 (.inl h))⟩)
      refine ⟨q1, hJ2 _ _ _ q2 q3 ho2, hZk _ _ q3 ho2, ?_⟩
      exact (ho.block _ q4.lt (fun h => h.2 (((hZc X q3).2 (p + 1)).2 (.inr ⟨.inr rfl, by omega⟩)))).trans q4
    case hIx =>
      rintro cd s X Y ⟨q1, q3, q2⟩ ho
      have ho2 : Only (fun k => p + 1 ≤ k ∧ ¬ cc.O X k) X Y := only_w ho (fun k hk => ⟨by omega, fun h => hk.2 (((hZc X q3).2 k).2 (.inl h))⟩)
      refine ⟨q1, hZk _ _ q3 ho2, ?_⟩
      rcases q2 with ⟨q2, q4⟩ | q2
      · exact .inl ⟨hJ2 _ _ _ q2 q3 ho2, q4⟩
      · exact .inr ⟨hJx2 _ _ _ q2.1 q3 ho2, q2.2⟩
    case h0 => exact ⟨hn0, hJ1, hZ1, bL⟩
    case assign =>
      intro l x wx K hK
      clear hp hs1
      simp only [eI]
      simp only [List.setIfInBounds_toArray, List.set_cons_succ, List.set_cons_zero] at hK
      gi_wp2
      exact hK
    case body =>
      rintro l pre x X hl hlX hnl ⟨q1, q2, q3, q4⟩ hpre
      obtain ⟨r, hr⟩ : ∃ r, r = n - pre.length := ⟨_, rfl⟩
      rw [← hr] at q4
      have hr1 : 1 ≤ r := by omega
      have hr2 : r ≤ 4611686018427387904 := by omega
      have hO := (hZc X q3).2
      have q3' := q3
      rw [hZ] at q3'
      obtain ⟨z1, z2, z3, z4, z5, z6⟩ := q3'
      obtain ⟨X1, hX1⟩ : ∃ X1, X1 = X.setCell ⟨p + 1, 0, none⟩ (.int .i64 ((r : Int) - 1)) := ⟨_, rfl⟩
      have o1 : Only (fun k => k = p + 1) X X1 := by rw [hX1]; exact Only.setCell (p := fun k => k = p + 1) (q := ⟨p + 1, 0, none⟩) (Only.refl _ _) (.inl rfl) _
      have o1' : Only (fun k => p + 1 ≤ k ∧ ¬ cc.O X k) X X1 := only_w o1 (fun k hk => by subst hk; exact ⟨Nat.le_refl _, z6⟩)
      have j1 := hJ2 _ _ _ q2 q3 o1'
      have y1 := hZk _ _ q3 o1'
      have b1 : Boxed X1 (p + 1) 3 (.int .i64 ((r : Int) - 1)) := by rw [hX1]; exact q4.set _
      have y1' := y1
      rw [hZ] at y1'
      obtain ⟨a1, a2, a3, a4, a5, a6⟩ := y1'
      have e1 := cc.same z3 o1' (fun k hk => hk.2)
      have hsz1 := o1.size
      obtain ⟨fn, tmps, assign, body, hyy, hR⟩ := hY 9 pre x X1 j1 (List.prefix_take_iff.2 ⟨hpre, by rw [List.length_append, List.length_singleton]; omega⟩)
      simp only [eI] at hyy
      have HR : Hid (RoundIn (Fence.wide.inRound l) 6 Try.prog ly fn tmps assign body X1 fun e W' => ∃ b : Bool, e = .returned (.bool b) ∧ W'.cell? ⟨p + 1, 0, none⟩ = some (.int .i64 ((r : Int) - 1)) ∧ Hid (Z W' ∧ Boxed W' (p + 1) 3 (.int .i64 ((r : Int) - 1)) ∧ c2.kb X W' ∧ (b = true → J (pre ++ [x]) W') ∧ (b = false → Jx (pre ++ [x]) W'))) := by
        refine round_in (round_any 6 (hR.mono ?_))
        have aft : ∀ W', cc.kq ly X1 W' → cc.V W' ∧ ¬ cc.O W' ly → Z W' ∧ Boxed W' (p + 1) 3 (.int .i64 ((r : Int) - 1)) ∧ c2.kb X W' := fun W' h hv => by
          have nP : ∀ k, k < X1.heap.size → ¬ cc.O X1 k → ¬ cc.O W' k := fun k hk hn h' => by
            rcases h.2 k h' with h' | h'
            · exact hn h'
            · omega
          have hbq : Boxed W' (p + 1) 3 (.int .i64 ((r : Int) - 1)) := (h.1.block _ (by omega) (fun h' => by
            rcases h' with h' | h'
            · exact a6 h'
            · omega)).trans b1
          have hz : Z W' := by
            rw [hZ]
            refine ⟨by have := h.1.size; omega, (cell_only8 h.1 (q := ⟨p, 0, none⟩) (by show p < X1.heap.size; omega) (fun h' => ?_)).trans a2, hv.1, hv.2, nP _ (by omega) a5, nP _ (by omega) a6⟩
            rcases h' with h' | h'
            · exact a5 h'
            · exact absurd (show p = ly from h') (by omega)
          refine ⟨hz, hbq, ?_, fun k hk => ?_⟩
          · refine (only_w o1 (fun k hk => (hO k).2 (.inr ⟨.inr hk, by omega⟩))).trans (only_w h.1 (fun k hk => ?_))
            rcases hk with hk | rfl
            · exact (hO k).2 (.inl ((e1.2 k).1 hk))
            · exact (hO k).2 (.inr ⟨.inl rfl, by omega⟩)
          · rcases ((hZc W' hz).2 k).1 hk with hk | hk
            · rcases h.2 k hk with hk | hk
              · exact .inl ((hO k).2 (.inl ((e1.2 k).1 hk)))
              · exact .inr (by omega)
            · exact .inl ((hO k).2 (.inr hk))
        rintro e W' (⟨rfl, t1, t2⟩ | ⟨rfl, t1, t2⟩)
        · obtain ⟨u1, u2, u3⟩ := aft W' t2 (hJV _ _ t1)
          exact ⟨true, rfl, u2.cell, u1, u2, u3, fun _ => t1, fun h => by cases h⟩
        · obtain ⟨u1, u2, u3⟩ := aft W' t2 (hJxV _ _ t1)
          exact ⟨false, rfl, u2.cell, u1, u2, u3, fun h => (by cases h), fun _ => t1⟩
      have cL := q4.cell
      have fL := q4.frozen
      have HX1 := Lib.hid hX1
      have HR2 := Lib.hid hr
      rw [hX1] at hyy a2 HR
      clear hY hJ hJx hJV hJxV hJ2 hJx2 hZk hmv hcD hs hbw h0 hJ1 hvl hlt0 bY bL hZ1 hb1' ho1 hR q2 q3 hO o1 o1' j1 y1 b1 e1 hnl hpre hX1 hr z1 z2 z3 z4 z5 z6 a1 a3 a4 a5 a6 hb0 hb1 hl0 hl1 hD hlw hlW HOW hl hlX hsz1 hZc hZ hs1 hp
      simp only [List.setIfInBounds_toArray, List.set_cons_succ, List.set_cons_zero]
      gi_wp2_with fail
      refine HR.out.mono ?_
      rintro e1 W2 ⟨b, rfl, cR, hB⟩
      have HB := Lib.hid hB.out
      clear hB HR hyy
      cases b with
      | false =>
        clear cR
        gi_wp2
        exact ⟨HB.out.2.2.1, rfl, HB.out.1, .inr ⟨HB.out.2.2.2.2 (by trivial), by rw [List.length_append, List.length_singleton]; omega⟩⟩
      | true =>
        by_cases hz : r = 1
        case pos =>
          have hzI : (r : Int) - 1 = 0 := by omega
          gi_wp2
          refine ⟨HB.out.2.2.1, rfl, HB.out.1, .inl ⟨HB.out.2.2.2.1 (by trivial), ?_⟩⟩
          have := HR2.out
          rw [List.length_append, List.length_singleton]; omega
        case neg =>
          have hzI : ¬ (r : Int) - 1 = 0 := by omega
          gi_wp2
          refine ⟨HB.out.2.2.1, ?_, HB.out.2.2.2.1 (by trivial), HB.out.1, ?_⟩
          · have := HR2.out
            rw [List.length_append, List.length_singleton]; omega
          · have h1 := HB.out.2.1
            have := HR2.out
            rw [show (r : Int) - 1 = ((n - (pre ++ [x]).length : Nat) : Int) by rw [List.length_append, List.length_singleton]; omega] at h1
            exact h1
    case done =>
      rintro Dn X hDn ⟨q1, q2, q3, q4⟩ hK hnD
      have HE : Hid (J (L.take n) (X.putObj Dn (.deferred none))) := by
        show J _ _
        rw [List.take_of_length_le (by omega)]
        exact hJ2 _ _ _ q2 q3 (only_w (only_put X Dn _) (fun k hk => by subst hk; exact ⟨by omega, fun h => hnD (((hZc X q3).2 k).2 (.inl h))⟩))
      have HK := Lib.hid hK
      clear hY hJ hJx hJV hJxV hJ2 hJx2 hZk hmv hcD hs hbw h0 hJ1 hvl hlt0 bY bL hZ1 hb1' ho1 hZc hZ hs1 hp hb0 hb1 hl0 hl1 hD hlw hlW HOW hnD hK hDn q1 q2 q3 q4
      gi_wp2
      refine ⟨by simp, .inl ⟨_, _, rfl, run_takeDeferred HK.out, ?_⟩⟩
      exact ⟨_, results_none rfl _ _ _, ⟨_, rfl⟩, .inl HE.out⟩
    case stop =>
      rintro Dn cd pre X hDn hpre ⟨rfl, q3, q2⟩ hK hnD
      have HE : Hid (J (L.take n) (X.putObj Dn (.deferred none)) ∨ ∃ pre, pre <+: L.take n ∧ Jx pre (X.putObj Dn (.deferred none))) := by
        have ho := only_w (only_put X Dn (.deferred none)) (q := fun k => p + 1 ≤ k ∧ ¬ cc.O X k) (fun k hk => by subst hk; exact ⟨by omega, fun h => hnD (((hZc X q3).2 k).2 (.inl h))⟩)
        rcases q2 with ⟨q2, q4⟩ | q2
        · left
          obtain ⟨t, rfl⟩ := hpre
          rw [← q4, List.take_left]
          exact hJ2 _ _ _ q2 q3 ho
        · right
          exact ⟨pre, List.prefix_take_iff.2 ⟨hpre, q2.2⟩, hJx2 _ _ _ q2.1 q3 ho⟩
      have HK := Lib.hid hK
      clear hY hJ hJx hJV hJxV hJ2 hJx2 hZk hmv hcD hs hbw h0 hJ1 hvl hlt0 bY bL hZ1 hb1' ho1 hZc hZ hs1 hp hb0 hb1 hl0 hl1 hD hlw hlW HOW hnD hK hDn q2 q3 hpre
      gi_wp2
      refine ⟨by simp, .inl ⟨_, _, rfl, run_takeDeferred HK.out, ?_⟩⟩
      exact ⟨_, results_none rfl _ _ _, ⟨_, rfl⟩, HE.out⟩
    · intro X k hv hk
      subst hc2
      rcases hk with hk | ⟨rfl | rfl, hk⟩
      · exact hcD X k hv.1 hk
      · exact hD _ hlw
      · exact hD _ (by have := hbw.size; omega)

set_option maxHeartbeats 1000000 in
set_option maxRecDepth 100000 in
theorem wlk_take_int {g : Nat} {lb : Array Value} {N : Int} {L : List Int} {D : Nat → Prop} {w : World} (hs : SeqX g lb eI L D w) (hen : ∀ args w, (callFunc g args).run Try.prog w = .ok (.enter g args) w) (hD : ∀ k, w.heap.size ≤ k → D k) (hN : N ≤ 4611686018427387904) :
    Calls Try.prog 21 #[.func (.func g) #[] lb, .int .i64 N] w fun e w' => ∃ g2 lb2, e = .returned (.func (.func g2) #[] lb2) ∧ Hid ((∀ args w, (callFunc g2 args).run Try.prog w = .ok (.enter g2 args) w) ∧ SeqX g2 lb2 eI (L.take N.toNat) D w') ∧ Below w.heap.size w w' := by
  have HS := Lib.hid hs; have HE := Lib.hid hen; have HD := Lib.hid hD
  clear hs hen hD
  go_enter Try.func21, Try.ntmps21
  go_wp2
  go_ret
  have hb : Below w.heap.size w ((w.alloc (.cells #[.func (.func g) #[] lb] 41)).alloc (.cells #[.int .i64 N] 3)) := (one_b8 _ _).alloc (by simp) _
  have b0 := ((Boxed.new w 41 (.func (.func g) #[] lb)).alloc (.cells #[.int .i64 N] 3)).cell
  have b1 := (Boxed.new (w.alloc (.cells #[.func (.func g) #[] lb] 41)) 3 (.int .i64 N)).cell
  rw [World.size_alloc] at b1
  refine ⟨_, _, rfl, ⟨enters_of Try.func46 (by kernel_rfl) rfl, ?_⟩, hb⟩
  exact wlk_take1_int (HS.out.below hb) HE.out (fun k hk => HD.out k (by simp at hk; omega)) b0 b1 (by simp; omega) (by simp) hN

set_option maxHeartbeats 4000000 in
set_option maxRecDepth 100000 in
theorem wlk_take1_string {B0 B1 g : Nat} {lb : Array Value} {N : Int} {L : List Tm.K} {D : Nat → Prop} {w : World} (hs : SeqX g lb eS L D w) (hen : ∀ args w, (callFunc g args).run Try.prog w = .ok (.enter g args) w) (hD : ∀ k, w.heap.size ≤ k → D k)
    (hb0 : w.cell? ⟨B0, 0, none⟩ = some (.func (.func g) #[] lb)) (hb1 : w.cell? ⟨B1, 0, none⟩ = some (.int .i64 N)) (hl0 : B0 < w.heap.size) (hl1 : B1 < w.heap.size) (hN : N ≤ 4611686018427387904) :
    SeqX 64 #[.pointer (some ⟨B0, 0, none⟩), .pointer (some ⟨B1, 0, none⟩)] eS (L.take N.toNat) D w := fun m cc ly J Jx W hbw hcD hlw hlW hJV hJ hJx hJxV hY h0 => by
  have c0 : W.cell? ⟨B0, 0, none⟩ = some (.func (.func g) #[] lb) := (hbw.cell (p := ⟨B0, 0, none⟩) hl0).trans hb0
  have c1 : W.cell? ⟨B1, 0, none⟩ = some (.int .i64 N) := (hbw.cell (p := ⟨B1, 0, none⟩) hl1).trans hb1
  have hk0 : B0 < W.heap.size := by have := hbw.size; omega
  have hk1 : B1 < W.heap.size := by have := hbw.size; omega
  have hnf : ∀ w, (binOp .eql 55 (.func (.func g) #[] lb) .nilFunc).run Try.prog w = .ok (.bool false) w := fun w => rfl
  obtain ⟨p, hp⟩ : ∃ p, p = W.heap.size := ⟨_, rfl⟩
  have HP := Lib.hid hp
  by_cases hn : N ≤ 0
  case pos =>
    have HE : Hid (∀ o, J (L.take N.toNat) (W.alloc o)) := fun o => by
      rw [show N.toNat = 0 by omega]
      exact hJ _ _ _ h0 (only_new _ _ _)
    clear hY hJ h0 hJx hcD hJV hJxV hbw hs hb0 hb1 hl0 hl1 hD hlw hlW
    refine callsIn_of_wp Try.func64 rfl trivial ?_ rfl
    simp only [Try.ntmps64, List.size_toArray, List.length_cons, List.length_nil, Nat.reduceAdd, Nat.reduceSub, Array.replicate_succ, Array.replicate_zero, List.push_toArray, List.append_toArray, List.nil_append, List.cons_append]
    gi_wp2
    refine bodyPost_ret (results_none rfl _ _ _) rfl ?_
    exact ⟨⟨_, rfl⟩, .inl (HE.out _)⟩
  case neg =>
    obtain ⟨n, rfl⟩ : ∃ n : Nat, N = (n : Int) := ⟨N.toNat, by omega⟩
    rw [show ((n : Int)).toNat = n by omega] at hY ⊢
    have hn0 : 0 < n := by omega
    have hnb : n ≤ 4611686018427387904 := by omega
    -- what stands in a round
    obtain ⟨c2, hc2⟩ : ∃ c2 : Co, c2 = cc.plus (fun k => k = ly ∨ k = p + 1) (p + 2) := ⟨_, rfl⟩
    obtain ⟨Z, hZ⟩ : ∃ Z : World → Prop, Z = fun X => p + 2 ≤ X.heap.size ∧ X.cell? ⟨p, 0, none⟩ = some (.func (.yield ly) #[] #[]) ∧ cc.V X ∧ ¬ cc.O X ly ∧ ¬ cc.O X p ∧ ¬ cc.O X (p + 1) := ⟨_, rfl⟩
    have hZk : ∀ X Y, Z X → Only (fun k => p + 1 ≤ k ∧ ¬ cc.O X k) X Y → Z Y := fun X Y h ho => by
      rw [hZ] at h ⊢
      obtain ⟨h1, h2, h3, h4, h5, h6⟩ := h
      have hs := cc.same h3 ho (fun k h => h.2)
      exact ⟨by have := ho.size; omega, (cell_only8 ho (q := ⟨p, 0, none⟩) (by show p < X.heap.size; omega) (fun h => Nat.not_succ_le_self p h.1)).trans h2, hs.1, fun h => h4 ((hs.2 _).1 h), fun h => h5 ((hs.2 _).1 h), fun h => h6 ((hs.2 _).1 h)⟩
    have hZc : ∀ X, Z X → c2.V X ∧ (∀ k, c2.O X k ↔ cc.O X k ∨ ((k = ly ∨ k = p + 1) ∧ k < p + 2)) := fun X h => by
      rw [hZ] at h
      subst hc2
      refine ⟨⟨h.2.2.1, h.1, fun k hk _ => ?_⟩, fun k => Iff.rfl⟩
      rcases hk with rfl | rfl
      · exact h.2.2.2.1
      · exact h.2.2.2.2.2
    have hly : ly < p := by omega
    have hmv : ∀ X Y, Z X → Only (fun k => p + 1 ≤ k ∧ ¬ cc.O X k) X Y → cc.mv ly W.heap.size X Y := fun X Y h ho => only_w ho (fun k hk => ⟨by omega, hk.2, by omega⟩)
    have hJ2 : ∀ s X Y, J s X → Z X → Only (fun k => p + 1 ≤ k ∧ ¬ cc.O X k) X Y → J s Y := fun s X Y h hz ho => hJ s X Y h (hmv X Y hz ho)
    have hJx2 : ∀ s X Y, Jx s X → Z X → Only (fun k => p + 1 ≤ k ∧ ¬ cc.O X k) X Y → Jx s Y := fun s X Y h hz ho => hJx s X Y h (hJxV s X h).1 (hmv X Y hz ho)
    obtain ⟨W1, hW1⟩ : ∃ W1, W1 = (W.alloc (.cells #[.func (.yield ly) #[] #[]] 76)).alloc (.cells #[.int .i64 n] 3) := ⟨_, rfl⟩
    have hs1 : W1.heap.size = p + 2 := by rw [hW1, hp]; simp
    have ho1 : ∀ q : Nat → Prop, Only q W W1 := fun q => by rw [hW1]; exact (only_new q W _).alloc _
    have hJ1 : J [] W1 := hJ _ _ _ h0 (ho1 _)
    have hvl := hJV _ _ hJ1
    have hlt0 : ∀ k, cc.O W1 k → k < p := fun k hk => by
      have h2 := cc.same (hJV _ _ h0).1 (ho1 (fun _ => False)) (fun _ h => h.elim)
      have := cc.lt W k (hJV _ _ h0).1 ((h2.2 k).1 hk)
      omega
    have bY : Boxed W1 p 76 (.func (.yield ly) #[] #[]) := by rw [hW1, hp]; exact (Boxed.new W _ _).alloc _
    have bL : Boxed W1 (p + 1) 3 (.int .i64 n) := by
      have := Boxed.new (W.alloc (.cells #[.func (.yield ly) #[] #[]] 76)) 3 (.int .i64 n)
      rw [World.size_alloc, ← hW1, ← hp] at this
      exact this
    have hZ1 : Z W1 := by
      rw [hZ]
      exact ⟨by omega, bY.cell, hvl.1, hvl.2, fun h => by have := hlt0 p h; omega, fun h => by have := hlt0 (p + 1) h; omega⟩
    have hb1' : Below w.heap.size w W1 := by rw [hW1]; exact (hbw.alloc (by have := hbw.size; omega) _).alloc (by have := hbw.size; simp; omega) _
    refine callsIn_wide.2 ((callsIn_wide (n := 9)).1 ?_)
    refine callsIn_of_wp_marks Try.func64 rfl trivial ?_ rfl
    simp only [Try.ntmps64, List.size_toArray, List.length_cons, List.length_nil, Nat.reduceAdd, Nat.reduceSub, Array.replicate_succ, Array.replicate_zero, List.push_toArray, List.append_toArray, List.nil_append, List.cons_append]
    gi_wp2_with fail
    rw [← hW1, ← hp]
    have HOW := Lib.hid ho1
    clear hW1
    refine rangeX (n := 9) (w := W1) (α := Tm.K) (enc := eS) (L := L) (D := D) (w0 := w) (fun t x => (t.setIfInBounds 14 (.string (bstr x))).setIfInBounds 5 (.string (bstr x))) c2 (gf := g) (lb := lb) (by omega) rfl hen hs hb1' ?_ (fun _ => rfl)
      (fun pre X => pre.length < n ∧ J pre X ∧ Z X ∧ Boxed X (p + 1) 3 (.int .i64 ((n - pre.length : Nat) : Int)))
      (fun cd pre X => cd = .ret ∧ Z X ∧ ((J pre X ∧ pre.length = n) ∨ (Jx pre X ∧ pre.length ≤ n))) (fun _ X h => (hZc X h.2.2.1).1) (fun _ _ X h => (hZc X h.2.1).1) ?hI ?hIx ?h0 ?assign ?body ?done ?stop
    case hI =>
      rintro s X Y ⟨q1, q2, q3, q4⟩ ho
      have ho2 : Only (fun k => p + 1 ≤ k ∧ ¬ cc.O X k) X Y := only_w ho (fun k hk => ⟨by omega, fun h => hk.2 (((hZc X q3).2 k).2 (.inl h))⟩)
      refine ⟨q1, hJ2 _ _ _ q2 q3 ho2, hZk _ _ q3 ho2, ?_⟩
      exact (ho.block _ q4.lt (fun h => h.2 (((hZc X q3).2 (p + 1)).2 (.inr ⟨.inr rfl, by omega⟩)))).trans q4
    case hIx =>
      rintro cd s X Y ⟨q1, q3, q2⟩ ho
      have ho2 : Only (fun k => p + 1 ≤ k ∧ ¬ cc.O X k) X Y := only_w ho (fun k hk => ⟨by omega, fun h => hk.2 (((hZc X q3).2 k).2 (.inl h))⟩)
      refine ⟨q1, hZk _ _ q3 ho2, ?_⟩
      rcases q2 with ⟨q2, q4⟩ | q2
      · exact .inl ⟨hJ2 _ _ _ q2 q3 ho2, q4⟩
      · exact .inr ⟨hJx2 _ _ _ q2.1 q3 ho2, q2.2⟩
    case h0 => exact ⟨hn0, hJ1, hZ1, bL⟩
    case assign =>
      intro l x wx K hK
      clear hp hs1
      simp only [eS]
      simp only [List.setIfInBounds_toArray, List.set_cons_succ, List.set_cons_zero] at hK
      gi_wp2
      exact hK
    case body =>
      rintro l pre x X hl hlX hnl ⟨q1, q2, q3, q4⟩ hpre
      obtain ⟨r, hr⟩ : ∃ r, r = n - pre.length := ⟨_, rfl⟩
      rw [← hr] at q4
      have hr1 : 1 ≤ r := by omega
      have hr2 : r ≤ 4611686018427387904 := by omega
      have hO := (hZc X q3).2
      have q3' := q3
      rw [hZ] at q3'
      obtain ⟨z1, z2, z3, z4, z5, z6⟩ := q3'
      obtain ⟨X1, hX1⟩ : ∃ X1, X1 = X.setCell ⟨p + 1, 0, none⟩ (.int .i64 ((r : Int) - 1)) := ⟨_, rfl⟩
      have o1 : Only (fun k => k = p + 1) X X1 := by rw [hX1]; exact Only.setCell (p := fun k => k = p + 1) (q := ⟨p + 1, 0, none⟩) (Only.refl _ _) (.inl rfl) _
      have o1' : Only (fun k => p + 1 ≤ k ∧ ¬ cc.O X k) X X1 := only_w o1 (fun k hk => by subst hk; exact ⟨Nat.le_refl _, z6⟩)
      have j1 := hJ2 _ _ _ q2 q3 o1'
      have y1 := hZk _ _ q3 o1'
      have b1 : Boxed X1 (p + 1) 3 (.int .i64 ((r : Int) - 1)) := by rw [hX1]; exact q4.set _
      have y1' := y1
      rw [hZ] at y1'
      obtain ⟨a1, a2, a3, a4, a5, a6⟩ := y1'
      have e1 := cc.same z3 o1' (fun k hk => hk.2)
      have hsz1 := o1.size
      obtain ⟨fn, tmps, assign, body, hyy, hR⟩ := hY 9 pre x X1 j1 (List.prefix_take_iff.2 ⟨hpre, by rw [List.length_append, List.length_singleton]; omega⟩)
      simp only [eS] at hyy
      have HR : Hid (RoundIn (Fence.wide.inRound l) 6 Try.prog ly fn tmps assign body X1 fun e W' => ∃ b : Bool, e = .returned (.bool b) ∧ W'.cell? ⟨p + 1, 0, none⟩ = some (.int .i64 ((r : Int) - 1)) ∧ Hid (Z W' ∧ Boxed W' (p + 1) 3 (.int .i64 ((r : Int) - 1)) ∧ c2.kb X W' ∧ (b = true → J (pre ++ [x]) W') ∧ (b = false → Jx (pre ++ [x]) W'))) := by
        refine round_in (round_any 6 (hR.mono ?_))
        have aft : ∀ W', cc.kq ly X1 W' → cc.V W' ∧ ¬ cc.O W' ly → Z W' ∧ Boxed W' (p + 1) 3 (.int .i64 ((r : Int) - 1)) ∧ c2.kb X W' := fun W' h hv => by
          have nP : ∀ k, k < X1.heap.size → ¬ cc.O X1 k → ¬ cc.O W' k := fun k hk hn h' => by
            rcases h.2 k h' with h' | h'
            · exact hn h'
            · omega
          have hbq : Boxed W' (p + 1) 3 (.int .i64 ((r : Int) - 1)) := (h.1.block _ (by omega) (fun h' => by
            rcases h' with h' | h'
            · exact a6 h'
            · omega)).trans b1
          have hz : Z W' := by
            rw [hZ]
            refine ⟨by have := h.1.size; omega, (cell_only8 h.1 (q := ⟨p, 0, none⟩) (by show p < X1.heap.size; omega) (fun h' => ?_)).trans a2, hv.1, hv.2, nP _ (by omega) a5, nP _ (by omega) a6⟩
            rcases h' with h' | h'
            · exact a5 h'
            · exact absurd (show p = ly from h') (by omega)
          refine ⟨hz, hbq, ?_, fun k hk => ?_⟩
          · refine (only_w o1 (fun k hk => (hO k).2 (.inr ⟨.inr hk, by omega⟩))).trans (only_w h.1 (fun k hk => ?_))
            rcases hk with hk | rfl
            · exact (hO k).2 (.inl ((e1.2 k).1 hk))
            · exact (hO k).2 (.inr ⟨.inl rfl, by omega⟩)
          · rcases ((hZc W' hz).2 k).1 hk with hk | hk
            · rcases h.2 k hk with hk | hk
              · exact .inl ((hO k).2 (.inl ((e1.2 k).1 hk)))
              · exact .inr (by omega)
            · exact .inl ((hO k).2 (.inr hk))
        rintro e W' (⟨rfl, t1, t2⟩ | ⟨rfl, t1, t2⟩)
        · obtain ⟨u1, u2, u3⟩ := aft W' t2 (hJV _ _ t1)
          exact ⟨true, rfl, u2.cell, u1, u2, u3, fun _ => t1, fun h => by cases h⟩
        · obtain ⟨u1, u2, u3⟩ := aft W' t2 (hJxV _ _ t1)
          exact ⟨false, rfl, u2.cell, u1, u2, u3, fun h => (by cases h), fun _ => t1⟩
      have cL := q4.cell
      have fL := q4.frozen
      have HX1 := Lib.hid hX1
      have HR2 := Lib.hid hr
      rw [hX1] at hyy a2 HR
      clear hY hJ hJx hJV hJxV hJ2 hJx2 hZk hmv hcD hs hbw h0 hJ1 hvl hlt0 bY bL hZ1 hb1' ho1 hR q2 q3 hO o1 o1' j1 y1 b1 e1 hnl hpre hX1 hr z1 z2 z3 z4 z5 z6 a1 a3 a4 a5 a6 hb0 hb1 hl0 hl1 hD hlw hlW HOW hl hlX hsz1 hZc hZ hs1 hp
      simp only [List.setIfInBounds_toArray, List.set_cons_succ, List.set_cons_zero]
      gi_wp2_with fail
      refine HR.out.mono ?_
      rintro e1 W2 ⟨b, rfl, cR, hB⟩
      have HB := Lib.hid hB.out
      clear hB HR hyy
      cases b with
      | false =>
        clear cR
        gi_wp2
        exact ⟨HB.out.2.2.1, rfl, HB.out.1, .inr ⟨HB.out.2.2.2.2 (by trivial), by rw [List.length_append, List.length_singleton]; omega⟩⟩
      | true =>
        by_cases hz : r = 1
        case pos =>
          have hzI : (r : Int) - 1 = 0 := by omega
          gi_wp2
          refine ⟨HB.out.2.2.1, rfl, HB.out.1, .inl ⟨HB.out.2.2.2.1 (by trivial), ?_⟩⟩
          have := HR2.out
          rw [List.length_append, List.length_singleton]; omega
        case neg =>
          have hzI : ¬ (r : Int) - 1 = 0 := by omega
          gi_wp2
          refine ⟨HB.out.2.2.1, ?_, HB.out.2.2.2.1 (by trivial), HB.out.1, ?_⟩
          · have := HR2.out
            rw [List.length_append, List.length_singleton]; omega
          · have h1 := HB.out.2.1
            have := HR2.out
            rw [show (r : Int) - 1 = ((n - (pre ++ [x]).length : Nat) : Int) by rw [List.length_append, List.length_singleton]; omega] at h1
            exact h1
    case done =>
      rintro Dn X hDn ⟨q1, q2, q3, q4⟩ hK hnD
      have HE : Hid (J (L.take n) (X.putObj Dn (.deferred none))) := by
        show J _ _
        rw [List.take_of_length_le (by omega)]
        exact hJ2 _ _ _ q2 q3 (only_w (only_put X Dn _) (fun k hk => by subst hk; exact ⟨by omega, fun h => hnD (((hZc X q3).2 k).2 (.inl h))⟩))
      have HK := Lib.hid hK
      clear hY hJ hJx hJV hJxV hJ2 hJx2 hZk hmv hcD hs hbw h0 hJ1 hvl hlt0 bY bL hZ1 hb1' ho1 hZc hZ hs1 hp hb0 hb1 hl0 hl1 hD hlw hlW HOW hnD hK hDn q1 q2 q3 q4
      gi_wp2
      refine ⟨by simp, .inl ⟨_, _, rfl, run_takeDeferred HK.out, ?_⟩⟩
      exact ⟨_, results_none rfl _ _ _, ⟨_, rfl⟩, .inl HE.out⟩
    case stop =>
      rintro Dn cd pre X hDn hpre ⟨rfl, q3, q2⟩ hK hnD
      have HE : Hid (J (L.take n) (X.putObj Dn (.deferred none)) ∨ ∃ pre, pre <+: L.take n ∧ Jx pre (X.putObj Dn (.deferred none))) := by
        have ho := only_w (only_put X Dn (.deferred none)) (q := fun k => p + 1 ≤ k ∧ ¬ cc.O X k) (fun k hk => by subst hk; exact ⟨by omega, fun h => hnD (((hZc X q3).2 k).2 (.inl h))⟩)
        rcases q2 with ⟨q2, q4⟩ | q2
        · left
          obtain ⟨t, rfl⟩ := hpre
          rw [← q4, List.take_left]
          exact hJ2 _ _ _ q2 q3 ho
        · right
          exact ⟨pre, List.prefix_take_iff.2 ⟨hpre, q2.2⟩, hJx2 _ _ _ q2.1 q3 ho⟩
      have HK := Lib.hid hK
      clear hY hJ hJx hJV hJxV hJ2 hJx2 hZk hmv hcD hs hbw h0 hJ1 hvl hlt0 bY bL hZ1 hb1' ho1 hZc hZ hs1 hp hb0 hb1 hl0 hl1 hD hlw hlW HOW hnD hK hDn q2 q3 hpre
      gi_wp2
      refine ⟨by simp, .inl ⟨_, _, rfl, run_takeDeferred HK.out, ?_⟩⟩
      exact ⟨_, results_none rfl _ _ _, ⟨_, rfl⟩, HE.out⟩
    · intro X k hv hk
      subst hc2
      rcases hk with hk | ⟨rfl | rfl, hk⟩
      · exact hcD X k hv.1 hk
      · exact hD _ hlw
      · exact hD _ (by have := hbw.size; omega)

set_option maxHeartbeats 1000000 in
set_option maxRecDepth 100000 in
theorem wlk_take_string {g : Nat} {lb : Array Value} {N : Int} {L : List Tm.K} {D : Nat → Prop} {w : World} (hs : SeqX g lb eS L D w) (hen : ∀ args w, (callFunc g args).run Try.prog w = .ok (.enter g args) w) (hD : ∀ k, w.heap.size ≤ k → D k) (hN : N ≤ 4611686018427387904) :
    Calls Try.prog 54 #[.func (.func g) #[] lb, .int .i64 N] w fun e w' => ∃ g2 lb2, e = .returned (.func (.func g2) #[] lb2) ∧ Hid ((∀ args w, (callFunc g2 args).run Try.prog w = .ok (.enter g2 args) w) ∧ SeqX g2 lb2 eS (L.take N.toNat) D w') ∧ Below w.heap.size w w' := by
  have HS := Lib.hid hs; have HE := Lib.hid hen; have HD := Lib.hid hD
  clear hs hen hD
  go_enter Try.func54, Try.ntmps54
  go_wp2
  go_ret
  have hb : Below w.heap.size w ((w.alloc (.cells #[.func (.func g) #[] lb] 55)).alloc (.cells #[.int .i64 N] 3)) := (one_b8 _ _).alloc (by simp) _
  have b0 := ((Boxed.new w 55 (.func (.func g) #[] lb)).alloc (.cells #[.int .i64 N] 3)).cell
  have b1 := (Boxed.new (w.alloc (.cells #[.func (.func g) #[] lb] 55)) 3 (.int .i64 N)).cell
  rw [World.size_alloc] at b1
  refine ⟨_, _, rfl, ⟨enters_of Try.func64 (by kernel_rfl) rfl, ?_⟩, hb⟩
  exact wlk_take1_string (HS.out.below hb) HE.out (fun k hk => HD.out k (by simp at hk; omega)) b0 b1 (by simp; omega) (by simp) hN
end Go.Proofs.Ytdchapcpimhjaaa
