/- Layer 9: the reference's Ints and Texts. -/
import Derived.Test.YtdchapcpimhjaaaTreE6
import Derived.Test.YtdchapcpimhjaaaWlkUa
namespace Go.Proofs.Ytdchapcpimhjaaa
open Go.RowKit

attribute [local go_sem] Oper.semAt_some

/-- the answer to 'are they alike?' -/
def Sm9 {α : Type} (l l2 : List α) (v : Value) : Prop := (∃ b : Bool, v = .bool b) ∧ (l = l2 → v = .bool true)

set_option maxHeartbeats 1000000 in
set_option maxRecDepth 100000 in
theorem ref9_Ints {ex ex2 : Nat → Prop} {l l2 : List Int} {a a2 : Option Addr} {n c n2 c2 : Nat} {W : World} (h : Rv ex a n c (iv l) W) (h2 : Rv ex2 a2 n2 c2 (iv l2) W) (hn : n ≤ 100000) (hn2 : n2 ≤ 100000) :
    Calls Try.prog 22 #[.slice a n c, .slice a2 n2 c2] W fun e w' => ∃ v : Value, e = .returned v ∧ Sm9 l l2 v ∧ Below W.heap.size W w' := by
  have hnl : n = l.length := by have := h.ln; simpa [iv] using this
  have hnl2 : n2 = l2.length := by have := h2.ln; simpa [iv] using this
  by_cases he : n = n2
  · subst he
    have HJ : Hid (∀ j, j < n → ∃ (g off g2 off2 : Nat) (x x2 : Int), a = some ⟨g, off, none⟩ ∧ a2 = some ⟨g2, off2, none⟩ ∧ (n ≤ c ∧ n ≤ c2) ∧ (g < W.heap.size ∧ g2 < W.heap.size) ∧ W.cell? ⟨g, off + j, none⟩ = some (.int .i64 x) ∧ W.cell? ⟨g2, off2 + j, none⟩ = some (.int .i64 x2) ∧ Hid (l = l2 → x = x2)) := fun j hj => by
      obtain ⟨g, off, e, hc, hg, c1⟩ := h.at (by omega)
      obtain ⟨g2, off2, e2, hc2, hg2, d1⟩ := h2.at (by omega)
      have q1 := c1 j hj
      have q2 := d1 j hj
      rw [iv_get l (by omega)] at q1
      rw [iv_get l2 (by omega)] at q2
      exact ⟨g, off, g2, off2, _, _, e, e2, ⟨hc, hc2⟩, ⟨hg, hg2⟩, q1, q2, fun e => by subst e; rfl⟩
    clear h h2 hnl hnl2
    go_enter Try.func22, Try.ntmps22
    go_wp2
    go_loopw [13] (fun iv wr => ∃ j : Nat, j ≤ n ∧ iv = .int .i64 (j : Int) ∧ Hid (Below W.heap.size W wr)) (fun iv _ => n - (ixOf iv).toNat)
    case atStart => exact ⟨0, Nat.zero_le _, rfl, Below.refl _ _⟩
    case round =>
      obtain ⟨j, hj, rfl, HB⟩ := hrel
      by_cases hlt : j < n
      · obtain ⟨g, off, g2, off2, x, x2, rfl, rfl, ⟨hc1, hc2⟩, ⟨hg, hg2⟩, c0, d0, HX⟩ := HJ.out j hlt
        have hjI : (j : Int) < (n : Int) := by omega
        have u0 := (HB.out.cell (p := ⟨g, off + j, none⟩) hg).trans c0
        have u2 := (HB.out.cell (p := ⟨g2, off2 + j, none⟩) hg2).trans d0
        have HBD : Hid (Below W.heap.size W wr.drew) := HB.out.trans ((below_dr8 _).mono HB.out.size)
        clear HJ c0 d0
        by_cases hx : x = x2
        · clear HX
          go_upto_region 6 with (fail)
          go_region
          all_goals
            go_wp2_with fail
            go_roundw
          all_goals first
            | exact ⟨j + 1, by omega, by go_num, HBD⟩
            | (simp [ixOf]; omega)
        · have HN : Hid (l = l2 → False) := fun e => hx (HX.out e)
          skip
          clear HX
          go_upto_region 6 with (fail)
          go_region
          all_goals
            go_wp2
            go_ret
            exact ⟨.bool false, rfl, ⟨⟨_, rfl⟩, fun e => (HN.out e).elim⟩, HBD.out⟩
      · have hjI : ¬ (j : Int) < (n : Int) := by omega
        go_wp2
        go_ret
        exact ⟨.bool true, rfl, ⟨⟨_, rfl⟩, fun _ => rfl⟩, HB.out⟩
  · have heI : ¬ (n : Int) = (n2 : Int) := by omega
    have HN : Hid (l = l2 → False) := fun e => he (by rw [hnl, hnl2, e])
    clear h h2 hnl hnl2
    go_enter Try.func22, Try.ntmps22
    go_wp2
    go_ret
    exact ⟨.bool false, rfl, ⟨⟨_, rfl⟩, fun e => (HN.out e).elim⟩, Below.refl _ _⟩

set_option maxHeartbeats 1000000 in
set_option maxRecDepth 100000 in
theorem ref9_Texts {ex ex2 : Nat → Prop} {l l2 : List Tm.K} {a a2 : Option Addr} {n c n2 c2 : Nat} {W : World} (h : Rv ex a n c (sk l) W) (h2 : Rv ex2 a2 n2 c2 (sk l2) W) (hn : n ≤ 100000) (hn2 : n2 ≤ 100000) :
    Calls Try.prog 30 #[.slice a n c, .slice a2 n2 c2] W fun e w' => ∃ v : Value, e = .returned v ∧ Sm9 l l2 v ∧ Below W.heap.size W w' := by
  have hnl : n = l.length := by have := h.ln; simpa [sk] using this
  have hnl2 : n2 = l2.length := by have := h2.ln; simpa [sk] using this
  by_cases he : n = n2
  · subst he
    have HJ : Hid (∀ j, j < n → ∃ (g off g2 off2 : Nat) (x x2 : ByteArray), a = some ⟨g, off, none⟩ ∧ a2 = some ⟨g2, off2, none⟩ ∧ (n ≤ c ∧ n ≤ c2) ∧ (g < W.heap.size ∧ g2 < W.heap.size) ∧ W.cell? ⟨g, off + j, none⟩ = some (.string x) ∧ W.cell? ⟨g2, off2 + j, none⟩ = some (.string x2) ∧ Hid (l = l2 → x = x2)) := fun j hj => by
      obtain ⟨g, off, e, hc, hg, c1⟩ := h.at (by omega)
      obtain ⟨g2, off2, e2, hc2, hg2, d1⟩ := h2.at (by omega)
      have q1 := c1 j hj
      have q2 := d1 j hj
      rw [sk_get l (by omega)] at q1
      rw [sk_get l2 (by omega)] at q2
      exact ⟨g, off, g2, off2, _, _, e, e2, ⟨hc, hc2⟩, ⟨hg, hg2⟩, q1, q2, fun e => by subst e; rfl⟩
    clear h h2 hnl hnl2
    go_enter Try.func30, Try.ntmps30
    go_wp2
    go_loopw [13] (fun iv wr => ∃ j : Nat, j ≤ n ∧ iv = .int .i64 (j : Int) ∧ Hid (Below W.heap.size W wr)) (fun iv _ => n - (ixOf iv).toNat)
    case atStart => exact ⟨0, Nat.zero_le _, rfl, Below.refl _ _⟩
    case round =>
      obtain ⟨j, hj, rfl, HB⟩ := hrel
      by_cases hlt : j < n
      · obtain ⟨g, off, g2, off2, x, x2, rfl, rfl, ⟨hc1, hc2⟩, ⟨hg, hg2⟩, c0, d0, HX⟩ := HJ.out j hlt
        have hjI : (j : Int) < (n : Int) := by omega
        have u0 := (HB.out.cell (p := ⟨g, off + j, none⟩) hg).trans c0
        have u2 := (HB.out.cell (p := ⟨g2, off2 + j, none⟩) hg2).trans d0
        have HBD : Hid (Below W.heap.size W wr.drew) := HB.out.trans ((below_dr8 _).mono HB.out.size)
        clear HJ c0 d0
        by_cases hx : x.toList = x2.toList
        · clear HX
          go_upto_region 6 with (fail)
          go_region
          all_goals
            go_wp2_with fail
            go_roundw
          all_goals first
            | exact ⟨j + 1, by omega, by go_num, HBD⟩
            | (simp [ixOf]; omega)
        · have HN : Hid (l = l2 → False) := fun e => hx (by rw [HX.out e])
          have hxb : (x.toList == x2.toList) = false := by simp [hx]
          clear HX
          go_upto_region 6 with (fail)
          go_region
          all_goals
            go_wp2
            go_ret
            exact ⟨.bool false, rfl, ⟨⟨_, rfl⟩, fun e => (HN.out e).elim⟩, HBD.out⟩
      · have hjI : ¬ (j : Int) < (n : Int) := by omega
        go_wp2
        go_ret
        exact ⟨.bool true, rfl, ⟨⟨_, rfl⟩, fun _ => rfl⟩, HB.out⟩
  · have heI : ¬ (n : Int) = (n2 : Int) := by omega
    have HN : Hid (l = l2 → False) := fun e => he (by rw [hnl, hnl2, e])
    clear h h2 hnl hnl2
    go_enter Try.func30, Try.ntmps30
    go_wp2
    go_ret
    exact ⟨.bool false, rfl, ⟨⟨_, rfl⟩, fun e => (HN.out e).elim⟩, Below.refl _ _⟩
end Go.Proofs.Ytdchapcpimhjaaa
/- Layer 9: what must be answered ahead of everything else. -/
namespace Go.Proofs.Ytdchapcpimhjaaa
open Go.RowKit Go.Shelf

attribute [local go_sem] Oper.semAt_some

theorem rv_lit9 {W : World} {E : TypeId} {cs : List Value} {n : Nat} (hn : n = cs.length) : Rv (fun _ => False) (some ⟨W.heap.size, 0, none⟩) n n cs (W.alloc (.cells cs.toArray E)) := by
  refine ⟨hn, fun _ => ⟨W.heap.size, 0, rfl, Nat.le_refl _, by simp, fun h => h, fun j hj => ?_⟩⟩
  rw [Lib.cell_of_heap (heap_alloc_new W _), Nat.zero_add]
  simp [List.getD, List.getElem?_eq_getElem (show j < cs.length by omega)]
set_option maxHeartbeats 4000000 in
set_option maxRecDepth 100000 in
theorem first9_true {W : World} : Calls Try.prog 6 #[] W fun e w' => e = .returned (.bool true) ∧ Below W.heap.size W w' := by
  have T1 := Lib.hid True.intro
  have HR1 : Hid (∀ w : World, Rv (fun _ => False) (some ⟨w.heap.size, 0, none⟩) 4 4 (iv [1, 2, 3, 4]) (w.alloc (.cells #[.int .i64 1, .int .i64 2, .int .i64 3, .int .i64 4] 3))) := fun w => rv_lit9 rfl
  have HR2 : Hid (∀ w : World, Rv (fun _ => False) (some ⟨w.heap.size, 0, none⟩) 2 2 (sk [[97], [98]]) (w.alloc (.cells #[.string ⟨#[97]⟩, .string ⟨#[98]⟩] 9))) := fun w => rv_lit9 rfl
  have HR3 : Hid (∀ w : World, Rv (fun _ => False) (some ⟨w.heap.size, 0, none⟩) 2 2 (iv [2, 3]) (w.alloc (.cells #[.int .i64 2, .int .i64 3] 3))) := fun w => rv_lit9 rfl
  have HR4 : Hid (∀ w : World, Rv (fun _ => False) (some ⟨w.heap.size, 0, none⟩) 2 2 (iv [1, 2]) (w.alloc (.cells #[.int .i64 1, .int .i64 2] 3))) := fun w => rv_lit9 rfl
  have hls : lastS [[97]] = ⟨#[97]⟩ := rfl
  go_enter Try.func6, Try.ntmps6
  go_wp2_with (first
    | (go_at_call 26; clear T1; refine (wlk_of_int (HR1.out _) (by decide) (fun _ _ h => h)).mono ?_; rintro e w1 ⟨g1, lb1, rfl, HS1, hb1⟩; replace hb1 := (one_b8 W _).trans (hb1.mono (by simp)))
    | (go_at_call 31; refine (wlk_skip_int HS1.out.2 HS1.out.1 (fun k hk => hk) (by decide) (by decide)).mono ?_; rintro e w2 ⟨g2, lb2, rfl, HS2, hb2⟩; have hz2 := hb2.size; replace hb1 := hb1.trans (hb2.mono hb1.size))
    | (go_at_call 21; refine (wlk_take_int HS2.out.2 HS2.out.1 (fun k hk => Nat.le_trans hz2 hk) (by decide)).mono ?_; rintro e w3 ⟨g3, lb3, rfl, HS3, hb3⟩; have hz3 := hb3.size; replace hb1 := hb1.trans (hb3.mono hb1.size))
    | (go_at_call 20; refine (wlk_list_int (n := 9) HS3.out.2 HS3.out.1 (fun k hk => Nat.le_trans (Nat.le_trans hz2 hz3) hk) (by decide)).mono ?_; rintro e w4 ⟨a4, m4, c4, b4, rfl, HS4, hb4⟩; replace hb1 := hb1.trans (hb4.mono hb1.size); obtain ⟨e4, hr4⟩ := HS4.out; have e4' : b4 = true := e4; subst e4'; have HV4 : Hid (Rv (fun k => k < w3.heap.size ∨ w4.heap.size ≤ k) a4 m4 c4 (iv [2, 3]) w4) := hr4; clear e4 hr4 HS4 HS1 HS2 HS3 hz2 hz3 hb2 hb3 hb4)
    | (go_at_call 33; refine (wlk_of_string (HR2.out _) (by decide) (fun _ _ h => h)).mono ?_; rintro e w5 ⟨g5, lb5, rfl, HS5, hb5⟩; replace hb5 := (one_b8 w4 _).trans (hb5.mono (by simp)); have HV5 := Lib.hid (HV4.out.below hb5); replace hb1 := hb1.trans (hb5.mono hb1.size); clear HV4 hb5)
    | (go_at_call 32; refine (wlk_first_string HS5.out.2 HS5.out.1 (fun k hk => hk)).mono ?_; rintro e w6 ⟨rfl, hb6⟩; have HV6 := Lib.hid (HV5.out.below hb6); replace hb1 := hb1.trans (hb6.mono hb1.size); clear HV5 hb6)
    | (go_at_call 22; refine (ref9_Ints (HV6.out.below (one_b8 w6 _)) (HR3.out w6) (by rw [HV6.out.ln]; decide) (by decide)).mono ?_; rintro e w7 ⟨v7, rfl, hv7, hb7⟩; have hv7' : v7 = .bool true := hv7.2 rfl; subst hv7'; replace hb7 := (one_b8 w6 _).trans (hb7.mono (by simp)); replace hb1 := hb1.trans (hb7.mono hb1.size); clear HV6 hb7 hv7)
    | (go_at_call 26; refine (wlk_of_int (HR4.out _) (by decide) (fun _ _ h => h)).mono ?_; rintro e w8 ⟨g8, lb8, rfl, HS8, hb8⟩; replace hb8 := (one_b8 w7 _).trans (hb8.mono (by simp)); replace hb1 := hb1.trans (hb8.mono hb1.size); clear hb8)
    | (go_at_call 25; refine (wlk_count_int HS8.out.2 HS8.out.1 (fun k hk => hk) (by decide)).mono ?_; rintro e w9 ⟨rfl, hb9⟩; replace hb1 := hb1.trans (hb9.mono hb1.size); clear hb9))
  go_ret
  exact ⟨rfl, hb1⟩
end Go.Proofs.Ytdchapcpimhjaaa
