/- The reference of layer 1: its Get and GetText read as the document specifies; a nil Reader. -/
import Derived.Test.YtgpeombkdompdaaWireSeq
namespace Go.Proofs.Ytgpeombkdompdaa
open Go.RowKit

/-- at most eight bytes are beyond the greatest number exactly if they are eight and the first is above 127 -/
theorem val_big (t : List UInt8) (k : Nat) (hk : k ≤ 8) (ht : k ≤ t.length) : 9223372036854775807 < Wm.val (t.take k) ↔ (k = 8 ∧ 127 < (t.getD 0 0).toNat) := by
  by_cases h8 : k = 8
  · subst h8
    obtain ⟨x, t', rfl⟩ : ∃ x t', t = x :: t' := by
      cases t with
      | nil => simp at ht
      | cons x t' => exact ⟨x, t', rfl⟩
    have hl : (t'.take 7).length = 7 := by rw [List.length_take]; simp at ht; omega
    have h1 := Wm.val_lt (t'.take 7)
    rw [hl] at h1
    have h2 : Wm.val ((x :: t').take 8) = x.toNat * 256 ^ 7 + Wm.val (t'.take 7) := by
      rw [List.take_succ_cons, Wm.val_cons, hl]
    rw [h2]
    simp only [List.getD_cons_zero, true_and]
    have h3 : (256 : Nat) ^ 7 = 72057594037927936 := by decide
    rw [h3] at h1 ⊢
    omega
  · have h1 := Wm.val_lt (t.take k)
    have hl : (t.take k).length = k := by rw [List.length_take]; omega
    rw [hl] at h1
    have h3 : 256 ^ k ≤ 256 ^ 7 := Nat.pow_le_pow_right (by omega) (by omega)
    have h4 : (256 : Nat) ^ 7 = 72057594037927936 := by decide
    omega

theorem ref_get_nil (a : Option Addr) (c : Nat) (w : World) : Calls Try.prog 17 #[.slice a 0 c] w fun e w' => e = .returned (.tuple #[.int .i64 0, .int .i64 0]) ∧ w = w' := by
  go_enter Try.func17, Try.ntmps17
  go_wp2
  go_ret2
  exact ⟨rfl, rfl⟩

set_option maxHeartbeats 2000000 in
set_option maxRecDepth 100000 in
theorem ref_get_cons (g off cap : Nat) (h : UInt8) (t : List UInt8) (w : World) (hm : t.length + 1 ≤ 1000000000000)
    (hc0 : w.cell? ⟨g, off, none⟩ = some (.int .u8 h.toNat)) (hc : ∀ j, j < t.length → w.cell? ⟨g, off + 1 + j, none⟩ = some (.int .u8 (t.getD j 0).toNat)) :
    Calls Try.prog 17 #[.slice (some ⟨g, off, none⟩) (t.length + 1) cap] w fun e w' => e = .returned (.tuple #[.int .i64 (dv (h :: t)).1, .int .i64 ((dv (h :: t)).2 : Nat)]) ∧ w = w' := by
  obtain ⟨k, hk⟩ : ∃ k : Nat, h.toNat % 128 = k := ⟨_, rfl⟩
  have hk128 : k < 128 := by omega
  have hki : ((h.toNat : Int) % 128) = (k : Int) := by omega
  have HC := Lib.hid hc
  clear hc
  have hdv : Hid (dv (h :: t) = (Wm.decT h t).getD (0, 0)) := rfl
  unfold Wm.decT at hdv
  rw [hk] at hdv
  have HK := Lib.hid hk
  clear hk
  have q0 : ((t.length : Int) + 1 == 0) = false := by simp; omega
  by_cases hk8 : 8 < k
  · have e : Hid (dv (h :: t) = (0, 0)) := by have := hdv.out; rw [if_pos (.inl hk8)] at this; exact this
    have q1 : decide ((8 : Int) < (k : Int)) = true := by simp; omega
    clear hdv
    go_enter Try.func17, Try.ntmps17
    go_wp2
    go_ret2
    exact ⟨by rw [e.out]; rfl, rfl⟩
  have q1 : decide ((8 : Int) < (k : Int)) = false := by simp; omega
  by_cases hkt : t.length < k
  · have e : Hid (dv (h :: t) = (0, 0)) := by have := hdv.out; rw [if_pos (.inr hkt)] at this; exact this
    have q2 : decide ((t.length : Int) + 1 < 1 + (k : Int)) = true := by simp; omega
    clear hdv
    go_enter Try.func17, Try.ntmps17
    go_wp2
    go_ret2
    exact ⟨by rw [e.out]; rfl, rfl⟩
  have q2 : decide ((t.length : Int) + 1 < 1 + (k : Int)) = false := by simp; omega
  have e1 : Hid (dv (h :: t) = (if (0 < k ∧ t.head? = some 0) ∨ 9223372036854775807 < Wm.val (t.take k) then none
      else some (if 128 ≤ h.toNat then -1 - (Wm.val (t.take k) : Int) else (Wm.val (t.take k) : Int), 1 + k) : Option (Int × Nat)).getD (0, 0)) := by
    have := hdv.out; rw [if_neg (by omega)] at this; exact this
  clear hdv
  have b1 : k ≤ 8 := by omega
  have b2 : k ≤ t.length := by omega
  have hbig := val_big t k b1 b2
  have HBIG := Lib.hid hbig
  clear hk8 hkt hbig
  have hfin : ∀ n : Int, ∀ m : Nat, dv (h :: t) = (n, m) → (Ending.returned (.tuple #[.int .i64 n, .int .i64 (m : Int)]) = Ending.returned (.tuple #[.int .i64 (dv (h :: t)).1, .int .i64 ((dv (h :: t)).2 : Nat)])) := by
    intro n m e; rw [e]
  have HF := Lib.hid hfin
  clear hfin
  have hneg : (decide ((127 : Int) < (h.toNat : Int)) = true ∧ 128 ≤ h.toNat) ∨ (decide ((127 : Int) < (h.toNat : Int)) = false ∧ ¬ 128 ≤ h.toNat) := by
    by_cases hx : 128 ≤ h.toNat
    · left; exact ⟨by simp; omega, hx⟩
    · right; exact ⟨by simp; omega, hx⟩
  by_cases hk0 : k = 0
  · subst hk0
    have e2 : Hid (dv (h :: t) = (if 128 ≤ h.toNat then -1 else 0, 1)) := by
      have := e1.out
      simp [Wm.val] at this
      exact this
    clear e1 HBIG
    rcases hneg with ⟨hn, hn2⟩ | ⟨hn, hn2⟩
    · have e3 : Hid (dv (h :: t) = (-1, 1)) := by show _ = _; rw [e2.out, if_pos hn2]
      clear hn2
      go_enter Try.func17, Try.ntmps17
      go_wp2
      go_loop [5, 6] (fun a i => a = .int .i64 0 ∧ i = .int .i64 1) (fun _ _ => 0)
      case atStart => exact ⟨rfl, rfl⟩
      case round =>
        obtain ⟨rfl, rfl⟩ := hrel
        go_wp2
        go_ret2
        exact ⟨HF.out _ _ e3.out, rfl⟩
    · have e3 : Hid (dv (h :: t) = (0, 1)) := by show _ = _; rw [e2.out, if_neg hn2]
      clear hn2
      go_enter Try.func17, Try.ntmps17
      go_wp2
      go_loop [5, 6] (fun a i => a = .int .i64 0 ∧ i = .int .i64 1) (fun _ _ => 0)
      case atStart => exact ⟨rfl, rfl⟩
      case round =>
        obtain ⟨rfl, rfl⟩ := hrel
        go_wp2
        go_ret2
        exact ⟨HF.out _ _ e3.out, rfl⟩
  obtain ⟨x, hxh, hxd⟩ : ∃ x, t.head? = some x ∧ t.getD 0 0 = x := by
    cases t with
    | nil => simp at b2; omega
    | cons x t' => exact ⟨x, rfl, rfl⟩
  have HXH := Lib.hid hxh
  have hcx : w.cell? ⟨g, off + 1, none⟩ = some (.int .u8 x.toNat) := by rw [← hxd]; exact HC.out 0 (by omega)
  rw [hxd] at HBIG
  clear hxh hxd
  have q3 : decide ((0 : Int) < (k : Int)) = true := by simp; omega
  by_cases hx0 : x = 0
  · have e : Hid (dv (h :: t) = (0, 0)) := by
      have := e1.out
      rw [if_pos (.inl ⟨by omega, by rw [HXH.out, hx0]⟩)] at this
      exact this
    subst hx0
    have hx00 : ((0 : UInt8).toNat : Int) = 0 := rfl
    rw [hx00] at hcx
    clear hx00 hneg
    go_enter Try.func17, Try.ntmps17
    go_wp2
    go_ret2
    exact ⟨HF.out 0 0 e.out, rfl⟩
  have hxn : ((x.toNat : Int) == 0) = false := by
    have : x.toNat ≠ 0 := fun e => hx0 (by rw [← UInt8.toNat_inj]; exact e)
    simp; omega
  by_cases h8 : k = 8 ∧ 127 < x.toNat
  · have e : Hid (dv (h :: t) = (0, 0)) := by
      have := e1.out
      rw [if_pos (.inr (HBIG.out.2 h8))] at this
      exact this
    obtain ⟨h8a, h8b⟩ := h8
    subst h8a
    have q5 : decide ((127 : Int) < (x.toNat : Int)) = true := by simp; omega
    clear hneg
    go_enter Try.func17, Try.ntmps17
    go_wp2
    go_ret2
    exact ⟨HF.out 0 0 e.out, rfl⟩
  have hnn : ¬ ((0 < k ∧ t.head? = some 0) ∨ 9223372036854775807 < Wm.val (t.take k)) := by
    rintro (⟨_, hh⟩ | hh)
    · rw [HXH.out] at hh; simp at hh; exact hx0 hh
    · exact h8 (HBIG.out.1 hh)
  have hVm : Wm.val (t.take k) ≤ 9223372036854775807 := by omega
  have q68 : (((k : Int) == 8) = false) ∨ (((k : Int) == 8) = true ∧ decide ((127 : Int) < (x.toNat : Int)) = false) := by
    by_cases h : k = 8
    · right; exact ⟨by simp [h], by simp; omega⟩
    · left; simp; omega
  have HNN := Lib.hid hnn
  clear hnn HBIG h8 hx0
  rcases hneg with ⟨hn, hn2⟩ | ⟨hn, hn2⟩
  · have e : Hid (dv (h :: t) = (-1 - (Wm.val (t.take k) : Int), 1 + k)) := by
      have := e1.out
      rw [if_neg HNN.out, if_pos hn2] at this
      exact this
    clear e1 hn2
    rcases q68 with q6 | ⟨q6, q7⟩
    all_goals
      go_enter Try.func17, Try.ntmps17
      go_wp2
      go_loop [5, 6] (fun a i => ∃ j : Nat, j ≤ k ∧ i = .int .i64 ((j + 1 : Nat) : Int) ∧ a = .int .i64 ((Wm.val (t.take j) : Nat) : Int)) (fun _ i => k + 1 - (intOf i).toNat)
      case atStart => exact ⟨0, Nat.zero_le _, rfl, rfl⟩
      case round =>
        obtain ⟨j, hj, rfl, rfl⟩ := hrel
        by_cases hlt : j < k
        · have hcj : w.cell? ⟨g, off + (j + 1), none⟩ = some (.int .u8 (t.getD j 0).toNat) := by
            have := HC.out j (by omega)
            rw [show off + 1 + j = off + (j + 1) by omega] at this
            exact this
          have hsn : Wm.val (t.take (j + 1)) = Wm.val (t.take j) * 256 + (t.getD j 0).toNat := by
            rw [List.take_succ_eq_append_getElem (by omega), Wm.val_snoc]
            simp [List.getD, show j < t.length by omega]
          have hb3 : Wm.val (t.take (j + 1)) ≤ 9223372036854775807 := by
            by_cases hjk : j + 1 = k
            · rw [hjk]; exact hVm
            · have h1 := Wm.val_lt (t.take (j + 1))
              have h2 : (t.take (j + 1)).length ≤ 7 := by rw [List.length_take]; omega
              have h3 : 256 ^ (t.take (j + 1)).length ≤ 256 ^ 7 := Nat.pow_le_pow_right (by omega) h2
              have h4 : (256 : Nat) ^ 7 = 72057594037927936 := by decide
              omega
          have hxl := (t.getD j 0).toNat_lt
          rw [hsn] at hb3
          have HSN := Lib.hid hsn
          clear hsn
          generalize (t.getD j 0) = y at *
          generalize Wm.val (t.take j) = vv at *
          go_wp2
          go_round
          case rel => exact ⟨j + 1, by omega, by go_num, by rw [HSN.out]; go_num⟩
          case measure => simp [intOf]; omega
        · obtain rfl : j = k := by omega
          clear hlt hj
          generalize Wm.val (t.take j) = V at *
          go_wp2
          go_ret2
          exact ⟨HF.out _ _ e.out, rfl⟩
  · have e : Hid (dv (h :: t) = ((Wm.val (t.take k) : Int), 1 + k)) := by
      have := e1.out
      rw [if_neg HNN.out, if_neg hn2] at this
      exact this
    clear e1 hn2
    rcases q68 with q6 | ⟨q6, q7⟩
    all_goals
      go_enter Try.func17, Try.ntmps17
      go_wp2
      go_loop [5, 6] (fun a i => ∃ j : Nat, j ≤ k ∧ i = .int .i64 ((j + 1 : Nat) : Int) ∧ a = .int .i64 ((Wm.val (t.take j) : Nat) : Int)) (fun _ i => k + 1 - (intOf i).toNat)
      case atStart => exact ⟨0, Nat.zero_le _, rfl, rfl⟩
      case round =>
        obtain ⟨j, hj, rfl, rfl⟩ := hrel
        by_cases hlt : j < k
        · have hcj : w.cell? ⟨g, off + (j + 1), none⟩ = some (.int .u8 (t.getD j 0).toNat) := by
            have := HC.out j (by omega)
            rw [show off + 1 + j = off + (j + 1) by omega] at this
            exact this
          have hsn : Wm.val (t.take (j + 1)) = Wm.val (t.take j) * 256 + (t.getD j 0).toNat := by
            rw [List.take_succ_eq_append_getElem (by omega), Wm.val_snoc]
            simp [List.getD, show j < t.length by omega]
          have hb3 : Wm.val (t.take (j + 1)) ≤ 9223372036854775807 := by
            by_cases hjk : j + 1 = k
            · rw [hjk]; exact hVm
            · have h1 := Wm.val_lt (t.take (j + 1))
              have h2 : (t.take (j + 1)).length ≤ 7 := by rw [List.length_take]; omega
              have h3 : 256 ^ (t.take (j + 1)).length ≤ 256 ^ 7 := Nat.pow_le_pow_right (by omega) h2
              have h4 : (256 : Nat) ^ 7 = 72057594037927936 := by decide
              omega
          have hxl := (t.getD j 0).toNat_lt
          rw [hsn] at hb3
          have HSN := Lib.hid hsn
          clear hsn
          generalize (t.getD j 0) = y at *
          generalize Wm.val (t.take j) = vv at *
          go_wp2
          go_round
          case rel => exact ⟨j + 1, by omega, by go_num, by rw [HSN.out]; go_num⟩
          case measure => simp [intOf]; omega
        · obtain rfl : j = k := by omega
          clear hlt hj
          generalize Wm.val (t.take j) = V at *
          go_wp2
          go_ret2
          exact ⟨HF.out _ _ e.out, rfl⟩

theorem ref_get (v : Value) (l : List UInt8) (w : World) (h : BytC v l w) (hl : l.length ≤ 1000000000000) :
    Calls Try.prog 17 #[v] w fun e w' => e = .returned (.tuple #[.int .i64 (dv l).1, .int .i64 ((dv l).2 : Nat)]) ∧ w = w' := by
  rcases h with ⟨a, c, rfl, rfl⟩ | ⟨g, off, cap, rfl, hc, hg, hcell⟩
  · exact ref_get_nil a c w
  · cases l with
    | nil => exact ref_get_nil _ _ w
    | cons x t' =>
      refine ref_get_cons g off cap x t' w hl (hcell 0 (by simp)) ?_
      intro j hj
      have := hcell (j + 1) (by simpa using hj)
      rw [show off + 1 + j = off + (j + 1) by omega, this]
      simp

/-- what GetText answers -/
def gtx (l : List UInt8) : List UInt8 × Nat :=
  if (dv l).2 = 0 ∨ (dv l).1 < 0 ∨ (l.length : Int) - ((dv l).2 : Nat) < (dv l).1 then ([], 0)
  else ((l.drop (dv l).2).take (dv l).1.toNat, (dv l).2 + (dv l).1.toNat)

theorem dv_none {l : List UInt8} (h : Wm.dec l = none) : dv l = (0, 0) := by unfold dv; rw [h]; rfl
theorem dv_some {l : List UInt8} {n : Int} {k : Nat} (h : Wm.dec l = some (n, k)) : dv l = (n, k) := by unfold dv; rw [h]; rfl
theorem gtx_rtext (l : List UInt8) : ((gtx l).2 = 0 ∧ (gtx l).1 = [] ∧ rtext (some l) = ([], none)) ∨ (0 < (gtx l).2 ∧ (gtx l).2 ≤ l.length ∧ rtext (some l) = ((gtx l).1, some (l.drop (gtx l).2))) := by
  rcases hd : Wm.dec l with _ | ⟨n, k⟩
  · left
    have e := dv_none hd
    refine ⟨by simp [gtx, e], by simp [gtx, e], ?_⟩
    simp [rtext, btw, hd, rt2]
  · obtain ⟨hin, hk1, hk9, hkl⟩ := Wm.dec_some hd
    have e := dv_some hd
    unfold Wm.inR at hin
    by_cases hb : n < 0 ∨ (l.length : Int) - (k : Nat) < n
    · left
      have hg : gtx l = ([], 0) := by unfold gtx; rw [e]; rw [if_pos (.inr hb)]
      refine ⟨by rw [hg], by rw [hg], ?_⟩
      by_cases hn : n < 0
      · simp [rtext, btw, hd, rt2, hn]
      · have hbt : btw 0 9223372036854775807 (some l) = (n, some (l.drop k)) := by simp only [btw, hd]; rw [if_neg (by omega)]
        unfold rtext; rw [hbt]; simp only [rt2]; rw [if_pos (by rw [List.length_drop]; omega)]
    · right
      have hg : gtx l = ((l.drop k).take n.toNat, k + n.toNat) := by unfold gtx; rw [e]; rw [if_neg (by simp only; omega)]
      rw [hg]
      refine ⟨by simp only; omega, by simp only; omega, ?_⟩
      have hbt : btw 0 9223372036854775807 (some l) = (n, some (l.drop k)) := by simp only [btw, hd]; rw [if_neg (by omega)]
      unfold rtext; rw [hbt]; simp only [rt2]; rw [if_neg (by rw [List.length_drop]; omega)]
      rw [List.drop_drop]

set_option maxHeartbeats 1000000 in
theorem ref_gettext (v : Value) (l : List UInt8) (w : World) (h : BytC v l w) (hl : l.length ≤ 1000000000) :
    Calls Try.prog 19 #[v] w fun e w' => e = .returned (.tuple #[.string (bstr (gtx l).1), .int .i64 ((gtx l).2 : Nat)]) ∧ w = w' := by
  have hfin : ∀ (a : List UInt8) (m : Nat), gtx l = (a, m) → (Ending.returned (.tuple #[.string (bstr a), .int .i64 (m : Int)]) = Ending.returned (.tuple #[.string (bstr (gtx l).1), .int .i64 ((gtx l).2 : Nat)])) := by
    intro n m e; rw [e]
  have HF := Lib.hid hfin
  clear hfin
  have hgx : gtx l = if (dv l).2 = 0 ∨ (dv l).1 < 0 ∨ (l.length : Int) - ((dv l).2 : Nat) < (dv l).1 then ([], 0) else ((l.drop (dv l).2).take (dv l).1.toNat, (dv l).2 + (dv l).1.toNat) := rfl
  have hbd : (dv l).2 ≤ l.length ∧ (dv l).2 ≤ 9 ∧ (dv l).1 ≤ 9223372036854775807 := by
    rcases hd : Wm.dec l with _ | ⟨n, k⟩
    · rw [dv_none hd]; exact ⟨Nat.zero_le _, by simp, by simp⟩
    · obtain ⟨hin, hk1, hk9, hkl⟩ := Wm.dec_some hd
      rw [dv_some hd]; unfold Wm.inR at hin; exact ⟨hkl, hk9, hin.2⟩
  obtain ⟨va, vc, rfl⟩ := h.form
  have H := Lib.hid h
  have hget := ref_get _ l w h (by omega)
  have HGET := Lib.hid hget
  clear h hget
  generalize dv l = d at *
  obtain ⟨n, k⟩ := d
  simp only at *
  by_cases hb : k = 0 ∨ n < 0 ∨ (l.length : Int) - (k : Nat) < n
  · have e : Hid (gtx l = ([], 0)) := by show _ = _; rw [hgx, if_pos hb]
    have hlit : (⟨#[]⟩ : ByteArray) = bstr [] := rfl
    have hd : (((k : Int) == 0) = true) ∨ (((k : Int) == 0) = false ∧ decide (n < 0) = true) ∨ (((k : Int) == 0) = false ∧ decide (n < 0) = false ∧ decide ((l.length : Int) - (k : Int) < n) = true) := by
      by_cases h1 : k = 0
      · left; simp [h1]
      · right
        by_cases h2 : n < 0
        · left; exact ⟨by simp; omega, by simpa using h2⟩
        · right; exact ⟨by simp; omega, by simpa using h2, by simp; omega⟩
    clear hgx hb
    rcases hd with h1 | ⟨h1, h2⟩ | ⟨h1, h2, h3⟩
    all_goals
      go_enter Try.func19, Try.ntmps19
      go_wp2_with fail
      refine HGET.out.mono ?_
      rintro e' w1 ⟨rfl, rfl⟩
      go_wp2
      go_ret2
      exact ⟨HF.out [] 0 e.out, rfl⟩
  · have e : Hid (gtx l = ((l.drop k).take n.toNat, k + n.toNat)) := by show _ = _; rw [hgx, if_neg hb]
    have h1 : ((k : Int) == 0) = false := by simp; omega
    have h2 : decide (n < 0) = false := by simp; omega
    have h3 : decide ((l.length : Int) - (k : Int) < n) = false := by simp; omega
    obtain ⟨m, rfl⟩ : ∃ m : Nat, n = (m : Int) := ⟨n.toNat, by omega⟩
    obtain ⟨a, c, b2, d2, hsv, hbyt, hrun⟩ := H.out.mid k m (by omega)
    simp only [Value.slice.injEq, true_and] at hsv
    obtain ⟨rfl, rfl⟩ := hsv
    have hstr := hbyt.str
    have hm9 : m ≤ 1000000000 := by omega
    have hks : (k : Int) + (m : Int) = ((k + m : Nat) : Int) := by omega
    rw [← hks] at hrun
    simp only [Int.toNat_natCast] at e
    clear hgx hb hbyt hks
    go_enter Try.func19, Try.ntmps19
    go_wp2_with fail
    refine HGET.out.mono ?_
    rintro e' w1 ⟨rfl, rfl⟩
    go_wp2
    go_ret2
    exact ⟨by have := HF.out _ _ e.out; simpa using this, rfl⟩

/-! ### A nil Reader -/
theorem between_rnil (lo hi : Int) (w : World) : Calls Try.prog 28 #[.pointer none, .int .i64 lo, .int .i64 hi] w fun e w' => e = .returned (.int .i64 0) ∧ w = w' := by
  go_enter Try.func28, Try.ntmps28
  go_wp2_with fail
  refine (ok_nil _).mono ?_
  rintro e w1 ⟨rfl, rfl⟩
  go_wp2
  go_ret
  exact ⟨rfl, rfl⟩
theorem number_rnil (w : World) : Calls Try.prog 22 #[.pointer none] w fun e w' => e = .returned (.int .i64 0) ∧ w = w' := by
  go_enter Try.func22, Try.ntmps22
  go_wp2_with fail
  refine (between_rnil _ _ _).mono ?_
  rintro e w1 ⟨rfl, rfl⟩
  go_wp2
  go_ret
  exact ⟨rfl, rfl⟩
theorem count_rnil (m : Int) (w : World) : Calls Try.prog 18 #[.pointer none, .int .i64 m] w fun e w' => e = .returned (.int .i64 0) ∧ w = w' := by
  go_enter Try.func18, Try.ntmps18
  go_wp2_with fail
  refine (between_rnil _ _ _).mono ?_
  rintro e w1 ⟨rfl, rfl⟩
  go_wp2
  go_ret
  exact ⟨rfl, rfl⟩
theorem flag_rnil (w : World) : Calls Try.prog 21 #[.pointer none] w fun e w' => e = .returned (.bool false) ∧ w = w' := by
  go_enter Try.func21, Try.ntmps21
  go_wp2_with fail
  refine (count_rnil _ _).mono ?_
  rintro e w1 ⟨rfl, rfl⟩
  go_wp2
  go_ret
  exact ⟨rfl, rfl⟩
theorem text_rnil (w : World) : Calls Try.prog 20 #[.pointer none] w fun e w' => e = .returned (.string ⟨#[]⟩) ∧ w = w' := by
  go_enter Try.func20, Try.ntmps20
  go_wp2_with fail
  refine (count_rnil _ _).mono ?_
  rintro e w1 ⟨rfl, rfl⟩
  go_wp2_with fail
  refine (left_nil _).mono ?_
  rintro e w1 ⟨rfl, rfl⟩
  go_wp2_with fail
  refine (ok_nil _).mono ?_
  rintro e w1 ⟨rfl, rfl⟩
  go_wp2
  go_ret
  exact ⟨rfl, rfl⟩

end Go.Proofs.Ytgpeombkdompdaa
