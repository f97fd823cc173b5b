/- decode reads the number at the beginning of bytes. -/
import Derived.Test.YtgpeombkdompdaaWireR1
import Derived.Outline
namespace Go.Proofs.Ytgpeombkdompdaa
open Go.RowKit

/-- what decode answers -/
def dv (l : List UInt8) : Int × Nat := (Wm.dec l).getD (0, 0)

theorem andNot128 (h : UInt8) : bits .andNot .u8 (h.toNat : Int) 128 = ((h.toNat % 128 : Nat) : Int) := by
  have : ∀ k : Fin 256, bits .andNot .u8 ((k.val : Nat) : Int) 128 = ((k.val % 128 : Nat) : Int) := by decide +kernel
  exact this ⟨h.toNat, h.toNat_lt⟩
theorem and128 (h : UInt8) : (bits .and .u8 (h.toNat : Int) 128 != 0) = decide (128 ≤ h.toNat) := by
  have : ∀ k : Fin 256, (bits .and .u8 ((k.val : Nat) : Int) 128 != 0) = decide (128 ≤ k.val) := by decide +kernel
  exact this ⟨h.toNat, h.toNat_lt⟩
theorem or_low (v : Nat) (c : UInt8) (hv : v < 72057594037927936) : bits .or .u64 ((v : Int) * 256) (c.toNat : Int) = ((v * 256 + c.toNat : Nat) : Int) := by
  have hc := c.toNat_lt
  have e : ((v : Int) * 256) = ((v * 256 : Nat) : Int) := by omega
  have h1 : (BitVec.ofInt 64 ((v * 256 : Nat) : Int)).toNat = v * 256 := by
    rw [BitVec.ofInt_natCast, BitVec.toNat_ofNat]; exact Nat.mod_eq_of_lt (by omega)
  have h2 : (BitVec.ofInt 64 (c.toNat : Int)).toNat = c.toNat := by
    rw [BitVec.ofInt_natCast, BitVec.toNat_ofNat]; exact Nat.mod_eq_of_lt (by omega)
  rw [e]
  show IntKind.u64.wrap ((BitVec.ofInt 64 ((v * 256 : Nat) : Int) ||| BitVec.ofInt 64 (c.toNat : Int)).toNat : Int) = _
  rw [BitVec.toNat_or, h1, h2, IntKind.wrap_u64]
  have h3 : v * 256 ||| c.toNat = v * 256 + c.toNat := by
    have := Nat.two_pow_add_eq_or_of_lt (i := 8) (b := c.toNat) (by omega) v
    rw [Nat.mul_comm v 256]
    exact this.symm
  rw [h3]
  omega

set_option maxHeartbeats 1000000 in
set_option maxRecDepth 100000 in
theorem decode_nil (a : Option Addr) (c : Nat) (w : World) :
    Calls Try.prog 30 #[.slice a 0 c] w fun e w' => e = .returned (.tuple #[.int .i64 0, .int .i64 0]) ∧ w = w' := by
  go_enter Try.func30, Try.ntmps30
  go_wp2
  go_ret2
  exact ⟨rfl, rfl⟩

set_option maxHeartbeats 1000000 in
set_option maxRecDepth 100000 in
theorem decode_cons (g off cap : Nat) (h : UInt8) (t : List UInt8) (w : World) (hcap : t.length + 1 ≤ cap) (hm : t.length + 1 ≤ 1000000000000)
    (hc0 : w.cell? ⟨g, off, none⟩ = some (.int .u8 h.toNat)) (hc : ∀ j, j < t.length → w.cell? ⟨g, off + 1 + j, none⟩ = some (.int .u8 (t.getD j 0).toNat)) :
    Calls Try.prog 30 #[.slice (some ⟨g, off, none⟩) (t.length + 1) cap] w fun e w' => e = .returned (.tuple #[.int .i64 (dv (h :: t)).1, .int .i64 ((dv (h :: t)).2 : Nat)]) ∧ w = w' := by
  obtain ⟨k, hk⟩ : ∃ k : Nat, h.toNat % 128 = k := ⟨_, rfl⟩
  have hk128 : k < 128 := by omega
  have hand := andNot128 h
  rw [hk] at hand
  have HC := Lib.hid hc
  clear hc
  have hdv : Hid (dv (h :: t) = (Wm.decT h t).getD (0, 0)) := rfl
  unfold Wm.decT at hdv
  rw [hk] at hdv
  have HK := Lib.hid hk
  clear hk
  by_cases hk8 : 8 < k
  · have e : Hid (dv (h :: t) = (0, 0)) := by have := hdv.out; rw [if_pos (.inl hk8)] at this; exact this
    clear hdv
    go_enter Try.func30, Try.ntmps30
    go_wp2
    go_ret2
    exact ⟨by rw [e.out]; rfl, rfl⟩
  by_cases hkt : t.length < k
  · have e : Hid (dv (h :: t) = (0, 0)) := by have := hdv.out; rw [if_pos (.inr hkt)] at this; exact this
    clear hdv
    go_enter Try.func30, Try.ntmps30
    go_wp2
    go_ret2
    exact ⟨by rw [e.out]; rfl, rfl⟩
  have e1 : Hid (dv (h :: t) = (if (0 < k ∧ t.head? = some 0) ∨ 9223372036854775807 < Wm.val (t.take k) then none
      else some (if 128 ≤ h.toNat then -1 - (Wm.val (t.take k) : Int) else (Wm.val (t.take k) : Int), 1 + k) : Option (Int × Nat)).getD (0, 0)) := by
    have := hdv.out; rw [if_neg (by omega)] at this; exact this
  clear hdv
  have b1 : k ≤ 8 := by omega
  have b2 : k ≤ t.length := by omega
  clear hk8 hkt
  have q1 : decide ((8 : Int) < (k : Int)) = false := by simp; omega
  have q2 : decide (t.length < k) = false := by simp; omega
  have q3 : ((t.length : Int) + 1 == 0) = false := by simp; omega
  by_cases hc1 : cap = 1
  · obtain rfl : t = [] := List.eq_nil_of_length_eq_zero (by omega)
    obtain rfl : k = 0 := by simpa using b2
    subst hc1
    have e2 : Hid (dv [h] = (if 128 ≤ h.toNat then -1 else 0, 1)) := by
      have := e1.out
      simp [Wm.val] at this
      exact this
    clear e1 HC
    have q4 : (0 : Int) < 1 := by omega
    by_cases hn : 128 ≤ h.toNat
    · have hand2 : (bits .and .u8 (h.toNat : Int) 128 != 0) = true := by rw [and128]; simpa using hn
      go_enter Try.func30, Try.ntmps30
      go_wp2
      go_loop [5, 7, 30] (fun a _ i => a = .int .u64 0 ∧ i = .int .i64 0) (fun _ _ _ => 0)
      case atStart => exact ⟨rfl, rfl⟩
      case round =>
        obtain ⟨rfl, rfl⟩ := hrel
        go_wp2
        go_ret2
        exact ⟨by rw [e2.out]; simp [hn], rfl⟩
    · have hand2 : (bits .and .u8 (h.toNat : Int) 128 != 0) = false := by rw [and128]; simpa using hn
      go_enter Try.func30, Try.ntmps30
      go_wp2
      go_loop [5, 7, 30] (fun a _ i => a = .int .u64 0 ∧ i = .int .i64 0) (fun _ _ _ => 0)
      case atStart => exact ⟨rfl, rfl⟩
      case round =>
        obtain ⟨rfl, rfl⟩ := hrel
        go_wp2
        go_ret2
        exact ⟨by rw [e2.out]; simp [hn], rfl⟩
  · have q5 : 1 + k - 1 = k := by omega
    go_enter Try.func30, Try.ntmps30
    go_wp2
    go_loop [5, 7, 30] (fun a _ i => ∃ j : Nat, j ≤ k ∧ i = .int .i64 (j : Int) ∧ a = .int .u64 ((Wm.val (t.take j) : Nat) : Int)) (fun _ _ i => k - (intOf i).toNat)
    case atStart => exact ⟨0, Nat.zero_le _, rfl, rfl⟩
    case round =>
      obtain ⟨j, hj, rfl, rfl⟩ := hrel
      by_cases hlt : j < k
      · have hcj := HC.out j (by omega)
        have hvl : Wm.val (t.take j) < 72057594037927936 := by
          have h1 := Wm.val_lt (t.take j)
          have h2 : (t.take j).length ≤ 7 := by rw [List.length_take]; omega
          have h3 : 256 ^ (t.take j).length ≤ 256 ^ 7 := Nat.pow_le_pow_right (by omega) h2
          omega
        have hor := or_low (Wm.val (t.take j)) (t.getD j 0) hvl
        have hsn : Wm.val (t.take (j + 1)) = Wm.val (t.take j) * 256 + (t.getD j 0).toNat := by
          rw [List.take_succ_eq_append_getElem (by omega), Wm.val_snoc]
          simp [List.getD, show j < t.length by omega]
        have HSN := Lib.hid hsn
        clear hsn
        generalize (t.getD j 0) = x at *
        generalize Wm.val (t.take j) = vv at *
        have hxl := x.toNat_lt
        go_wp2
        go_round
        case rel => exact ⟨j + 1, by omega, by go_num, by rw [HSN.out]; go_num⟩
        case measure => simp [intOf]; omega
      · obtain rfl : j = k := by omega
        clear hlt hj
        have hfin : ∀ n : Int, ∀ m : Nat, dv (h :: t) = (n, m) → (Ending.returned (.tuple #[.int .i64 n, .int .i64 (m : Int)]) = Ending.returned (.tuple #[.int .i64 (dv (h :: t)).1, .int .i64 ((dv (h :: t)).2 : Nat)])) := by
          intro n m e; rw [e]
        have HF := Lib.hid hfin
        clear hfin
        generalize hV : Wm.val (t.take j) = V at *
        have HV := Lib.hid hV
        clear hV
        by_cases hj0 : 0 < j
        · obtain ⟨x, t', rfl⟩ : ∃ x t', t = x :: t' := by
            cases t with
            | nil => simp at b2; omega
            | cons x t' => exact ⟨x, t', rfl⟩
          have hcx : w.cell? ⟨g, off + 1, none⟩ = some (.int .u8 x.toNat) := HC.out 0 (by simp)
          have hj0i : decide ((0 : Int) < (j : Int)) = true := by simp; omega
          by_cases hx0 : x = 0
          · have e : Hid (dv (h :: x :: t') = (0, 0)) := by
              have := e1.out
              rw [if_pos (.inl ⟨hj0, by rw [hx0]; rfl⟩)] at this
              exact this
            subst hx0
            have hx00 : ((0 : UInt8).toNat : Int) = 0 := rfl
            rw [hx00] at hcx
            clear hx00
            go_wp2
            go_ret2
            exact ⟨HF.out 0 0 e.out, rfl⟩
          · have hxn : ((x.toNat : Int) == 0) = false := by
              have : x.toNat ≠ 0 := fun e => hx0 (by rw [← UInt8.toNat_inj]; exact e)
              simp; omega
            by_cases hVm : 9223372036854775807 < V
            · have e : Hid (dv (h :: x :: t') = (0, 0)) := by
                have := e1.out
                rw [if_pos (.inr hVm)] at this
                exact this
              have hVi : (9223372036854775807 : Int) < (V : Int) := by omega
              go_wp2
              go_ret2
              exact ⟨HF.out 0 0 e.out, rfl⟩
            · have hnn : ¬ ((0 < j ∧ (x :: t').head? = some 0) ∨ 9223372036854775807 < V) := by
                rintro (⟨_, hh⟩ | hh)
                · simp at hh; exact hx0 hh
                · exact hVm hh
              have hVi : ¬ ((9223372036854775807 : Int) < (V : Int)) := by omega
              by_cases hn : 128 ≤ h.toNat
              · have e : Hid (dv (h :: x :: t') = (-1 - (V : Int), 1 + j)) := by
                  have := e1.out
                  rw [if_neg hnn, if_pos hn] at this
                  exact this
                have hand2 : (bits .and .u8 (h.toNat : Int) 128 != 0) = true := by rw [and128]; simpa using hn
                clear hnn
                go_wp2
                go_ret2
                exact ⟨HF.out _ _ e.out, rfl⟩
              · have e : Hid (dv (h :: x :: t') = ((V : Int), 1 + j)) := by
                  have := e1.out
                  rw [if_neg hnn, if_neg hn] at this
                  exact this
                have hand2 : (bits .and .u8 (h.toNat : Int) 128 != 0) = false := by rw [and128]; simpa using hn
                clear hnn
                go_wp2
                go_ret2
                exact ⟨HF.out _ _ e.out, rfl⟩
        · obtain rfl : j = 0 := by omega
          have hV0 : V = 0 := by rw [← HV.out]; rfl
          subst hV0
          have hnn : ¬ ((0 < 0 ∧ t.head? = some 0) ∨ 9223372036854775807 < 0) := by omega
          by_cases hn : 128 ≤ h.toNat
          · have e : Hid (dv (h :: t) = (-1, 1)) := by
              have := e1.out
              rw [if_neg hnn, if_pos hn] at this
              exact this
            have hand2 : (bits .and .u8 (h.toNat : Int) 128 != 0) = true := by rw [and128]; simpa using hn
            clear hnn
            go_wp2
            go_ret2
            exact ⟨HF.out _ _ e.out, rfl⟩
          · have e : Hid (dv (h :: t) = (0, 1)) := by
              have := e1.out
              rw [if_neg hnn, if_neg hn] at this
              exact this
            have hand2 : (bits .and .u8 (h.toNat : Int) 128 != 0) = false := by rw [and128]; simpa using hn
            clear hnn
            go_wp2
            go_ret2
            exact ⟨HF.out _ _ e.out, rfl⟩

theorem decode_any (sv : Value) (l : List UInt8) (w : World) (h : Byt sv l w) (hl : l.length ≤ 1000000000000) :
    Calls Try.prog 30 #[sv] w fun e w' => e = .returned (.tuple #[.int .i64 (dv l).1, .int .i64 ((dv l).2 : Nat)]) ∧ w = w' := by
  rcases h with ⟨rfl, rfl⟩ | ⟨g, off, cap, cs, t, fr, rfl, hc, hg, _, _, _, hcell⟩
  · exact decode_nil none 0 w
  · cases l with
    | nil => exact decode_nil _ _ w
    | cons x t' =>
      refine decode_cons g off cap x t' w hc hl ?_ ?_
      · rw [Lib.cell_of_heap hg]; exact hcell 0 (by simp)
      · intro j hj
        rw [Lib.cell_of_heap hg]
        have := hcell (j + 1) (by simpa using hj)
        rw [show off + 1 + j = off + (j + 1) by omega, this]
        simp

end Go.Proofs.Ytgpeombkdompdaa
