/- The calls of a Reader that only look: OK, Left, End; fail; decode. -/
import Derived.Test.YtmipomglbccjbaaDoorWireWa
import Derived.Outline
import Derived.Test.YtmipomglbccjbaaDoorDecS2
namespace Go.Proofs.YtmipomglbccjbaaDoor
open Go.RowKit

theorem Rd.cell0 {b : Nat} {sv : Value} {st : Option (List UInt8)} {w : World} (h : Rd b sv st w) : w.cell? ⟨b, 0, none⟩ = some sv := by rw [Lib.cell_of_heap h.blk]; rfl
theorem Rd.cell1 {b : Nat} {sv : Value} {st : Option (List UInt8)} {w : World} (h : Rd b sv st w) : w.cell? ⟨b, 1, none⟩ = some (.bool st.isNone) := by rw [Lib.cell_of_heap h.blk]; rfl
theorem Rd.frozen {b : Nat} {sv : Value} {st : Option (List UInt8)} {w : World} (h : Rd b sv st w) (j : Nat) : w.frozen? ⟨b, j, none⟩ = false := Lib.frozen_of_heap h.blk j
theorem Rd.lt {b : Nat} {sv : Value} {st : Option (List UInt8)} {w : World} (h : Rd b sv st w) : b < w.heap.size := heap_lt h.blk
theorem Rd.ne {b : Nat} {sv : Value} {st : Option (List UInt8)} {w : World} (h : Rd b sv st w) : sv.ownBlock ≠ some b := by
  rcases h.byt with ⟨e, _⟩ | ⟨g, off, cap, cs, t, fr, e, _, hg, ht, _⟩
  · rw [e]; simp [Value.ownBlock]
  · rw [e]
    intro hb
    simp only [Value.ownBlock, Option.some.injEq] at hb
    subst hb
    have := hg.symm.trans h.blk
    simp only [Option.some.injEq, Obj.cells.injEq] at this
    rw [ht] at this
    exact absurd this.2.1 (by decide)
theorem Rd.keep {b : Nat} {sv : Value} {st : Option (List UInt8)} {w w' : World} {p : Nat → Prop} (h : Rd b sv st w) (ho : Only p w w') (hb : ¬ p b) (hv : ∀ g, sv.ownBlock = some g → ¬ p g) : Rd b sv st w' :=
  ⟨(ho.block b h.lt hb).trans h.blk, h.byt.keep ho hv⟩
theorem ok_r (b : Nat) (sv : Value) (st : Option (List UInt8)) (w : World) (h : Rd b sv st w) :
    Calls Tryd.prog 30 #[.pointer (some ⟨b, 0, none⟩)] w fun e w' => e = .returned (.bool st.isSome) ∧ w = w' := by
  have hc1 := h.cell1
  clear h
  cases st
  all_goals
    simp only [Option.isNone_none, Option.isNone_some] at hc1
    go_enter Tryd.func30, Tryd.ntmps30
    go_wp2
    go_ret
    exact ⟨rfl, rfl⟩
theorem left_r (b : Nat) (sv : Value) (st : Option (List UInt8)) (w : World) (h : Rd b sv st w) :
    Calls Tryd.prog 53 #[.pointer (some ⟨b, 0, none⟩)] w fun e w' => e = .returned (.int .i64 ((st.getD []).length : Nat)) ∧ w = w' := by
  have hc0 := h.cell0
  obtain ⟨a, c, rfl⟩ := h.byt.form
  have HR := Lib.hid h
  clear h
  go_enter Tryd.func53, Tryd.ntmps53
  go_wp2_with fail
  refine (ok_r b _ st _ HR.out).mono ?_
  rintro e w1 ⟨rfl, rfl⟩
  cases st
  all_goals
    simp only [Option.isSome_none, Option.isSome_some, Option.getD_none, Option.getD_some] at hc0 ⊢
    go_wp2
    go_ret
    exact ⟨rfl, rfl⟩
theorem end_r (b : Nat) (sv : Value) (st : Option (List UInt8)) (w : World) (h : Rd b sv st w) :
    Calls Tryd.prog 33 #[.pointer (some ⟨b, 0, none⟩)] w fun e w' => e = .returned (.bool (st.isSome && (st.getD []).isEmpty)) ∧ w = w' := by
  have HR := Lib.hid h
  clear h
  go_enter Tryd.func33, Tryd.ntmps33
  go_wp2_with fail
  refine (ok_r b _ st _ HR.out).mono ?_
  rintro e w1 ⟨rfl, rfl⟩
  cases st with
  | none =>
    simp only [Option.isSome_none]
    go_wp2
    go_ret
    exact ⟨rfl, rfl⟩
  | some l =>
    simp only [Option.isSome_some]
    go_wp2_with fail
    refine (left_r b _ _ _ HR.out).mono ?_
    rintro e w1 ⟨rfl, rfl⟩
    simp only [Option.getD_some]
    have hl : (((l.length : Nat) : Int) == 0) = l.isEmpty := by cases l <;> simp <;> omega
    go_wp2
    go_ret
    exact ⟨by simp, rfl⟩
/-- WHAT A READING CALL LEAVES. -/
def Red (b : Nat) (sv : Value) (st : Option (List UInt8)) (w w' : World) : Prop :=
  ∃ sv', Rd b sv' st w' ∧ (sv'.ownBlock = none ∨ sv'.ownBlock = sv.ownBlock) ∧ Only (fun k => k = b) w w'
theorem Red.refl {b : Nat} {sv : Value} {st : Option (List UInt8)} {w : World} (h : Rd b sv st w) : Red b sv st w w := ⟨sv, h, .inr rfl, Only.refl _ _⟩
theorem setCell_blk {w : World} {b j : Nat} {cs : Array Value} {t : TypeId} {fr : Nat × Nat} (h : w.heap[b]? = some (.cells cs t fr)) (u : Value) : (w.setCell ⟨b, j, none⟩ u).heap[b]? = some (.cells (cs.setIfInBounds j u) t fr) := by
  simp [World.setCell, Array.getElem?_modify, h]
theorem fail_r (b : Nat) (sv : Value) (st : Option (List UInt8)) (w : World) (h : Rd b sv st w) :
    Calls Tryd.prog 61 #[.pointer (some ⟨b, 0, none⟩)] w fun e w' => e = .returned (.tuple #[]) ∧ Red b sv none w w' := by
  have hc0 := h.cell0
  have hc1 := h.cell1
  have hf0 := h.frozen 0
  have hf1 := h.frozen 1
  have HR := Lib.hid h
  clear h
  go_enter Tryd.func61, Tryd.ntmps61
  go_wp2
  go_end0
  refine ⟨rfl, .slice none 0 0, ⟨?_, .inl ⟨rfl, rfl⟩⟩, .inl rfl, ?_⟩
  · exact setCell_blk (setCell_blk HR.out.blk _) _
  · exact ((Only.refl (fun k => k = b) w).setCell (q := ⟨b, 0, none⟩) (.inl rfl) _).setCell (q := ⟨b, 1, none⟩) (.inl rfl) _
end Go.Proofs.YtmipomglbccjbaaDoor
/- decode reads the number at the beginning of bytes. -/
namespace Go.Proofs.YtmipomglbccjbaaDoor
open Go.RowKit

/-- what decode answers -/
def dv (l : List UInt8) : Int × Nat := (Wm.dec l).getD (0, 0)
theorem andNot128 (h : UInt8) : bits .andNot .u8 (h.toNat : Int) 128 = ((h.toNat % 128 : Nat) : Int) := by
  have : ∀ k : Fin 256, bits .andNot .u8 ((k.val : Nat) : Int) 128 = ((k.val % 128 : Nat) : Int) := by decide +kernel
  exact this ⟨h.toNat, h.toNat_lt⟩
theorem and128 (h : UInt8) : (bits .and .u8 (h.toNat : Int) 128 != 0) = decide (128 ≤ h.toNat) := by
  have : ∀ k : Fin 256, (bits .and .u8 ((k.val : Nat) : Int) 128 != 0) = decide (128 ≤ k.val) := by decide +kernel
  exact this ⟨h.toNat, h.toNat_lt⟩
theorem or_low (v : Nat) (c : UInt8) (hv : v < 72057594037927936) : bits .or .u64 ((v : Int) * 256) (c.toNat : Int) = ((v * 256 + c.toNat : Nat) : Int) := by
  have hc := c.toNat_lt
  have e : ((v : Int) * 256) = ((v * 256 : Nat) : Int) := by omega
  have h1 : (BitVec.ofInt 64 ((v * 256 : Nat) : Int)).toNat = v * 256 := by
    rw [BitVec.ofInt_natCast, BitVec.toNat_ofNat]; exact Nat.mod_eq_of_lt (by omega)
  have h2 : (BitVec.ofInt 64 (c.toNat : Int)).toNat = c.toNat := by
    rw [BitVec.ofInt_natCast, BitVec.toNat_ofNat]; exact Nat.mod_eq_of_lt (by omega)
  rw [e]
  show IntKind.u64.wrap ((BitVec.ofInt 64 ((v * 256 : Nat) : Int) ||| BitVec.ofInt 64 (c.toNat : Int)).toNat : Int) = _
  rw [BitVec.toNat_or, h1, h2, IntKind.wrap_u64]
  have h3 : v * 256 ||| c.toNat = v * 256 + c.toNat := by
    have := Nat.two_pow_add_eq_or_of_lt (i := 8) (b := c.toNat) (by omega) v
    rw [Nat.mul_comm v 256]
    exact this.symm
  rw [h3]
  omega
set_option maxHeartbeats 1000000 in
set_option maxRecDepth 100000 in
theorem decode_nil (a : Option Addr) (c : Nat) (w : World) :
    Calls Tryd.prog 60 #[.slice a 0 c] w fun e w' => e = .returned (.tuple #[.int .i64 0, .int .i64 0]) ∧ w = w' := by
  go_enter Tryd.func60, Tryd.ntmps60
  go_wp2
  go_ret2
  exact ⟨rfl, rfl⟩
set_option maxHeartbeats 1000000 in
set_option maxRecDepth 100000 in
theorem decode_cons (g off cap : Nat) (h : UInt8) (t : List UInt8) (w : World) (hcap : t.length + 1 ≤ cap) (hm : t.length + 1 ≤ 1000000000000)
    (hc0 : w.cell? ⟨g, off, none⟩ = some (.int .u8 h.toNat)) (hc : ∀ j, j < t.length → w.cell? ⟨g, off + 1 + j, none⟩ = some (.int .u8 (t.getD j 0).toNat)) :
    Calls Tryd.prog 60 #[.slice (some ⟨g, off, none⟩) (t.length + 1) cap] w fun e w' => e = .returned (.tuple #[.int .i64 (dv (h :: t)).1, .int .i64 ((dv (h :: t)).2 : Nat)]) ∧ w = w' := by
  obtain ⟨k, hk⟩ : ∃ k : Nat, h.toNat % 128 = k := ⟨_, rfl⟩
  have hk128 : k < 128 := by omega
  have hand := andNot128 h
  rw [hk] at hand
  have HC := Lib.hid hc
  clear hc
  have hdv : Hid (dv (h :: t) = (Wm.decT h t).getD (0, 0)) := rfl
  unfold Wm.decT at hdv
  rw [hk] at hdv
  have HK := Lib.hid hk
  clear hk
  by_cases hk8 : 8 < k
  · have e : Hid (dv (h :: t) = (0, 0)) := by have := hdv.out; rw [if_pos (.inl hk8)] at this; exact this
    clear hdv
    go_enter Tryd.func60, Tryd.ntmps60
    go_wp2
    go_ret2
    exact ⟨by rw [e.out]; rfl, rfl⟩
  by_cases hkt : t.length < k
  · have e : Hid (dv (h :: t) = (0, 0)) := by have := hdv.out; rw [if_pos (.inr hkt)] at this; exact this
    clear hdv
    go_enter Tryd.func60, Tryd.ntmps60
    go_wp2
    go_ret2
    exact ⟨by rw [e.out]; rfl, rfl⟩
  have e1 : Hid (dv (h :: t) = (if (0 < k ∧ t.head? = some 0) ∨ 9223372036854775807 < Wm.val (t.take k) then none
      else some (if 128 ≤ h.toNat then -1 - (Wm.val (t.take k) : Int) else (Wm.val (t.take k) : Int), 1 + k) : Option (Int × Nat)).getD (0, 0)) := by
    have := hdv.out; rw [if_neg (by omega)] at this; exact this
  clear hdv
  have b1 : k ≤ 8 := by omega
  have b2 : k ≤ t.length := by omega
  clear hk8 hkt
  have q1 : decide ((8 : Int) < (k : Int)) = false := by simp; omega
  have q2 : decide (t.length < k) = false := by simp; omega
  have q3 : ((t.length : Int) + 1 == 0) = false := by simp; omega
  by_cases hc1 : cap = 1
  · obtain rfl : t = [] := List.eq_nil_of_length_eq_zero (by omega)
    obtain rfl : k = 0 := by simpa using b2
    subst hc1
    have e2 : Hid (dv [h] = (if 128 ≤ h.toNat then -1 else 0, 1)) := by
      have := e1.out
      simp [Wm.val] at this
      exact this
    clear e1 HC
    have q4 : (0 : Int) < 1 := by omega
    by_cases hn : 128 ≤ h.toNat
    · have hand2 : (bits .and .u8 (h.toNat : Int) 128 != 0) = true := by rw [and128]; simpa using hn
      go_enter Tryd.func60, Tryd.ntmps60
      go_wp2
      go_loop [5, 7, 30] (fun a _ i => a = .int .u64 0 ∧ i = .int .i64 0) (fun _ _ _ => 0)
      case atStart => exact ⟨rfl, rfl⟩
      case round =>
        obtain ⟨rfl, rfl⟩ := hrel
        go_wp2
        go_ret2
        exact ⟨by rw [e2.out]; simp [hn], rfl⟩
    · have hand2 : (bits .and .u8 (h.toNat : Int) 128 != 0) = false := by rw [and128]; simpa using hn
      go_enter Tryd.func60, Tryd.ntmps60
      go_wp2
      go_loop [5, 7, 30] (fun a _ i => a = .int .u64 0 ∧ i = .int .i64 0) (fun _ _ _ => 0)
      case atStart => exact ⟨rfl, rfl⟩
      case round =>
        obtain ⟨rfl, rfl⟩ := hrel
        go_wp2
        go_ret2
        exact ⟨by rw [e2.out]; simp [hn], rfl⟩
  · have q5 : 1 + k - 1 = k := by omega
    go_enter Tryd.func60, Tryd.ntmps60
    go_wp2
    go_loop [5, 7, 30] (fun a _ i => ∃ j : Nat, j ≤ k ∧ i = .int .i64 (j : Int) ∧ a = .int .u64 ((Wm.val (t.take j) : Nat) : Int)) (fun _ _ i => k - (intOf i).toNat)
    case atStart => exact ⟨0, Nat.zero_le _, rfl, rfl⟩
    case round =>
      obtain ⟨j, hj, rfl, rfl⟩ := hrel
      by_cases hlt : j < k
      · have hcj := HC.out j (by omega)
        have hvl : Wm.val (t.take j) < 72057594037927936 := by
          have h1 := Wm.val_lt (t.take j)
          have h2 : (t.take j).length ≤ 7 := by rw [List.length_take]; omega
          have h3 : 256 ^ (t.take j).length ≤ 256 ^ 7 := Nat.pow_le_pow_right (by omega) h2
          omega
        have hor := or_low (Wm.val (t.take j)) (t.getD j 0) hvl
        have hsn : Wm.val (t.take (j + 1)) = Wm.val (t.take j) * 256 + (t.getD j 0).toNat := by
          rw [List.take_succ_eq_append_getElem (by omega), Wm.val_snoc]
          simp [List.getD, show j < t.length by omega]
        have HSN := Lib.hid hsn
        clear hsn
        generalize (t.getD j 0) = x at *
        generalize Wm.val (t.take j) = vv at *
        have hxl := x.toNat_lt
        go_wp2
        go_round
        case rel => exact ⟨j + 1, by omega, by go_num, by rw [HSN.out]; go_num⟩
        case measure => simp [intOf]; omega
      · obtain rfl : j = k := by omega
        clear hlt hj
        have hfin : ∀ n : Int, ∀ m : Nat, dv (h :: t) = (n, m) → (Ending.returned (.tuple #[.int .i64 n, .int .i64 (m : Int)]) = Ending.returned (.tuple #[.int .i64 (dv (h :: t)).1, .int .i64 ((dv (h :: t)).2 : Nat)])) := by
          intro n m e; rw [e]
        have HF := Lib.hid hfin
        clear hfin
        generalize hV : Wm.val (t.take j) = V at *
        have HV := Lib.hid hV
        clear hV
        by_cases hj0 : 0 < j
        · obtain ⟨x, t', rfl⟩ : ∃ x t', t = x :: t' := by
            cases t with
            | nil => simp at b2; omega
            | cons x t' => exact ⟨x, t', rfl⟩
          have hcx : w.cell? ⟨g, off + 1, none⟩ = some (.int .u8 x.toNat) := HC.out 0 (by simp)
          have hj0i : decide ((0 : Int) < (j : Int)) = true := by simp; omega
          by_cases hx0 : x = 0
          · have e : Hid (dv (h :: x :: t') = (0, 0)) := by
              have := e1.out
              rw [if_pos (.inl ⟨hj0, by rw [hx0]; rfl⟩)] at this
              exact this
            subst hx0
            have hx00 : ((0 : UInt8).toNat : Int) = 0 := rfl
            rw [hx00] at hcx
            clear hx00
            go_wp2
            go_ret2
            exact ⟨HF.out 0 0 e.out, rfl⟩
          · have hxn : ((x.toNat : Int) == 0) = false := by
              have : x.toNat ≠ 0 := fun e => hx0 (by rw [← UInt8.toNat_inj]; exact e)
              simp; omega
            by_cases hVm : 9223372036854775807 < V
            · have e : Hid (dv (h :: x :: t') = (0, 0)) := by
                have := e1.out
                rw [if_pos (.inr hVm)] at this
                exact this
              have hVi : (9223372036854775807 : Int) < (V : Int) := by omega
              go_wp2
              go_ret2
              exact ⟨HF.out 0 0 e.out, rfl⟩
            · have hnn : ¬ ((0 < j ∧ (x :: t').head? = some 0) ∨ 9223372036854775807 < V) := by
                rintro (⟨_, hh⟩ | hh)
                · simp at hh; exact hx0 hh
                · exact hVm hh
              have hVi : ¬ ((9223372036854775807 : Int) < (V : Int)) := by omega
              by_cases hn : 128 ≤ h.toNat
              · have e : Hid (dv (h :: x :: t') = (-1 - (V : Int), 1 + j)) := by
                  have := e1.out
                  rw [if_neg hnn, if_pos hn] at this
                  exact this
                have hand2 : (bits .and .u8 (h.toNat : Int) 128 != 0) = true := by rw [and128]; simpa using hn
                clear hnn
                go_wp2
                go_ret2
                exact ⟨HF.out _ _ e.out, rfl⟩
              · have e : Hid (dv (h :: x :: t') = ((V : Int), 1 + j)) := by
                  have := e1.out
                  rw [if_neg hnn, if_neg hn] at this
                  exact this
                have hand2 : (bits .and .u8 (h.toNat : Int) 128 != 0) = false := by rw [and128]; simpa using hn
                clear hnn
                go_wp2
                go_ret2
                exact ⟨HF.out _ _ e.out, rfl⟩
        · obtain rfl : j = 0 := by omega
          have hV0 : V = 0 := by rw [← HV.out]; rfl
          subst hV0
          have hnn : ¬ ((0 < 0 ∧ t.head? = some 0) ∨ 9223372036854775807 < 0) := by omega
          by_cases hn : 128 ≤ h.toNat
          · have e : Hid (dv (h :: t) = (-1, 1)) := by
              have := e1.out
              rw [if_neg hnn, if_pos hn] at this
              exact this
            have hand2 : (bits .and .u8 (h.toNat : Int) 128 != 0) = true := by rw [and128]; simpa using hn
            clear hnn
            go_wp2
            go_ret2
            exact ⟨HF.out _ _ e.out, rfl⟩
          · have e : Hid (dv (h :: t) = (0, 1)) := by
              have := e1.out
              rw [if_neg hnn, if_neg hn] at this
              exact this
            have hand2 : (bits .and .u8 (h.toNat : Int) 128 != 0) = false := by rw [and128]; simpa using hn
            clear hnn
            go_wp2
            go_ret2
            exact ⟨HF.out _ _ e.out, rfl⟩
theorem decode_any (sv : Value) (l : List UInt8) (w : World) (h : Byt sv l w) (hl : l.length ≤ 1000000000000) :
    Calls Tryd.prog 60 #[sv] w fun e w' => e = .returned (.tuple #[.int .i64 (dv l).1, .int .i64 ((dv l).2 : Nat)]) ∧ w = w' := by
  rcases h with ⟨rfl, rfl⟩ | ⟨g, off, cap, cs, t, fr, rfl, hc, hg, _, _, _, hcell⟩
  · exact decode_nil none 0 w
  · cases l with
    | nil => exact decode_nil _ _ w
    | cons x t' =>
      refine decode_cons g off cap x t' w hc hl ?_ ?_
      · rw [Lib.cell_of_heap hg]; exact hcell 0 (by simp)
      · intro j hj
        rw [Lib.cell_of_heap hg]
        have := hcell (j + 1) (by simpa using hj)
        rw [show off + 1 + j = off + (j + 1) by omega, this]
        simp
end Go.Proofs.YtmipomglbccjbaaDoor
/- The calls of a Reader that consume: between, Number, Count, Text, Flag. -/
namespace Go.Proofs.YtmipomglbccjbaaDoor
open Go.RowKit

/-- what a reader in the state st answers for a number from lo to hi, and its state behind -/
def btw (lo hi : Int) (st : Option (List UInt8)) : Int × Option (List UInt8) :=
  match st with
  | none => (0, none)
  | some l => match Wm.dec l with
    | none => (0, none)
    | some (n, k) => if n < lo ∨ hi < n then (0, none) else (n, some (l.drop k))
/-- s[k:] of bytes in memory -/
theorem Byt.from_ {sv : Value} {l : List UInt8} {w : World} (h : Byt sv l w) (k : Nat) (hk : k ≤ l.length) :
    ∃ a c b d, sv = .slice a l.length c ∧ Byt (.slice b (l.length - k) d) (l.drop k) w ∧ (Value.slice b (l.length - k) d).ownBlock = sv.ownBlock ∧
      ∀ w', (Instr.slice 25 (.slice a l.length c) (some (.int .i64 (k : Int))) none none).run Tryd.prog w' = .ok (.slice b (l.length - k) d) w' := by
  have hs : ∀ w' : World, (sizeOf (Tryd.prog.elem 25)).run Tryd.prog w' = .ok 1 w' := fun w' => by kernel_rfl
  have hr : ∀ (a : Option Addr) (c : Nat) (w' : World), (Instr.slice 25 (.slice a l.length c) (some (.int .i64 (k : Int))) none none).run Tryd.prog w' = .ok (sliced a k l.length c 1) w' := fun a c w' => by
    rw [run_slice_l w' 25 a l.length c (by kernel_rfl) .i64 k (by omega) (by omega), hs]
    simp
  rcases h with ⟨rfl, rfl⟩ | ⟨g, off, cap, cs, t, fr, rfl, hc, hg, ht, hoff, hmax, hcell⟩
  · simp only [List.length_nil] at hk
    obtain rfl : k = 0 := by omega
    exact ⟨none, 0, none, 0, rfl, .inl ⟨rfl, rfl⟩, rfl, fun w' => by rw [hr]; simp [sliced]⟩
  · by_cases hck : cap = k
    · subst hck
      have hl : l.length = cap := by omega
      have hd : l.drop cap = [] := List.drop_eq_nil_of_le (by omega)
      refine ⟨some ⟨g, off, none⟩, cap, some ⟨g, off, none⟩, 0, rfl, ?_, rfl, fun w' => by rw [hr]; simp [sliced]⟩
      rw [hd]
      have e0 : l.length - cap = 0 := by omega
      rw [e0]
      exact .inr ⟨g, off, 0, cs, t, fr, rfl, Nat.le_refl _, hg, ht, by omega, hmax, fun j hj => by simp at hj⟩
    · refine ⟨some ⟨g, off, none⟩, cap, some ⟨g, off + k, none⟩, cap - k, rfl, ?_, rfl, fun w' => ?_⟩
      · refine .inr ⟨g, off + k, cap - k, cs, t, fr, by rw [List.length_drop], by rw [List.length_drop]; omega, hg, ht, by omega, hmax, fun j hj => ?_⟩
        rw [List.length_drop] at hj
        rw [show off + k + j = off + (k + j) by omega, hcell (k + j) (by omega)]
        simp [List.getD]
      · rw [hr]
        have hadd : (⟨g, off, none⟩ : Addr).add (k * 1) = ⟨g, off + k, none⟩ := by rw [Nat.mul_one]; unfold Addr.add; split <;> simp_all
        simp only [sliced, if_neg hck, Option.map_some, hadd]
set_option maxHeartbeats 1000000 in
theorem between_r (b : Nat) (sv : Value) (st : Option (List UInt8)) (lo hi : Int) (w : World) (h : Rd b sv st w) (hl : (st.getD []).length ≤ 1000000000000) :
    Calls Tryd.prog 50 #[.pointer (some ⟨b, 0, none⟩), .int .i64 lo, .int .i64 hi] w fun e w' => e = .returned (.int .i64 (btw lo hi st).1) ∧ Red b sv (btw lo hi st).2 w w' := by
  have HR := Lib.hid h
  have hc0 := h.cell0
  have hf0 := h.frozen 0
  clear h
  cases st with
  | none =>
    go_enter Tryd.func50, Tryd.ntmps50
    go_wp2_with fail
    refine (ok_r b _ none _ HR.out).mono ?_
    rintro e w1 ⟨rfl, rfl⟩
    simp only [Option.isSome_none]
    go_wp2
    go_ret
    exact ⟨rfl, Red.refl HR.out⟩
  | some l =>
    simp only [Option.getD_some] at hl
    rcases hd : Wm.dec l with _ | ⟨n, k⟩
    · have hdv : dv l = (0, 0) := by unfold dv; rw [hd]; rfl
      have hb : Hid (btw lo hi (some l) = (0, none)) := by show btw lo hi (some l) = (0, none); unfold btw; simp [hd]
      have HDV := Lib.hid hdv
      clear hdv hd
      go_enter Tryd.func50, Tryd.ntmps50
      go_wp2_with fail
      refine (ok_r b _ (some l) _ HR.out).mono ?_
      rintro e w1 ⟨rfl, rfl⟩
      simp only [Option.isSome_some]
      go_wp2_with fail
      refine (decode_any sv l _ HR.out.byt hl).mono ?_
      rintro e w1 ⟨rfl, rfl⟩
      rw [HDV.out]
      go_wp2_with fail
      refine (fail_r b sv _ _ HR.out).mono ?_
      rintro e w1 ⟨rfl, hr⟩
      have HR1 := Lib.hid hr
      clear hr
      go_wp2
      go_ret
      rw [hb.out]
      exact ⟨rfl, HR1.out⟩
    · obtain ⟨hin, hk1, hk9, hkl⟩ := Wm.dec_some hd
      have hdv : dv l = (n, k) := by unfold dv; rw [hd]; rfl
      have HDV := Lib.hid hdv
      have hk0 : ((k : Int) == 0) = false := by simp; omega
      by_cases hbad : n < lo ∨ hi < n
      · have hb : Hid (btw lo hi (some l) = (0, none)) := by show btw lo hi (some l) = (0, none); unfold btw; simp [hd, hbad]
        clear hdv hd
        have hbi : decide (n < lo) = true ∨ (decide (n < lo) = false ∧ decide (hi < n) = true) := by
          by_cases hx : n < lo
          · left; simpa using hx
          · right; exact ⟨by simpa using hx, by simp; omega⟩
        rcases hbi with hbi | ⟨hbi, hbi2⟩
        all_goals
          go_enter Tryd.func50, Tryd.ntmps50
          go_wp2_with fail
          refine (ok_r b _ (some l) _ HR.out).mono ?_
          rintro e w1 ⟨rfl, rfl⟩
          simp only [Option.isSome_some]
          go_wp2_with fail
          refine (decode_any sv l _ HR.out.byt hl).mono ?_
          rintro e w1 ⟨rfl, rfl⟩
          rw [HDV.out]
          go_wp2_with fail
          refine (fail_r b sv _ _ HR.out).mono ?_
          rintro e w1 ⟨rfl, hr⟩
          have HR1 := Lib.hid hr
          clear hr
          go_wp2
          go_ret
          rw [hb.out]
          exact ⟨rfl, HR1.out⟩
      · have hb : Hid (btw lo hi (some l) = (n, some (l.drop k))) := by show btw lo hi (some l) = (n, some (l.drop k)); unfold btw; simp [hd, hbad]
        clear hdv hd
        have hbi : decide (n < lo) = false := by simp; omega
        have hbi2 : decide (hi < n) = false := by simp; omega
        obtain ⟨a, c, a2, c2, hsv, hbyt, hown, hrun⟩ := HR.out.byt.from_ k hkl
        subst hsv
        have HBY := Lib.hid hbyt
        have HOW := Lib.hid hown
        clear hbyt hown
        simp only [Option.getD_some] at hrun
        go_enter Tryd.func50, Tryd.ntmps50
        go_wp2_with fail
        refine (ok_r b _ (some l) _ HR.out).mono ?_
        rintro e w1 ⟨rfl, rfl⟩
        simp only [Option.isSome_some]
        go_wp2_with fail
        refine (decode_any _ l _ HR.out.byt hl).mono ?_
        rintro e w1 ⟨rfl, rfl⟩
        rw [HDV.out]
        go_wp2
        go_ret
        rw [hb.out]
        refine ⟨rfl, _, ⟨setCell_blk HR.out.blk _, ?_⟩, .inr HOW.out, ?_⟩
        · exact HBY.out.keep (p := fun k => k = b) ((Only.refl (fun k => k = b) _).setCell (q := ⟨b, 0, none⟩) (.inl rfl) _) (fun g hg e => HR.out.ne (HOW.out.symm.trans (by rw [← e]; exact hg)))
        · exact (Only.refl (fun k => k = b) _).setCell (q := ⟨b, 0, none⟩) (.inl rfl) _
theorem number_r (b : Nat) (sv : Value) (st : Option (List UInt8)) (w : World) (h : Rd b sv st w) (hl : (st.getD []).length ≤ 1000000000000) :
    Calls Tryd.prog 31 #[.pointer (some ⟨b, 0, none⟩)] w fun e w' => e = .returned (.int .i64 (btw (-9223372036854775808) 9223372036854775807 st).1) ∧ Red b sv (btw (-9223372036854775808) 9223372036854775807 st).2 w w' := by
  have HR := Lib.hid h
  clear h
  go_enter Tryd.func31, Tryd.ntmps31
  go_wp2_with fail
  refine (between_r b sv st _ _ _ HR.out hl).mono ?_
  rintro e w1 ⟨rfl, hr⟩
  have HR1 := Lib.hid hr
  clear hr
  go_wp2
  go_ret
  exact ⟨rfl, HR1.out⟩
theorem count_r (b : Nat) (sv : Value) (st : Option (List UInt8)) (most : Int) (w : World) (h : Rd b sv st w) (hl : (st.getD []).length ≤ 1000000000000) :
    Calls Tryd.prog 29 #[.pointer (some ⟨b, 0, none⟩), .int .i64 most] w fun e w' => e = .returned (.int .i64 (btw 0 most st).1) ∧ Red b sv (btw 0 most st).2 w w' := by
  have HR := Lib.hid h
  clear h
  go_enter Tryd.func29, Tryd.ntmps29
  go_wp2_with fail
  refine (between_r b sv st _ _ _ HR.out hl).mono ?_
  rintro e w1 ⟨rfl, hr⟩
  have HR1 := Lib.hid hr
  clear hr
  go_wp2
  go_ret
  exact ⟨rfl, HR1.out⟩
theorem flag_r (b : Nat) (sv : Value) (st : Option (List UInt8)) (w : World) (h : Rd b sv st w) (hl : (st.getD []).length ≤ 1000000000000) :
    Calls Tryd.prog 51 #[.pointer (some ⟨b, 0, none⟩)] w fun e w' => e = .returned (.bool ((btw 0 1 st).1 == 1)) ∧ Red b sv (btw 0 1 st).2 w w' := by
  have HR := Lib.hid h
  clear h
  go_enter Tryd.func51, Tryd.ntmps51
  go_wp2_with fail
  refine (count_r b sv st _ _ HR.out hl).mono ?_
  rintro e w1 ⟨rfl, hr⟩
  have HR1 := Lib.hid hr
  clear hr
  go_wp2
  go_ret
  exact ⟨rfl, HR1.out⟩
theorem Byt.str {v : Value} {l : List UInt8} {w : World} (h : Byt v l w) : (convert 25 9 v).run Tryd.prog w = .ok (.string (bstr l)) w := by
  rcases h with ⟨rfl, rfl⟩ | ⟨g, off, cap, cs, t, fr, rfl, _, hg, _, _, _, hc⟩
  · exact run_convert_bytes_nil w 25 5 Tryd.underlying25 Tryd.underlying5 0 0 9 Tryd.underlying9
  · rw [run_convert_bytes_arg w 25 5 Tryd.underlying25 Tryd.underlying5 g off l.length cap (l.map fun b => (b.toNat : Int)) (by simp) ?_ 9 Tryd.underlying9]
    · have : strOfNums (l.map fun b => (b.toNat : Int)) = bstr l := by
        unfold strOfNums bstr
        congr 2
        rw [List.map_map]
        conv => rhs; rw [← List.map_id l]
        apply List.map_congr_left
        intro a _
        simp
      rw [this]
    · intro i hi
      rw [Lib.cell_of_heap hg, hc i hi]
      simp [List.getD, hi]
/-- s[:k] of bytes in memory -/
theorem Byt.upto {sv : Value} {l : List UInt8} {w : World} (h : Byt sv l w) (k : Nat) (hk : k ≤ l.length) :
    ∃ a c b d, sv = .slice a l.length c ∧ Byt (.slice b k d) (l.take k) w ∧ (Value.slice b k d).ownBlock = sv.ownBlock ∧
      ∀ w', (Instr.slice 25 (.slice a l.length c) none (some (.int .i64 (k : Int))) none).run Tryd.prog w' = .ok (.slice b k d) w' := by
  have hs : ∀ w' : World, (sizeOf (Tryd.prog.elem 25)).run Tryd.prog w' = .ok 1 w' := fun w' => by kernel_rfl
  rcases h with ⟨rfl, rfl⟩ | ⟨g, off, cap, cs, t, fr, rfl, hc, hg, ht, hoff, hmax, hcell⟩
  · simp only [List.length_nil] at hk
    obtain rfl : k = 0 := by omega
    exact ⟨none, 0, none, 0, rfl, .inl ⟨rfl, rfl⟩, rfl, fun w' => by rw [run_slice_h w' 25 none _ 0 (by kernel_rfl) .i64 _ (by omega) (by omega), hs]; simp [sliced]⟩
  · refine ⟨some ⟨g, off, none⟩, cap, some ⟨g, off, none⟩, cap, rfl, ?_, rfl, fun w' => ?_⟩
    · refine .inr ⟨g, off, cap, cs, t, fr, by rw [List.length_take, Nat.min_eq_left hk], by rw [List.length_take]; omega, hg, ht, by omega, hmax, fun j hj => ?_⟩
      rw [List.length_take] at hj
      rw [hcell j (by omega)]
      simp [List.getD, show j < k by omega]
    · rw [run_slice_h w' 25 _ _ cap (by kernel_rfl) .i64 _ (by omega) (by omega), hs]
      have hadd : (⟨g, off, none⟩ : Addr).add 0 = ⟨g, off, none⟩ := by unfold Addr.add; split <;> simp_all
      simp [sliced, hadd]
/-- what a reader answers for a string -/
def rt2 (n : Int) : Option (List UInt8) → List UInt8 × Option (List UInt8)
  | none => ([], none)
  | some l => if (l.length : Int) < n then ([], none) else (l.take n.toNat, some (l.drop n.toNat))
def rtext (st : Option (List UInt8)) : List UInt8 × Option (List UInt8) := rt2 (btw 0 9223372036854775807 st).1 (btw 0 9223372036854775807 st).2
theorem btw_none {lo hi : Int} {st : Option (List UInt8)} (h : (btw lo hi st).2 = none) : (btw lo hi st).1 = 0 := by
  unfold btw at *
  split at h
  · rfl
  · split at h
    · rfl
    · split at h
      · simp_all
      · cases h
theorem btw_le {lo hi : Int} {st : Option (List UInt8)} : ((btw lo hi st).2.getD []).length ≤ (st.getD []).length := by
  unfold btw
  split
  · simp
  · split
    · simp
    · split
      · simp
      · simp
theorem btw_in {lo hi : Int} {st : Option (List UInt8)} {l : List UInt8} (h : (btw lo hi st).2 = some l) : lo ≤ (btw lo hi st).1 ∧ (btw lo hi st).1 ≤ hi := by
  unfold btw at *
  split at h
  · cases h
  · split at h
    · cases h
    · split at h
      · cases h
      · rename_i hh
        rw [if_neg hh]
        simp only
        omega
/-- a number that was written is read again -/
theorem btw_enc (n lo hi : Int) (r : List UInt8) (hn : Wm.inR n) : btw lo hi (some (Wm.enc n ++ r)) = if n < lo ∨ hi < n then (0, none) else (n, some r) := by
  have h := Wm.dec_enc n hn r
  simp only [btw, h]
  simp
/-- a string that was written is read again -/
theorem rtext_enc (l r : List UInt8) (hs : l.length ≤ 1000000000) : rtext (some (Wm.enc (l.length : Nat) ++ (l ++ r))) = (l, some r) := by
  have hb : btw 0 9223372036854775807 (some (Wm.enc (l.length : Nat) ++ (l ++ r))) = ((l.length : Int), some (l ++ r)) := by
    rw [btw_enc _ _ _ _ (by unfold Wm.inR; omega), if_neg (by omega)]
  unfold rtext
  rw [hb]
  simp only [rt2]
  rw [if_neg (by simp; omega)]
  simp
theorem Red.trans {b : Nat} {sv sv' : Value} {st' : Option (List UInt8)} {w w1 w2 : World} (hs : sv'.ownBlock = none ∨ sv'.ownBlock = sv.ownBlock) (ho : Only (fun k => k = b) w w1) (h : Red b sv' st' w1 w2) : Red b sv st' w w2 := by
  obtain ⟨sv2, h1, h2, h3⟩ := h
  refine ⟨sv2, h1, ?_, ho.trans h3⟩
  rcases h2 with e | e
  · exact .inl e
  · rw [e]; exact hs
set_option maxHeartbeats 1000000 in
theorem text_r (b : Nat) (sv : Value) (st : Option (List UInt8)) (w : World) (h : Rd b sv st w) (hl : (st.getD []).length ≤ 1000000000000) :
    Calls Tryd.prog 52 #[.pointer (some ⟨b, 0, none⟩)] w fun e w' => e = .returned (.string (bstr (rtext st).1)) ∧ Red b sv (rtext st).2 w w' := by
  have HR := Lib.hid h
  clear h
  go_enter Tryd.func52, Tryd.ntmps52
  go_wp2_with fail
  refine (count_r b sv st _ _ HR.out hl).mono ?_
  rintro e w1 ⟨rfl, sv1, hr1, hs1, ho1⟩
  have hl1 := Nat.le_trans (btw_le (lo := 0) (hi := 9223372036854775807) (st := st)) hl
  have hn0 := btw_none (lo := 0) (hi := 9223372036854775807) (st := st)
  have hin := fun l => btw_in (lo := 0) (hi := 9223372036854775807) (st := st) (l := l)
  generalize hq : btw 0 9223372036854775807 st = q at *
  obtain ⟨n, st1⟩ := q
  simp only at *
  have HRT : Hid (rtext st = rt2 n st1) := by
    show rtext st = _
    unfold rtext
    rw [hq]
  have HR1 := Lib.hid hr1
  clear hq hr1
  cases st1 with
  | none =>
    obtain rfl : n = 0 := hn0 rfl
    clear hn0 hin
    go_wp2_with fail
    refine (left_r b _ none _ HR1.out).mono ?_
    rintro e w2 ⟨rfl, rfl⟩
    simp only [Option.getD_none, List.length_nil]
    go_wp2_with fail
    refine (ok_r b _ none _ HR1.out).mono ?_
    rintro e w2 ⟨rfl, rfl⟩
    simp only [Option.isSome_none]
    go_wp2
    go_ret
    rw [HRT.out]
    exact ⟨rfl, sv1, HR1.out, hs1, ho1⟩
  | some l =>
    obtain ⟨hn1, hn2⟩ := hin l rfl
    clear hn0 hin
    simp only [Option.getD_some] at hl1
    obtain ⟨m, rfl⟩ : ∃ m : Nat, n = (m : Int) := ⟨n.toNat, by omega⟩
    by_cases hlt : l.length < m
    · have hd : decide (l.length < m) = true := by simpa using hlt
      go_wp2_with fail
      refine (left_r b _ _ _ HR1.out).mono ?_
      rintro e w2 ⟨rfl, rfl⟩
      simp only [Option.getD_some]
      go_wp2_with fail
      refine (fail_r b _ _ _ HR1.out).mono ?_
      rintro e w2 ⟨rfl, hr2⟩
      obtain ⟨sv2, hrd2, hs2, ho2⟩ := Red.trans hs1 ho1 hr2
      have HR2 := Lib.hid hrd2
      clear hrd2 hr2
      go_wp2_with fail
      refine (ok_r b _ none _ HR2.out).mono ?_
      rintro e w3 ⟨rfl, rfl⟩
      simp only [Option.isSome_none]
      go_wp2
      go_ret
      rw [HRT.out]
      simp only [rt2]
      rw [if_pos (by omega)]
      exact ⟨rfl, sv2, HR2.out, hs2, ho2⟩
    · have hd : decide (l.length < m) = false := by simpa using hlt
      go_wp2_with fail
      refine (left_r b _ _ _ HR1.out).mono ?_
      rintro e w2 ⟨rfl, rfl⟩
      simp only [Option.getD_some]
      go_wp2_with fail
      refine (ok_r b _ _ _ HR1.out).mono ?_
      rintro e w2 ⟨rfl, rfl⟩
      simp only [Option.isSome_some]
      have hc0 := HR1.out.cell0
      have hf0 := HR1.out.frozen 0
      obtain ⟨a, c, a2, c2, hsv, hbyt, hown, hrun⟩ := HR1.out.byt.from_ m (by simpa using hlt)
      obtain ⟨a', c', a3, c3, hsv3, hbyt3, hown3, hrun3⟩ := HR1.out.byt.upto m (by simpa using hlt)
      simp only [Option.getD_some] at hsv hbyt hown hrun hsv3 hbyt3 hown3 hrun3
      subst hsv
      simp only [Value.slice.injEq, true_and] at hsv3
      obtain ⟨rfl, rfl⟩ := hsv3
      have hstr := hbyt3.str
      have HBY := Lib.hid hbyt
      have HOW := Lib.hid hown
      clear hbyt hown hbyt3 hown3
      go_wp2
      go_ret
      rw [HRT.out]
      simp only [rt2]
      rw [if_neg (by omega)]
      refine ⟨by simp, Red.trans hs1 ho1 ⟨_, ⟨setCell_blk HR1.out.blk _, ?_⟩, .inr HOW.out, ?_⟩⟩
      · exact HBY.out.keep (p := fun k => k = b) ((Only.refl (fun k => k = b) _).setCell (q := ⟨b, 0, none⟩) (.inl rfl) _) (fun g hg e => HR1.out.ne (HOW.out.symm.trans (by rw [← e]; exact hg)))
      · exact (Only.refl (fun k => k = b) _).setCell (q := ⟨b, 0, none⟩) (.inl rfl) _
end Go.Proofs.YtmipomglbccjbaaDoor
