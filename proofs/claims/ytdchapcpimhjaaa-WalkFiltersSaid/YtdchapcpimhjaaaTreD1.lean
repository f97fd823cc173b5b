/- Package tree: the tree's object; top, Len, New, Copy, Put. -/
import Derived.Test.YtdchapcpimhjaaaTreC10
namespace Go.Proofs.Ytdchapcpimhjaaa
open Go.RowKit

/-- A TREE: its object in block t (one of those that are written), its nodes apart from ex -/
structure Tr (ex : Nat → Prop) (t : Nat) (r : Tm.Rt) (W : World) : Prop where
  ok : Tm.RWf r
  mu : ex t
  no : r = none → W.heap[t]? = some (.cells #[.pointer none] 84 (0, 0))
  yes : ∀ x, r = some x → ∃ p, W.heap[t]? = some (.cells #[.pointer (some ⟨p, 0, none⟩)] 84 (0, 0)) ∧ Tn ex x.1 p x.2 W
theorem Tr.lt {ex : Nat → Prop} {t : Nat} {r : Tm.Rt} {W : World} (h : Tr ex t r W) : t < W.heap.size := by
  cases r with
  | none => exact heap_lt (h.no rfl)
  | some x => obtain ⟨p, hp, _⟩ := h.yes x rfl; exact heap_lt hp
theorem Tr.keep {ex : Nat → Prop} {t : Nat} {r : Tm.Rt} {W W' : World} (h : Tr ex t r W) (ho : Only ex W W') (ht : W'.heap[t]? = W.heap[t]?) : Tr ex t r W' :=
  ⟨h.ok, h.mu, fun e => by rw [ht]; exact h.no e, fun x e => by obtain ⟨p, hp, hT⟩ := h.yes x e; exact ⟨p, by rw [ht]; exact hp, hT.keep ho⟩⟩
theorem Tr.below {ex : Nat → Prop} {t : Nat} {r : Tm.Rt} {W W' : World} (h : Tr ex t r W) (hb : Below W.heap.size W W') : Tr ex t r W' := h.keep (only_of8 hb) (hb.block _ h.lt)
theorem Tr.mono {ex ex' : Nat → Prop} {t : Nat} {r : Tm.Rt} {W : World} (h : Tr ex t r W) (hx : ∀ k, k < W.heap.size → ex' k → ex k) (ht : ex' t) : Tr ex' t r W :=
  ⟨h.ok, ht, h.no, fun x e => by obtain ⟨p, hp, hT⟩ := h.yes x e; exact ⟨p, hp, hT.mono hx⟩⟩
/-- what top answers from W on -/
def Tp (ex : Nat → Prop) (v : Value) (h : Nat) (t : Tm.T) (W : World) : Prop := ∀ W', Below W.heap.size W W' → Calls Try.prog 42 #[v] W' fun e w' => ∃ p, e = .returned (.pointer (some ⟨p, 0, none⟩)) ∧ Hid (Tn ex h p t w') ∧ Below W'.heap.size W' w'
theorem Tp.below {ex : Nat → Prop} {v : Value} {h : Nat} {t : Tm.T} {W W' : World} (hp : Tp ex v h t W) (hb : Below W.heap.size W W') : Tp ex v h t W' := fun w hb' => hp w (hb.trans (hb'.mono hb.size))
theorem tn_empty {ex : Nat → Prop} (W : World) (hx : ¬ ex W.heap.size) : Tn ex 0 W.heap.size (.leaf []) (W.alloc (.cells #[.slice none 0 0, .slice none 0 0, .slice none 0 0, .int .i64 0] 90)) :=
  ⟨[], rfl, hx, none, 0, none, 0, none, 0, heap_alloc_new W _, Rv.nil _ _ _ _, Rv.nil _ _ _ _, ⟨by omega, by omega, by omega⟩, .inl ⟨rfl, rfl, rfl⟩, .inl ⟨rfl, rfl, rfl⟩⟩
theorem tre_top_nil {ex : Nat → Prop} {W : World} (hex : ∀ k, W.heap.size ≤ k → ¬ ex k) : Tp ex (.pointer none) 0 (.leaf []) W := fun W' hb => by
  have HE := Lib.hid (tn_empty (ex := ex) W' (hex _ hb.size))
  have HB := Lib.hid (one_b8 W' (.cells #[.slice none 0 0, .slice none 0 0, .slice none 0 0, .int .i64 0] 90))
  clear hb hex
  go_enter Try.func42, Try.ntmps42
  go_wp2
  go_ret
  exact ⟨_, rfl, HE, HB.out⟩
theorem tre_top {ex : Nat → Prop} {t : Nat} {r : Tm.Rt} {W : World} (h : Tr ex t r W) (hex : ∀ k, W.heap.size ≤ k → ¬ ex k) : Tp ex (.pointer (some ⟨t, 0, none⟩)) (Tm.top r).1 (Tm.top r).2 W := fun W' hb => by
  have h' := h.below hb
  cases r with
  | none =>
    have c0 : W'.cell? ⟨t, 0, none⟩ = some (.pointer none) := by rw [Lib.cell_of_heap (h'.no rfl)]; rfl
    have HE := Lib.hid (tn_empty (ex := ex) W' (hex _ hb.size))
    have HB := Lib.hid (one_b8 W' (.cells #[.slice none 0 0, .slice none 0 0, .slice none 0 0, .int .i64 0] 90))
    clear hb hex h h'
    go_enter Try.func42, Try.ntmps42
    go_wp2
    go_ret
    exact ⟨_, rfl, HE, HB.out⟩
  | some x =>
    obtain ⟨p, hp, hT⟩ := h'.yes x rfl
    have c0 : W'.cell? ⟨t, 0, none⟩ = some (.pointer (some ⟨p, 0, none⟩)) := by rw [Lib.cell_of_heap hp]; rfl
    have HT := Lib.hid hT
    clear hb hex h h' hT hp
    go_enter Try.func42, Try.ntmps42
    go_wp2
    go_ret
    exact ⟨_, rfl, HT, Below.refl _ _⟩
theorem Tn.size {ex : Nat → Prop} {h p : Nat} {t : Tm.T} {W : World} (ht : Tn ex h p t W) : W.cell? ⟨p, 3, none⟩ = some (.int .i64 ((Tm.flat h t).length : Int)) := by
  obtain ⟨ka, kc, va, vn, vc, ba, bn, bc, hn, _⟩ := ht.node
  rw [Lib.cell_of_heap hn]; rfl
theorem tre_len {ex : Nat → Prop} {v : Value} {h : Nat} {t : Tm.T} {W : World} (hp : Tp ex v h t W) :
    Calls Try.prog 57 #[v] W fun e w' => e = .returned (.int .i64 ((Tm.flat h t).length : Int)) ∧ Below W.heap.size W w' := by
  have HP := Lib.hid (hp W (Below.refl _ W))
  clear hp
  go_enter Try.func57, Try.ntmps57
  go_wp2_with fail
  refine HP.out.mono ?_
  rintro e w1 ⟨p, rfl, hT, hb⟩
  have hs := hT.out.size
  have HB := Lib.hid hb
  clear hb hT
  go_wp2
  go_ret
  exact ⟨rfl, HB.out⟩
theorem tre_new {W : World} : Calls Try.prog 34 #[] W fun e w' => e = .returned (.pointer (some ⟨W.heap.size, 0, none⟩)) ∧ w' = W.alloc (.cells #[.pointer none] 84) := by
  go_enter Try.func34, Try.ntmps34
  go_wp2
  go_ret
  exact ⟨rfl, rfl⟩
/-- ex and one block more -/
def exs (ex : Nat → Prop) (t : Nat) : Nat → Prop := fun k => ex k ∨ k = t
theorem exs_old {ex : Nat → Prop} {n t2 : Nat} (h2 : n ≤ t2) : ∀ k, k < n → exs ex t2 k → ex k := fun k hk e => by
  rcases e with e | e
  · exact e
  · omega
theorem Tr.more {ex : Nat → Prop} {t : Nat} {r : Tm.Rt} {W : World} (h : Tr ex t r W) {t2 : Nat} (h2 : W.heap.size ≤ t2) : Tr (exs ex t2) t r W :=
  h.mono (exs_old h2) (.inl h.mu)
theorem Tr.new {ex : Nat → Prop} (W : World) : Tr (exs ex W.heap.size) W.heap.size none (W.alloc (.cells #[.pointer none] 84)) :=
  ⟨Tm.rwf_none, .inr rfl, fun _ => heap_alloc_new W _, fun x e => by cases e⟩
theorem tre_copy {ex : Nat → Prop} {t : Nat} {r : Tm.Rt} {W : World} (h : Tr ex t r W) :
    Calls Try.prog 50 #[.pointer (some ⟨t, 0, none⟩)] W fun e w' => ∃ t2, e = .returned (.pointer (some ⟨t2, 0, none⟩)) ∧ W.heap.size ≤ t2 ∧ t2 < w'.heap.size ∧ Hid (Tr (exs ex t2) t2 r w') ∧ Below W.heap.size W w' := by
  cases r with
  | none =>
    have c0 : W.cell? ⟨t, 0, none⟩ = some (.pointer none) := by rw [Lib.cell_of_heap (h.no rfl)]; rfl
    have HE : Hid (Tr (exs ex W.heap.size) W.heap.size none (W.alloc (.cells #[.pointer none] 84)) ∧ Below W.heap.size W (W.alloc (.cells #[.pointer none] 84))) := ⟨Tr.new W, one_b8 W _⟩
    clear h
    go_enter Try.func50, Try.ntmps50
    go_wp2
    go_ret
    exact ⟨_, rfl, Nat.le_refl _, by simp, HE.out.1, HE.out.2⟩
  | some x =>
    obtain ⟨p, hp, hT⟩ := h.yes x rfl
    have c0 : W.cell? ⟨t, 0, none⟩ = some (.pointer (some ⟨p, 0, none⟩)) := by rw [Lib.cell_of_heap hp]; rfl
    have HE : Hid (Tr (exs ex W.heap.size) W.heap.size (some x) (W.alloc (.cells #[.pointer (some ⟨p, 0, none⟩)] 84)) ∧ Below W.heap.size W (W.alloc (.cells #[.pointer (some ⟨p, 0, none⟩)] 84))) :=
      ⟨⟨h.ok, .inr rfl, fun e => (by cases e), fun y e => by
        injection e with e
        subst e
        exact ⟨p, heap_alloc_new W _, (hT.mono (exs_old (Nat.le_refl _))).below (one_b8 W _)⟩⟩, one_b8 W _⟩
    clear h hT hp
    go_enter Try.func50, Try.ntmps50
    go_wp2
    go_ret
    exact ⟨_, rfl, Nat.le_refl _, by simp, HE.out.1, HE.out.2⟩
theorem rfl_put {r : Tm.Rt} (hr : Tm.RWf r) (k : Tm.K) (v : Int) : ((Tm.rfl_ (Tm.rput r k v)).length : Int) = (Tm.rfl_ r).length + (if Tm.has (Tm.rfl_ r) k = true then 0 else 1) := by
  rw [(Tm.rput_ok hr k v).2, Tm.ins_len _ _ _ hr.2]
  split <;> simp
theorem Tr.written {ex : Nat → Prop} {t z : Nat} {r : Tm.Rt} {x : Nat × Tm.T} {W : World} (h : Tr ex t r W) (hw : Tm.RWf (some x)) (hT : Tn ex x.1 z x.2 W) : Tr ex t (some x) (W.setCell ⟨t, 0, none⟩ (.pointer (some ⟨z, 0, none⟩))) ∧ Only (fun k => k = t) W (W.setCell ⟨t, 0, none⟩ (.pointer (some ⟨z, 0, none⟩))) := by
  have hs : (W.setCell ⟨t, 0, none⟩ (.pointer (some ⟨z, 0, none⟩))).heap.size = W.heap.size := by simp [World.setCell]
  have ho : Only (fun k => k = t) W (W.setCell ⟨t, 0, none⟩ (.pointer (some ⟨z, 0, none⟩))) := ⟨rfl, rfl, rfl, by omega, fun k _ hk => Below.heap_setCell _ _ _ _ hk⟩
  refine ⟨⟨hw, h.mu, fun e => (by cases e), fun y e => ?_⟩, ho⟩
  injection e with e
  subst e
  refine ⟨z, ?_, hT.keep ⟨ho.os, ho.tape, ho.output, ho.size, fun k hk hx => ho.block k hk (fun e => hx (by rw [e]; exact h.mu))⟩⟩
  have hl := h.lt
  have hc : ∃ v, W.heap[t]? = some (.cells #[v] 84 (0, 0)) := by
    cases r with
    | none => exact ⟨_, h.no rfl⟩
    | some x => obtain ⟨p, hp, _⟩ := h.yes x rfl; exact ⟨_, hp⟩
  obtain ⟨v, hv⟩ := hc
  simp [World.setCell, hl]
  rw [Array.getElem_modify, if_pos rfl, (Array.getElem?_eq_some_iff.1 hv).2]
  rfl
theorem only_mono8 {p p' : Nat → Prop} {w w' : World} (h : Only p w w') (hp : ∀ k, p k → p' k) : Only p' w w' := ⟨h.os, h.tape, h.output, h.size, fun k hk hx => h.block k hk (fun e => hx (hp k e))⟩
set_option maxHeartbeats 1000000 in
theorem tre_put {ex : Nat → Prop} {t : Nat} {r : Tm.Rt} {k : Tm.K} {v : Int} {W : World} (h : Tr ex t r W) (hs : (Tm.rfl_ r).length ≤ 300000) (hex : ∀ k, W.heap.size ≤ k → ¬ ex k) :
    Calls Try.prog 35 #[.pointer (some ⟨t, 0, none⟩), .string (bstr k), .int .i64 v] W fun e w' => e = .returned (.bool (!Tm.has (Tm.rfl_ r) k)) ∧ Tr ex t (Tm.rput r k v) w' ∧ Only (fun k => k = t) W w' := by
  have HP := Lib.hid (tre_top h hex)
  have hsz := rfl_put h.ok k v
  have hok := Tm.rput_ok h.ok k v
  obtain ⟨hw, ha⟩ := h.ok
  obtain ⟨ok1, ok2⟩ := Tm.wi_ok (Tm.top r).1 (Tm.lo_ (Tm.top r).1) (Tm.top r).2 k v (by unfold Tm.lo_; split <;> omega) hw ha
  have hex1 : ∀ W', Below W.heap.size W W' → ∀ k, W'.heap.size ≤ k → ¬ ex k := fun W' hb k hk => hex k (by have := hb.size; omega)
  have HWI : Hid (∀ w p, Below W.heap.size W w → Tn ex (Tm.top r).1 p (Tm.top r).2 w → Calls Try.prog 59 #[.pointer (some ⟨p, 0, none⟩), .string (bstr k), .int .i64 v] w fun e w' => ∃ a n c, e = .returned (.slice a n c) ∧ Hid (Hs ex (Tm.top r).1 (Tm.wi (Tm.top r).1 (Tm.top r).2 k v) a n c w') ∧ Below w.heap.size w w') := fun w p hb hT =>
    tre_with hT (by unfold Tm.lo_; split <;> omega) hw ha (by have : (Tm.flat (Tm.top r).1 (Tm.top r).2).length ≤ 300000 := hs; omega) (hex1 w hb)
  have HAB : Hid (∀ w a n c, Below W.heap.size W w → Hs ex (Tm.top r).1 (Tm.wi (Tm.top r).1 (Tm.top r).2 k v) a n c w → Calls Try.prog 58 #[.slice a n c] w fun e w' => ∃ z x, e = .returned (.pointer (some ⟨z, 0, none⟩)) ∧ Hid (Tm.rput r k v = some x ∧ Tn ex x.1 z x.2 w') ∧ Below w.heap.size w w') := fun w a n c hb hh => by
    have hn := hh.1
    have hfl : (Tm.flats (Tm.top r).1 (Tm.wi (Tm.top r).1 (Tm.top r).2 k v)).length ≤ 1000000 := by
      rw [ok1]
      show (Tm.ins (Tm.rfl_ r) k v).length ≤ _
      rw [Tm.ins_len _ _ _ ha]
      have : (Tm.flat (Tm.top r).1 (Tm.top r).2).length ≤ 300000 := hs
      split <;> omega
    rcases ok2 with ⟨a1, e1, wa⟩ | ⟨a1, b1, e1, wa, wb⟩
    · rw [e1] at hh hn hfl
      have := tre_above hh (by rw [hn]; simp) (by rw [hn]; simp) (fun e => by rw [hn] at e; simp at e) hfl (hex1 w hb)
      unfold Tm.rput
      rw [e1]
      exact this
    · rw [e1] at hh hn hfl
      have := tre_above hh (by rw [hn]; simp) (by rw [hn]; simp) (fun _ t ht => by
        rcases List.mem_cons.1 ht with rfl | ht
        · exact wa
        · rw [List.mem_singleton.1 ht]; exact wb) hfl (hex1 w hb)
      unfold Tm.rput
      rw [e1]
      exact this
  have HWR : Hid (∀ w z x, Below W.heap.size W w → Tm.rput r k v = some x → Tn ex x.1 z x.2 w → Tr ex t (Tm.rput r k v) (w.setCell ⟨t, 0, none⟩ (.pointer (some ⟨z, 0, none⟩))) ∧ Only (fun k => k = t) W (w.setCell ⟨t, 0, none⟩ (.pointer (some ⟨z, 0, none⟩))) ∧ (w.cell? ⟨t, 0, none⟩).isSome = true ∧ w.frozen? ⟨t, 0, none⟩ = false) := fun w z x hb e hT => by
    have h' := h.below hb
    obtain ⟨h1, h2⟩ := h'.written (x := x) (by rw [← e]; exact hok.1) hT
    rw [e]
    refine ⟨h1, (only_of8 hb).trans h2, ?_⟩
    cases r with
    | none => exact ⟨by rw [Lib.cell_of_heap (h'.no rfl)]; rfl, Lib.frozen_of_heap (h'.no rfl) 0⟩
    | some x => obtain ⟨p, hp, _⟩ := h'.yes x rfl; exact ⟨by rw [Lib.cell_of_heap hp]; rfl, Lib.frozen_of_heap hp 0⟩
  have HEX := Lib.hid hex
  obtain ⟨b, hb⟩ : ∃ b, b = Tm.has (Tm.rfl_ r) k := ⟨_, rfl⟩
  obtain ⟨L0, hL0⟩ : ∃ L0, L0 = (Tm.rfl_ r).length := ⟨_, rfl⟩
  obtain ⟨L1, hL1⟩ : ∃ L1 : Int, L1 = ((Tm.rfl_ (Tm.rput r k v)).length : Int) := ⟨_, rfl⟩
  rw [← hb, ← hL0, ← hL1] at hsz
  rw [← hb]
  have HLEN0 : Hid (Calls Try.prog 57 #[.pointer (some ⟨t, 0, none⟩)] W fun e w' => e = .returned (.int .i64 (L0 : Int)) ∧ Below W.heap.size W w') := by
    have := tre_len HP.out
    rw [show (Tm.flat (Tm.top r).1 (Tm.top r).2).length = L0 from hL0.symm] at this
    exact this
  have HLEN1 : Hid (∀ w, Tr ex t (Tm.rput r k v) w → (∀ k, w.heap.size ≤ k → ¬ ex k) → Calls Try.prog 57 #[.pointer (some ⟨t, 0, none⟩)] w fun e w' => e = .returned (.int .i64 L1) ∧ Below w.heap.size w w') := fun w hT hx => by
    have := tre_len (tre_top hT hx)
    rw [show ((Tm.flat (Tm.top (Tm.rput r k v)).1 (Tm.top (Tm.rput r k v)).2).length : Int) = L1 from hL1.symm] at this
    exact this
  have HSZ : Hid (L1 = L0 + if b = true then 0 else 1) := hsz
  clear h hw ha ok1 ok2 hex hex1 hok hb hL0 hL1 hsz hs
  generalize bstr k = S at *
  go_enter Try.func35, Try.ntmps35
  go_wp2_with fail
  refine HLEN0.out.mono ?_
  rintro e w1 ⟨rfl, hb1⟩
  have HB1 := Lib.hid hb1
  clear hb1
  go_wp2_with fail
  refine (HP.out w1 HB1.out).mono ?_
  rintro e w2 ⟨p, rfl, hT2, hb2⟩
  have HB2 := Lib.hid (HB1.out.trans (hb2.mono HB1.out.size))
  clear hb2
  go_wp2_with fail
  refine (HWI.out w2 _ HB2.out hT2.out).mono ?_
  rintro e w3 ⟨a, n, c, rfl, hh3, hb3⟩
  have HB3 := Lib.hid (HB2.out.trans (hb3.mono HB2.out.size))
  clear hb3
  go_wp2_with fail
  refine (HAB.out w3 _ _ _ HB3.out hh3.out).mono ?_
  rintro e w4 ⟨z, x, rfl, hx4, hb4⟩
  have HB4 := Lib.hid (HB3.out.trans (hb4.mono HB3.out.size))
  clear hb4
  obtain ⟨tr, on, hsome, hfz⟩ := HWR.out w4 z x HB4.out hx4.out.1 hx4.out.2
  obtain ⟨v0, hv0⟩ := Option.isSome_iff_exists.1 hsome
  have HTR := Lib.hid tr
  have HON := Lib.hid on
  clear tr on hsome
  go_wp2_with fail
  refine (HLEN1.out _ HTR.out (fun k hk => HEX.out k (by have := HON.out.size; omega))).mono ?_
  rintro e w5 ⟨rfl, hb5⟩
  have HF : Hid (Tr ex t (Tm.rput r k v) w5 ∧ Only (fun k => k = t) W w5) := ⟨HTR.out.below hb5, HON.out.trans (only_of8 hb5)⟩
  have HD : Hid (decide ((L0 : Int) < L1) = !b) := by
    have h := HSZ.out
    cases b with
    | true => exact decide_eq_false (by rw [if_pos rfl] at h; omega)
    | false => exact decide_eq_true (by rw [if_neg Bool.false_ne_true] at h; omega)
  clear hb5 hfz hv0 HSZ
  go_wp2
  go_ret
  exact ⟨congrArg (fun y => Ending.returned (.bool y)) HD.out, HF.out⟩
end Go.Proofs.Ytdchapcpimhjaaa
