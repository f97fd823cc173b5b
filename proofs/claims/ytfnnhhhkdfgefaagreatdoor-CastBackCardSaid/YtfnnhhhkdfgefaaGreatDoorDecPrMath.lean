/- The text of a decimal is read again as that decimal, in plain words. -/
import Derived.Test.YtfnnhhhkdfgefaaGreatDoorDecPm
namespace Go.Proofs.YtfnnhhhkdfgefaaGreatDoor

theorem digit_ok (d : Nat) (h : d < 10) : Pm.isD (UInt8.ofNat (48 + d)) = true ∧ (UInt8.ofNat (48 + d)).toNat - 48 = d ∧ (UInt8.ofNat (48 + d) = 48 ↔ d = 0) := by
  have : ∀ d : Fin 10, Pm.isD (UInt8.ofNat (48 + d.val)) = true ∧ (UInt8.ofNat (48 + d.val)).toNat - 48 = d.val ∧ (UInt8.ofNat (48 + d.val) = 48 ↔ d.val = 0) := by decide +kernel
  exact this ⟨d, h⟩
theorem dec_all : ∀ u : Nat, Pm.allD (Lib.decDigits u) = true ∧ Pm.val (Lib.decDigits u) = u ∧ (1 ≤ u → (Lib.decDigits u).head? ≠ some 48) ∧ (u < 10 → (Lib.decDigits u).length = 1) ∧ Lib.decDigits u ≠ [] := by
  intro u
  induction u using Nat.strongRecOn with
  | _ u ih =>
    rw [Lib.decDigits]
    by_cases h : u < 10
    · rw [dif_pos h]
      obtain ⟨d1, d2, d3⟩ := digit_ok u h
      generalize UInt8.ofNat (48 + u) = c at *
      refine ⟨by simp [Pm.allD, d1], by simp [Pm.val, Pm.valA, d2], fun h1 e => ?_, fun _ => rfl, by simp⟩
      simp at e
      have := d3.1 e
      omega
    · rw [dif_neg h]
      obtain ⟨i1, i2, i3, i4, i5⟩ := ih (u / 10) (by omega)
      obtain ⟨d1, d2, _⟩ := digit_ok (u % 10) (by omega)
      refine ⟨by rw [allD_snoc, i1, d1]; rfl, by rw [Pm.val_snoc, i2, d2]; omega, fun _ => ?_, fun h' => absurd h' h, by simp⟩
      obtain ⟨c, r, hc⟩ := List.exists_cons_of_ne_nil i5
      rw [hc] at i3 ⊢
      simpa using i3 (by omega)
theorem valA_zeros : ∀ (c : Nat) (l : List UInt8), Pm.valA 0 (List.replicate c 48 ++ l) = Pm.valA 0 l := by
  intro c
  induction c with
  | zero => intro l; rfl
  | succ c ih => intro l; rw [List.replicate_succ, List.cons_append, Pm.valA_cons]; exact ih l
theorem pad_all (u k : Nat) : Pm.allD (padD u k) = true ∧ Pm.val (padD u k) = u ∧ k + 1 ≤ (padD u k).length ∧ (k + 1 < (padD u k).length → (padD u k).head? ≠ some 48) := by
  obtain ⟨h1, h2, h3, h4, h5⟩ := dec_all u
  have hl : 1 ≤ (Lib.decDigits u).length := by
    rcases Nat.eq_zero_or_pos (Lib.decDigits u).length with e | e
    · exact absurd (List.eq_nil_of_length_eq_zero e) h5
    · exact e
  unfold padD
  refine ⟨?_, ?_, ?_, ?_⟩
  · unfold Pm.allD at *
    rw [List.all_append, h1, Bool.and_true, List.all_eq_true]
    intro x hx
    rw [List.eq_of_mem_replicate hx]; decide
  · unfold Pm.val; rw [valA_zeros]; exact h2
  · rw [List.length_append, List.length_replicate]; omega
  · rw [List.length_append, List.length_replicate]
    intro hlt
    rw [show k + 1 - (Lib.decDigits u).length = 0 by omega, List.replicate_zero, List.nil_append]
    refine h3 ?_
    rcases Nat.eq_zero_or_pos u with e | e
    · subst e; have := h4 (by omega); omega
    · exact e
theorem no_point {l : List UInt8} (h : Pm.allD l = true) : (46 : UInt8) ∉ l := by
  intro hm
  unfold Pm.allD at h
  rw [List.all_eq_true] at h
  have := h 46 hm
  rw [Pm.isD_46] at this; cases this
theorem allD_part (l : List UInt8) (q : Nat) (h : Pm.allD l = true) : Pm.allD (l.take q) = true ∧ Pm.allD (l.drop q) = true := by
  have e := List.take_append_drop q l
  rw [← e] at h
  unfold Pm.allD at *
  rw [List.all_append, Bool.and_eq_true] at h
  exact h
theorem head_digit {l : List UInt8} (h : Pm.allD l = true) : l.head? ≠ some 45 := by
  cases l with
  | nil => simp
  | cons c r =>
    intro e
    simp at e
    subst e
    simp [Pm.allD, Pm.isD] at h
/-- going through the digits with the point -/
theorem scan_dot (u k : Nat) (hk : k ≤ 6) (neg : Bool) (hr : Pm.inR neg u = true) (hz : ¬ (neg = true ∧ u = 0)) :
    ∃ D o, Pm.scan [] none (dotD u k) = some (D, o) ∧ Pm.fin neg D o = (Pm.sgn neg u, (k : Int), true) ∧ (dotD u k).head? ≠ some 45 ∧ dotD u k ≠ [] := by
  obtain ⟨p1, p2, p3, p4⟩ := pad_all u k
  unfold dotD
  by_cases hk0 : k = 0
  · subst hk0
    rw [if_pos rfl]
    refine ⟨padD u 0, none, ?_, ?_, head_digit p1, fun e => by rw [e] at p3; simp at p3⟩
    · rw [Pm.scan_miss _ (no_point p1), if_pos p1]
    · unfold Pm.fin
      rw [if_neg (by decide), if_neg (by rintro (e | ⟨e1, e2⟩); omega; exact p4 (by omega) e2)]
      simp only [Option.getD_none, List.append_nil, p2]
      rw [if_pos ⟨hr, hz⟩]; rfl
  · rw [if_neg hk0]
    obtain ⟨q, hq⟩ : ∃ q, q = (padD u k).length - k := ⟨_, rfl⟩
    rw [← hq]
    obtain ⟨t1, t2⟩ := allD_part (padD u k) q p1
    have hlw : ((padD u k).take q).length = q := by rw [List.length_take]; omega
    have hlf : ((padD u k).drop q).length = k := by rw [List.length_drop]; omega
    have hw0 : (padD u k).take q ≠ [] := fun e => by rw [e] at hlw; simp at hlw; omega
    have hhd : ((padD u k).take q).head? = (padD u k).head? := by
      rw [List.head?_take, if_neg (by omega)]
    have e : (padD u k).take q ++ [46] ++ (padD u k).drop q = (padD u k).take q ++ 46 :: (padD u k).drop q := by simp
    rw [e]
    refine ⟨(padD u k).take q, some ((padD u k).drop q), ?_, ?_, ?_, by simp⟩
    · rw [Pm.scan_hit _ _ (no_point t1), if_pos ⟨t1, hw0, t2⟩]
    · unfold Pm.fin
      rw [if_neg (by simp only [Bool.or_eq_true, decide_eq_true_eq]; omega), if_neg (by rw [hhd, hlw]; rintro (e | ⟨e1, e2⟩); omega; exact p4 (by omega) e2)]
      simp only [Option.getD_some, List.take_append_drop, p2, hlf]
      rw [if_pos ⟨hr, hz⟩]
    · rw [List.head?_append, hhd]
      have := head_digit p1
      cases hh : (padD u k).head? with
      | none => rw [← hhd, List.head?_eq_none_iff] at hh; exact absurd hh hw0
      | some c => rw [hh] at this; simpa using this
theorem print_back (n s : Int) (hn : i64 n) : Pm.parseM (printM n s) = if scB s then (n, s, true) else (0, 0, false) := by
  cases hs : scB s
  · have e : printM n s = [] := by unfold printM; rw [hs]; rfl
    rw [e]; rfl
  · obtain ⟨h1, h2⟩ := scB_true hs
    obtain ⟨k, rfl⟩ : ∃ k : Nat, s = (k : Int) := ⟨s.toNat, by omega⟩
    obtain ⟨a1, a2⟩ := hn
    rw [if_pos rfl]
    unfold printM
    rw [hs, if_pos rfl, Int.toNat_natCast]
    by_cases hneg : n < 0
    · obtain ⟨D, o, e1, e2, e3, e4⟩ := scan_dot n.natAbs k (by omega) true (by simp [Pm.inR]; omega) (fun h => by omega)
      rw [if_pos hneg]
      unfold Pm.parseM
      simp only [List.head?_cons, if_true, List.drop_succ_cons, List.drop_zero, decide_true]
      rw [e1]
      show Pm.fin true D o = _
      rw [e2]
      simp [Pm.sgn]; omega
    · obtain ⟨D, o, e1, e2, e3, e4⟩ := scan_dot n.natAbs k (by omega) false (by simp [Pm.inR]; omega) (fun h => by cases h.1)
      rw [if_neg hneg]
      unfold Pm.parseM
      rw [if_neg e3, e1, decide_eq_false e3]
      show Pm.fin false D o = _
      rw [e2]
      simp [Pm.sgn]; omega
theorem print_len (n s : Int) (hn : i64 n) : (printM n s).length ≤ 100 := by
  unfold printM
  cases hs : scB s
  · simp
  · obtain ⟨h1, h2⟩ := scB_true hs
    have hd := nd_len n.natAbs (natAbs_lt n hn)
    have hp : (padD n.natAbs s.toNat).length ≤ 30 := by unfold padD; rw [List.length_append, List.length_replicate]; omega
    have hdot : (dotD n.natAbs s.toNat).length ≤ 80 := by
      unfold dotD; split
      · omega
      · simp; omega
    rw [if_pos rfl]
    split
    · simp; omega
    · omega
end Go.Proofs.YtfnnhhhkdfgefaaGreatDoor
