/- KeysAbove walked, over the bundle of contracts. -/
import Derived.Test.YtamclbagafcmgaaDoorKeyW0
import Derived.Test.YtamclbagafcmgaaDoorValR5
import Derived.BigQuiet
import Derived.Deep.RegionHeld3
namespace Go.Proofs.YtamclbagafcmgaaDoor
open Go.RowKit

theorem Yt.take {a : Option Addr} {n c : Nat} {l : List UInt8} {w : World} (h : Yt (.slice a n c) l w) (k : Nat) (hk : k ≤ l.length) : Yt (.slice a k c) (l.take k) w := by
  have hl : (l.take k).length = k := by rw [List.length_take]; omega
  rcases h with ⟨b, d, e, rfl⟩ | ⟨g, off, cap, e, hc, hg, hcell⟩
  · injection e with e1 e2 e3
    have : k = 0 := by simpa using hk
    subst this
    exact .inl ⟨_, _, rfl, rfl⟩
  · injection e with e1 e2 e3
    subst e1; subst e3
    refine .inr ⟨g, off, c, by rw [hl], by omega, hg, fun j hj => ?_⟩
    rw [hcell j (by omega)]
    rw [hl] at hj
    simp [List.getD, hj, show j < l.length by omega]
theorem Yt.cap {a : Option Addr} {n c : Nat} {l : List UInt8} {w : World} (h : Yt (.slice a n c) l w) : n ≤ c := by
  rcases h with ⟨b, d, e, rfl⟩ | ⟨g, off, cap, e, hc, _⟩
  · injection e with e1 e2 e3; omega
  · injection e with e1 e2 e3; omega
/-- two slices of bytes as arguments -/
structure Ab (w : World) (b : Value) (lb : List UInt8) (r : Value) (lr : List UInt8) (w' : World) : Prop where
  b : Yt b lb w'
  r : Yt r lr w'
  env : EnvV w'
  bel : Below w.heap.size w w'
theorem Ab.keep {w w1 w2 : World} {b r : Value} {lb lr : List UInt8} (h : Ab w b lb r lr w1) (hb : Below w1.heap.size w1 w2) : Ab w b lb r lr w2 :=
  ⟨h.b.keep hb, h.r.keep hb, h.env.keep hb, h.bel.trans (hb.mono h.bel.size)⟩
/-- and what Above answered; each as a string -/
abbrev AbA (w : World) (b : Value) (lb : List UInt8) (r : Value) (lr : List UInt8) (a : Value) (la : List UInt8) (sb sr sa : ByteArray) (w' : World) : Prop :=
  (convert 25 9 a).run Tryd.prog w' = .ok (.string sa) w' ∧ (convert 25 9 b).run Tryd.prog w' = .ok (.string sb) w' ∧ (convert 25 9 r).run Tryd.prog w' = .ok (.string sr) w' ∧
  Hid (Ab w b lb r lr w' ∧ Yt a la w' ∧ sb = bstr lb ∧ sr = bstr lr ∧ sa = bstr la)
theorem AbA.of {w W : World} {b r a : Value} {lb lr la : List UInt8} {sb sr sa : ByteArray} (h : Ab w b lb r lr W) (ha : Yt a la W) (h1 : sb = bstr lb) (h2 : sr = bstr lr) (h3 : sa = bstr la) : AbA w b lb r lr a la sb sr sa W :=
  ⟨by rw [h3]; exact ha.str, by rw [h1]; exact h.b.str, by rw [h2]; exact h.r.str, h, ha, h1, h2, h3⟩
theorem AbA.ab {w W : World} {b r a : Value} {lb lr la : List UInt8} {sb sr sa : ByteArray} (h : AbA w b lb r lr a la sb sr sa W) : Ab w b lb r lr W := h.2.2.2.1
theorem AbA.ya {w W : World} {b r a : Value} {lb lr la : List UInt8} {sb sr sa : ByteArray} (h : AbA w b lb r lr a la sb sr sa W) : Yt a la W := h.2.2.2.2.1
theorem AbA.keep {w w1 w2 : World} {b r a : Value} {lb lr la : List UInt8} {sb sr sa : ByteArray} (h : AbA w b lb r lr a la sb sr sa w1) (hb : Below w1.heap.size w1 w2) : AbA w b lb r lr a la sb sr sa w2 :=
  AbA.of (h.ab.keep hb) (h.ya.keep hb) h.2.2.2.2.2.1 h.2.2.2.2.2.2.1 h.2.2.2.2.2.2.2

set_option maxRecDepth 100000 in
set_option maxHeartbeats 4000000 in
theorem walk_above (V : KeyCon) (ba ra : Option Addr) (nb nr cb cr : Nat) (lb lr : List UInt8) (w : World) (he : EnvV w) (hb : Yt (.slice ba nb cb) lb w) (hr : Yt (.slice ra nr cr) lr w) (hmb : nb ≤ maxLen) (hmr : nr ≤ maxLen) :
    Calls Tryd.prog 6 #[.slice ba nb cb, .slice ra nr cr] w (Says true w) := by
  have hnb : nb = lb.length := by obtain ⟨_, _, e⟩ := hb.form; injection e
  have hnr : nr = lr.length := by obtain ⟨_, _, e⟩ := hr.form; injection e
  have b1 : nb ≤ lb.length := by omega
  have b2 : lb.length ≤ nb := by omega
  have r1 : nr ≤ lr.length := by omega
  have r2 : lr.length ≤ nr := by omega
  have X0 : Hid (Ab w (.slice ba nb cb) lb (.slice ra nr cr) lr w) := ⟨hb, hr, he, Below.refl _ _⟩
  unfold maxLen at hmb hmr
  clear hnb hnr hb hr he
  by_cases hbig : 300 < nb ∨ 300 < nr
  · have hd : (decide ((300 : Int) < (nb : Int)) = true) ∨ (decide ((300 : Int) < (nb : Int)) = false ∧ decide ((300 : Int) < (nr : Int)) = true) := by
      by_cases h : 300 < nb
      · left; simp; omega
      · right; exact ⟨by simp; omega, by simp; omega⟩
    rcases hd with hd | ⟨hd, hd2⟩
    all_goals
      go_enter Tryd.func6, Tryd.ntmps6
      go_wp2_with fail
      refine (first5_true V _ X0.out.env).mono ?_
      rintro e w1 ⟨rfl, hb⟩
      have X1 := Lib.hid (X0.out.keep hb)
      clear hb X0
      go_wp2
      go_ret
      exact Says.mk rfl X1.out.bel
  have c1 : (nb : Int) ≤ 300 := by omega
  have c2 : (nr : Int) ≤ 300 := by omega
  have hAR : Hid (∀ W, Calls Tryd.prog 22 #[.string (bstr lb)] W fun e w' => e = .returned (.string (bstr (Vm.above lb))) ∧ Below W.heap.size W w') := by
    intro W
    exact ref5_above (bstr lb) W (by rw [bstr_size]; omega)
  have HLT := Lib.hid (Vm.above_lt lb lr)
  have HLE := Lib.hid (Vm.above_least lb lr)
  have HAL : Hid ((Vm.above lb).length ≤ 300) := by
    show (Vm.above lb).length ≤ 300
    have := Vm.above_len lb
    omega
  clear hbig
  go_enter Tryd.func6, Tryd.ntmps6
  go_wp2_with fail
  refine (first5_true V _ X0.out.env).mono ?_
  rintro e w1 ⟨rfl, hb⟩
  have X1 := Lib.hid (X0.out.keep hb)
  clear hb X0
  go_wp2_with fail
  refine (V.above _ _ _ lb _ X1.out.env X1.out.b (by omega)).mono ?_
  rintro e w2 ⟨a, m, cap, rfl, hm, hy, hb⟩
  have hm1 : m ≤ (Vm.above lb).length := by omega
  have hm2 : (Vm.above lb).length ≤ m := by omega
  have hX := X1.out.keep hb
  clear hb X1 hm
  obtain ⟨la, hla⟩ : ∃ la, la = Vm.above lb := ⟨_, rfl⟩
  rw [← hla] at hm1 hm2 hy hAR HLT HLE HAL
  clear hla
  obtain ⟨sb, hsb⟩ : ∃ sb, sb = bstr lb := ⟨_, rfl⟩
  obtain ⟨sr, hsr⟩ : ∃ sr, sr = bstr lr := ⟨_, rfl⟩
  obtain ⟨sa, hsa⟩ : ∃ sa, sa = bstr la := ⟨_, rfl⟩
  rw [← hsa, ← hsb] at hAR
  have X2 := Lib.hid (AbA.of hX hy hsb hsr hsa)
  have zb : sb.size ≤ 300 := by rw [hsb, bstr_size]; omega
  have zr : sr.size ≤ 300 := by rw [hsr, bstr_size]; omega
  have za : sa.size ≤ 300 := by rw [hsa, bstr_size]; exact HAL.out
  have HT1 : Hid (∀ W, Calls Tryd.prog 20 #[.string (sb ++ sr), .string sa] W (Num (Lib.compareBytes (lb ++ lr) la) W)) := by
    intro W
    have := ref3_texts (sb ++ sr) sa W (by rw [ByteArray.size_append]; unfold maxLen; omega) (by unfold maxLen; omega)
    rw [hsb, hsr, hsa, bstr_append] at this ⊢
    exact this
  have HT2 : Hid (∀ W, Calls Tryd.prog 20 #[.string sr, .string sb] W (Num (Lib.compareBytes lr lb) W)) := by
    intro W
    have := ref3_texts sr sb W (by unfold maxLen; omega) (by unfold maxLen; omega)
    rw [hsb, hsr] at this ⊢
    exact this
  have HT3 : Hid (∀ W, Calls Tryd.prog 20 #[.string sr, .string sa] W (Num (Lib.compareBytes lr la) W)) := by
    intro W
    have := ref3_texts sr sa W (by unfold maxLen; omega) (by unfold maxLen; omega)
    rw [hsr, hsa] at this ⊢
    exact this
  have zs : (sb ++ sr).size ≤ 600 := by rw [ByteArray.size_append]; omega
  have HS := Lib.hid (show sb = bstr lb ∧ sr = bstr lr from ⟨hsb, hsr⟩)
  clear hX hy hsb hsr hsa
  go_upto_region 6 with (fail)
  have S0 := Lib.hid (X2.out.keep (bdr _))
  have hq : (sa.toList == sa.toList) = true := by simp
  go_region_held3 (fun w' => (convert 25 9 (.slice a m cap)).run Tryd.prog w' = .ok (.string sa) w' ∧ (convert 25 9 (.slice ba nb cb)).run Tryd.prog w' = .ok (.string sb) w' ∧ (convert 25 9 (.slice ra nr cr)).run Tryd.prog w' = .ok (.string sr) w' ∧
    Hid (Ab w (.slice ba nb cb) lb (.slice ra nr cr) lr w' ∧ Yt (.slice a m cap) la w' ∧ sb = bstr lb ∧ sr = bstr lr ∧ sa = bstr la)) (first | exact S0.out | exact AbA.keep (by assumption) hb) (first | (go_at_call 22; refine (hAR.out _).mono ?_; rintro e w4 ⟨rfl, hb⟩))
  all_goals
    rename_i hHeld
    have X4 := Lib.hid hHeld
    clear hHeld S0 X2 hAR
    by_cases hm0 : m = 0
    · subst hm0
      go_wp2
      go_ret
      exact Says.mk rfl (AbA.ab X4.out).bel
    have q0 : ((m : Int) == 0) = false := by rw [beq_eq_false_iff_ne]; omega
    have hne : la ≠ [] := by intro e; subst e; simp at hm1; omega
    have hlt := HLT.out hne
    have hle := HLE.out hne
    have k1 := X4.out.1; have k2 := X4.out.2.1; have k3 := X4.out.2.2.1
    clear hne HLT HLE hm0
    have hcr := (AbA.ab X4.out).r.cap
    have hkt := fun h n => (((AbA.ab X4.out).r.take nb h).keep (below_n (Below.refl _ w4) n)).str
    have hpre : lb <+: lr ↔ nb ≤ nr ∧ lr.take nb = lb := by
      constructor
      · intro h
        have h1 := h.length_le
        refine ⟨by omega, ?_⟩
        have h2 := List.prefix_iff_eq_take.1 h
        rw [show nb = lb.length by omega]; exact h2.symm
      · rintro ⟨_, h⟩
        rw [← h]; exact List.take_prefix _ _
    revert hlt hle HT1 HT2 HT3
    generalize Lib.compareBytes (lb ++ lr) la = x1
    generalize Lib.compareBytes lr lb = x2
    generalize Lib.compareBytes lr la = x3
    intro HT1 HT2 HT3 hlt hle
    have d1 : decide (x1 < 0) = true := by simpa using hlt
    clear hlt
    by_cases hge : nb ≤ nr
    · obtain ⟨st, hst⟩ : ∃ st, st = bstr (lr.take nb) := ⟨_, rfl⟩
      have kt := hkt (by omega)
      simp only [← hst] at kt
      have kb := fun n => ((AbA.ab X4.out).b.keep (below_n (Below.refl _ w4) n)).str
      simp only [← HS.out.1] at kb
      obtain ⟨bg, hbg⟩ : ∃ bg, bg = (st.toList == sb.toList) := ⟨_, rfl⟩
      have HBG : Hid (bg = false → 0 ≤ x2 → 0 ≤ x3) := by
        intro h1 h2
        by_cases h3 : x3 < 0
        · exfalso
          have h4 := (hpre.1 (hle h2 h3)).2
          rw [hbg, hst, h4, HS.out.1] at h1
          simp at h1
        · omega
      have e1 : (st.toList == sb.toList) = bg := hbg.symm
      have i1 : (nb : Int) ≤ (nr : Int) := by omega
      have i2 : (nb : Int) ≤ (cr : Int) := by omega
      have n1 : decide (nb ≤ nr) = true := by simpa using hge
      have n2 : decide ((nb : Int) ≤ (nr : Int)) = true := by simpa using hge
      clear hpre hle hst hbg hkt hge
      go_wp2_with fail
      go_quiet (fail)
      have X4q := Lib.hid (AbA.keep X4.out (below_n (Below.refl _ _) nq))
      clear X4 k1 k2 k3 kt kb
      have k1 := X4q.out.1; have k2 := X4q.out.2.1; have k3 := X4q.out.2.2.1
      cases bg
      · go_wp2_with fail
        refine (HT1.out _).mono ?_
        rintro e w5 ⟨rfl, hb⟩
        have X5 := Lib.hid (AbA.keep X4q.out hb)
        clear hb X4q HT1 k1 k2 k3
        have k1 := X5.out.1; have k2 := X5.out.2.1; have k3 := X5.out.2.2.1
        go_wp2_with fail
        refine (HT2.out _).mono ?_
        rintro e w6 ⟨rfl, hb⟩
        have X6 := Lib.hid (AbA.keep X5.out hb)
        clear hb X5 HT2 k1 k2 k3
        have k1 := X6.out.1; have k2 := X6.out.2.1; have k3 := X6.out.2.2.1
        by_cases hx2 : x2 < 0
        · have d2 : decide (x2 < 0) = true := by simpa using hx2
          clear hx2
          go_wp2
          go_ret
          exact Says.mk (by first | rfl | simp) (AbA.ab X6.out).bel
        have d2 : decide (x2 < 0) = false := by simpa using hx2
        have hx3 := HBG.out (by trivial) (by omega)
        clear hx2
        go_wp2_with fail
        refine (HT3.out _).mono ?_
        rintro e w7 ⟨rfl, hb⟩
        have X7 := Lib.hid (AbA.keep X6.out hb)
        clear hb X6 HT3 k1 k2 k3
        have d3 : decide ((0 : Int) ≤ x3) = true := by simpa using hx3
        go_wp2
        go_ret
        exact Says.mk (by first | rfl | simp) (AbA.ab X7.out).bel
      · go_wp2_with fail
        refine (HT1.out _).mono ?_
        rintro e w5 ⟨rfl, hb⟩
        have X5 := Lib.hid (AbA.keep X4q.out hb)
        clear hb X4q HT1 k1 k2 k3
        have k1 := X5.out.1; have k2 := X5.out.2.1; have k3 := X5.out.2.2.1
        go_wp2
        go_ret
        exact Says.mk (by first | rfl | simp) (AbA.ab X5.out).bel
    · have HBG : Hid ((false : Bool) = false → 0 ≤ x2 → 0 ≤ x3) := by
        intro _ h2
        by_cases h3 : x3 < 0
        · exact absurd (hpre.1 (hle h2 h3)).1 hge
        · omega
      have n1 : decide (nb ≤ nr) = false := by simpa using hge
      have n2 : decide ((nb : Int) ≤ (nr : Int)) = false := by simp; omega
      clear hpre hle hkt hge
      go_wp2_with fail
      go_quiet (fail)
      have X4q := Lib.hid (AbA.keep X4.out (below_n (Below.refl _ _) nq))
      clear X4 k1 k2 k3
      have k1 := X4q.out.1; have k2 := X4q.out.2.1; have k3 := X4q.out.2.2.1
      go_wp2_with fail
      refine (HT1.out _).mono ?_
      rintro e w5 ⟨rfl, hb⟩
      have X5 := Lib.hid (AbA.keep X4q.out hb)
      clear hb X4q HT1 k1 k2 k3
      have k1 := X5.out.1; have k2 := X5.out.2.1; have k3 := X5.out.2.2.1
      go_wp2_with fail
      refine (HT2.out _).mono ?_
      rintro e w6 ⟨rfl, hb⟩
      have X6 := Lib.hid (AbA.keep X5.out hb)
      clear hb X5 HT2 k1 k2 k3
      have k1 := X6.out.1; have k2 := X6.out.2.1; have k3 := X6.out.2.2.1
      by_cases hx2 : x2 < 0
      · have d2 : decide (x2 < 0) = true := by simpa using hx2
        clear hx2
        go_wp2
        go_ret
        exact Says.mk (by first | rfl | simp) (AbA.ab X6.out).bel
      have d2 : decide (x2 < 0) = false := by simpa using hx2
      have hx3 := HBG.out (by trivial) (by omega)
      clear hx2
      go_wp2_with fail
      refine (HT3.out _).mono ?_
      rintro e w7 ⟨rfl, hb⟩
      have X7 := Lib.hid (AbA.keep X6.out hb)
      clear hb X6 HT3 k1 k2 k3
      have d3 : decide ((0 : Int) ≤ x3) = true := by simpa using hx3
      go_wp2
      go_ret
      exact Says.mk (by first | rfl | simp) (AbA.ab X7.out).bel
end Go.Proofs.YtamclbagafcmgaaDoor
