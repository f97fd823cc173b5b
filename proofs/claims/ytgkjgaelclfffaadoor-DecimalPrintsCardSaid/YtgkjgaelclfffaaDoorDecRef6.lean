/- The reference of layer 2: Round on digits: the quotient, rounded to the nearest, ties up. -/
import Derived.Test.YtgkjgaelclfffaaDoorDecRef5
namespace Go.Proofs.YtgkjgaelclfffaaDoor
open Go.RowKit

/-- a quotient, rounded -/
def rnd (A B : Nat) : Nat := if B ≤ 2 * (A % B) then A / B + 1 else A / B

theorem round_step (P x B : Nat) (hB : 0 < B) (hx : x ≤ 9) :
    (P * 10 + x) % B = ((P % B) * 10 + x) % B ∧ (P * 10 + x) / B = (P / B) * 10 + ((P % B) * 10 + x) / B ∧ ((P % B) * 10 + x) / B ≤ 9 := by
  have h := Nat.div_add_mod P B
  have hm := Nat.mod_lt P hB
  have e : P * 10 + x = B * ((P / B) * 10) + ((P % B) * 10 + x) := by
    rw [← Nat.mul_assoc, ← Nat.add_assoc, ← Nat.add_mul, h]
  refine ⟨by rw [e, Nat.mul_add_mod], by rw [e, Nat.mul_add_div hB], ?_⟩
  have : ((P % B) * 10 + x) / B < 10 := by rw [Nat.div_lt_iff_lt_mul hB]; omega
  omega
theorem lowd_push (t Q d : Nat) (hd : d ≤ 9) : Dm.lowd (t + 1) (Q * 10 + d) = (d : Int) :: Dm.lowd t Q := by
  rw [Dm.lowd_cons]
  have e1 : (Q * 10 + d) % 10 = d := by omega
  have e2 : (Q * 10 + d) / 10 = Q := by omega
  rw [e1, e2]
theorem push_dg (r x : Nat) (hx : x ≤ 9) : Dm.lowd (Dm.nd r + 1) (r * 10 + x) = (x : Int) :: Dm.dg r ∧ r * 10 + x < 10 ^ (Dm.nd r + 1) := by
  refine ⟨by rw [lowd_push _ _ _ hx, ← Dm.dg_lowd], ?_⟩
  have := (Dm.nd_spec r).1
  rw [Nat.pow_succ]; omega
theorem dg_one : Dm.dg 1 = [1] := by rw [Dm.dg_pos 1 (by omega), Dm.dg_zero]; rfl
theorem cmp_ge (a b : Nat) : (0 ≤ Dm.cmp a b) ↔ b ≤ a := by
  unfold Dm.cmp
  by_cases h : a < b
  · rw [if_pos h]; omega
  · rw [if_neg h]
    by_cases h2 : b < a
    · rw [if_pos h2]; omega
    · rw [if_neg h2]; omega

/-! ### The contracts at lengths that are letters -/
theorem plus_n (a0 a1 : Option Addr) (n0 n1 c0 c1 A B : Nat) (w : World) (e0 : n0 = Dm.nd A) (e1 : n1 = Dm.nd B) (h0 : IntC (.slice a0 n0 c0) (Dm.dg A) w) (h1 : IntC (.slice a1 n1 c1) (Dm.dg B) w) (hA : n0 ≤ 1000) (hB : n1 ≤ 1000) :
    Calls Tryd.prog 53 #[.slice a0 n0 c0, .slice a1 n1 c1] w (Made (Dm.dg (A + B)) w) := by
  subst e0 e1; exact ref_plus a0 a1 c0 c1 A B w h0 h1 hA hB
theorem cmp_n (a0 a1 : Option Addr) (n0 n1 c0 c1 A B : Nat) (w : World) (e0 : n0 = Dm.nd A) (e1 : n1 = Dm.nd B) (h0 : IntC (.slice a0 n0 c0) (Dm.dg A) w) (h1 : IntC (.slice a1 n1 c1) (Dm.dg B) w) (hA : n0 ≤ 1000) (hB : n1 ≤ 1000) :
    Calls Tryd.prog 52 #[.slice a0 n0 c0, .slice a1 n1 c1] w fun e w' => e = .returned (.int .i64 (Dm.cmp A B)) ∧ Below w.heap.size w w' := by
  subst e0 e1; exact ref_cmp a0 a1 c0 c1 A B w h0 h1 hA hB
theorem minus_n (a0 a1 : Option Addr) (n0 n1 c0 c1 A B : Nat) (w : World) (e0 : n0 = Dm.nd A) (e1 : n1 = Dm.nd B) (h0 : IntC (.slice a0 n0 c0) (Dm.dg A) w) (h1 : IntC (.slice a1 n1 c1) (Dm.dg B) w) (hA : n0 ≤ 900) (hB : n1 ≤ 900) (hBA : B ≤ A) :
    Calls Tryd.prog 73 #[.slice a0 n0 c0, .slice a1 n1 c1] w (Made (Dm.dg (A - B)) w) := by
  subst e0 e1; exact ref_minus a0 a1 c0 c1 A B w h0 h1 hA hB hBA
theorem nd_one : Dm.nd 1 = 1 := by unfold Dm.nd; rw [dg_one]; rfl
theorem lit_one (w : World) : IntC (.slice (some ⟨w.heap.size, 0, none⟩) 1 1) (Dm.dg 1) (w.alloc (.cells #[.int .i64 1] 3)) := by
  rw [dg_one]; exact IntC.of_own (own_lit3 w 1 0 (Nat.zero_le _))

set_option maxHeartbeats 1000000 in
set_option maxRecDepth 100000 in
theorem ref_round (a0 a1 : Option Addr) (c0 c1 A B : Nat) (w : World) (h0 : IntC (.slice a0 (Dm.nd A) c0) (Dm.dg A) w) (h1 : IntC (.slice a1 (Dm.nd B) c1) (Dm.dg B) w) (hA : Dm.nd A ≤ 200) (hB : Dm.nd B ≤ 200) (hB0 : 0 < B) :
    Calls Tryd.prog 46 #[.slice a0 (Dm.nd A) c0, .slice a1 (Dm.nd B) c1] w (Made (Dm.dg (rnd A B)) w) := by
  obtain ⟨i0, hi0, hz0, hz1, hz2⟩ := info_parts info3
  have HI0 := Lib.hid hi0; have HZ0 := Lib.hid hz0; have HZ1 := Lib.hid hz1; have HZ2 := Lib.hid hz2
  clear hi0 hz0 hz1 hz2
  have hd0 : ∀ j, j < Dm.nd A → (Dm.dg A).getD j 0 = ((A / 10 ^ j % 10 : Nat) : Int) := fun j hj => Dm.dg_get A j hj
  have hAn := (Dm.nd_spec A).1
  have hrB : ∀ P, Dm.nd (P % B) ≤ 200 := fun P => by
    refine Nat.le_trans (Dm.nd_le _ (Dm.nd B) ?_) hB
    have := Nat.mod_lt P hB0
    have := (Dm.nd_spec B).1
    omega
  have h2B : ∀ X, X ≤ 100 * B → Dm.nd X ≤ 203 := fun X hX => by
    refine Nat.le_trans (Dm.nd_le _ (Dm.nd B + 3) ?_) (by omega)
    have := (Dm.nd_spec B).1
    rw [Nat.pow_add]
    have : (10 : Nat) ^ 3 = 1000 := by decide
    omega
  have H0 := Lib.hid h0; have H1 := Lib.hid h1; have HD0 := Lib.hid hd0; have HAN := Lib.hid hAn; have HRB := Lib.hid hrB; have H2B := Lib.hid h2B; have HB0 := Lib.hid hB0
  have hA2 : Dm.nd (A / B) ≤ 200 := Nat.le_trans (Dm.nd_le _ (Dm.nd A) (Nat.lt_of_le_of_lt (Nat.div_le_self _ _) hAn)) hA
  have HA2 := Lib.hid hA2
  clear h0 h1 hd0 hAn hrB h2B hA2
  generalize Dm.nd A = nA at *
  go_enter Tryd.func46, Tryd.ntmps46
  go_wp2
  go_loopw [5, 6, 7] (fun qv rv iv wr => ∃ (j : Nat) (qa ra : Option Addr) (qn qc rn rc : Nat), j ≤ nA ∧ qv = .slice qa qn qc ∧ rv = .slice ra rn rc ∧ iv = .int .i64 ((j : Int) - 1) ∧ qn + j = nA ∧ Hid (rn = Dm.nd (A / 10 ^ j % B)) ∧ Hid (A / 10 ^ j / B < 10 ^ qn) ∧ Hid (IntC (.slice qa qn qc) (Dm.lowd qn (A / 10 ^ j / B)) wr) ∧ Hid (IntC (.slice ra rn rc) (Dm.dg (A / 10 ^ j % B)) wr) ∧ Hid (Below w.heap.size w wr)) (fun _ _ iv _ => (intOf iv + 1).toNat)
  case atStart =>
    have e : A / 10 ^ nA = 0 := Nat.div_eq_of_lt HAN.out
    refine ⟨nA, none, none, 0, 0, 0, 0, Nat.le_refl _, rfl, rfl, rfl, by omega, ?_, ?_, ?_, ?_, Below.refl _ _⟩
    · show _ = _; rw [e]; simp [Dm.nd_zero]
    · show _ < _; rw [e]; simp
    · exact .inl ⟨_, _, rfl, rfl⟩
    · show IntC _ _ _; rw [e]; simp only [Nat.zero_mod, Dm.dg_zero]; exact .inl ⟨_, _, rfl, rfl⟩
  case round =>
    obtain ⟨j, qa, ra, qn, qc, rn, rc, hj, rfl, rfl, rfl, hqn, HRN, HQL, HQ, HR, HB⟩ := hrel
    cases j with
    | zero =>
      obtain rfl : qn = nA := by omega
      simp only [Nat.pow_zero, Nat.div_one] at HRN HQL HQ HR
      go_wp2_with fail
      refine (ref_trim qa qc qn (A / B) _ HQ.out HQL.out (by omega)).mono ?_
      rintro e w1 ⟨ta, tc, rfl, hti, rfl⟩
      have HTI := Lib.hid hti
      clear hti
      have HR' : Hid (IntC (.slice ra (Dm.nd (A % B)) rc) (Dm.dg (A % B)) wr) := by show IntC _ _ _; have := HR.out; rw [HRN.out] at this; exact this
      rw [HRN.out]
      clear HR HQ
      have hrb := HRB.out A
      go_wp2_with fail
      refine (ref_plus ra ra rc rc (A % B) (A % B) _ HR'.out HR'.out (by omega) (by omega)).mono ?_
      rintro e w2 ⟨sa, sc, rfl, hsi, hsb⟩
      have HSI := Lib.hid hsi
      have HSB := Lib.hid hsb
      have hszb := HB.out.size
      have HB2 := Lib.hid (HB.out.trans (hsb.mono hszb))
      have HTI2 := Lib.hid (HTI.out.keep hsb)
      have H12 := Lib.hid (H1.out.keep HB2.out)
      clear hsi hsb
      rw [Dm.dg_length] at HSI ⊢
      have hml := Nat.mod_lt A HB0.out
      go_wp2_with fail
      refine (ref_cmp sa a1 sc c1 (A % B + A % B) B _ HSI.out H12.out (by have := H2B.out (A % B + A % B) (by omega); omega) (by omega)).mono ?_
      rintro e w3 ⟨rfl, hcb⟩
      have hge := cmp_ge (A % B + A % B) B
      have HB3 := Lib.hid (HB2.out.trans (hcb.mono HB2.out.size))
      have HTI3 := Lib.hid (HTI2.out.keep hcb)
      clear hcb HTI2
      by_cases hbig : B ≤ A % B + A % B
      · have hr : rnd A B = A / B + 1 := by unfold rnd; rw [if_pos (by omega)]
        have q : decide (0 ≤ Dm.cmp (A % B + A % B) B) = true := by rw [decide_eq_true_iff, hge]; exact hbig
        have HRD := Lib.hid hr
        clear hr hge
        generalize Dm.cmp (A % B + A % B) B = cm at *
        have hba : Below w3.heap.size w3 (w3.alloc (.cells #[.int .i64 1] 3)) := (Below.refl _ w3).alloc (Nat.le_refl _) _
        have HTI4 := Lib.hid (HTI3.out.keep hba)
        have HB4 := Lib.hid (HB3.out.trans (hba.mono HB3.out.size))
        clear hba
        go_wp2_with fail
        refine (plus_n ta (some ⟨w3.heap.size, 0, none⟩) _ 1 tc 1 (A / B) 1 _ rfl nd_one.symm HTI4.out (lit_one w3) (by have := HA2.out; omega) (by omega)).mono ?_
        rintro e w4 ⟨va, vc, rfl, hvi, hvb⟩
        rw [← HRD.out] at hvi ⊢
        have HVI := Lib.hid hvi
        have HVB := Lib.hid (HB4.out.trans (hvb.mono HB4.out.size))
        clear hvi hvb
        go_wp2
        go_ret
        exact ⟨va, vc, rfl, HVI.out, HVB.out⟩
      · have hr : rnd A B = A / B := by unfold rnd; rw [if_neg (by omega)]
        have q : decide (0 ≤ Dm.cmp (A % B + A % B) B) = false := by rw [decide_eq_false_iff_not, hge]; exact hbig
        have HRD := Lib.hid hr
        clear hr hge
        generalize Dm.cmp (A % B + A % B) B = cm at *
        go_wp2
        go_ret
        exact ⟨ta, tc, by rw [HRD.out]; rfl, by rw [HRD.out]; exact HTI3.out, HB3.out⟩
    | succ i =>
      have hj1 : (((i + 1 : Nat) : Int) - 1) = (i : Int) := by omega
      rw [hj1]
      clear hj1
      obtain ⟨g0, o0, rfl, hg0, hcell0⟩ := (H0.out.keep HB.out).at i (by omega)
      rw [HD0.out i (by omega)] at hcell0
      have hx9 : A / 10 ^ i % 10 ≤ 9 := Nat.le_of_lt_succ (Nat.mod_lt _ (by omega))
      have hds := Dm.div_step A i
      have hrs := round_step (A / 10 ^ (i + 1)) (A / 10 ^ i % 10) B HB0.out hx9
      rw [← hds] at hrs
      generalize A / 10 ^ i % 10 = x at *
      generalize hPP : A / 10 ^ i = P' at *
      have HPP := Lib.hid hPP
      clear hPP
      have hrl := HRB.out (A / 10 ^ (i + 1))
      have hQ9 := HQL.out
      have hml := Nat.mod_lt (A / 10 ^ (i + 1)) HB0.out
      generalize hQq : A / 10 ^ (i + 1) / B = Q at *
      generalize hRr : A / 10 ^ (i + 1) % B = r at *
      obtain ⟨hr1, hr2, hr3⟩ := hrs
      obtain ⟨hp1, hp2⟩ := push_dg r x hx9
      have hrn := HRN.out
      rw [← hrn] at hp1 hp2 hrl
      have HP1 := Lib.hid hp1; have HP2 := Lib.hid hp2; have HR1 := Lib.hid hr1; have HR2 := Lib.hid hr2; have HQ9 := Lib.hid hQ9
      have hsz := HB.out.size
      clear hp1 hp2 hr1 hr2 hds hQq hRr hQ9 hrn
      have hsrc := (HR.out.keep (w' := wr.alloc (.cells #[.int .i64 (x : Int)] 3)) ((Below.refl _ wr).alloc (Nat.le_refl _) _)).src
      rw [Dm.dg_length, ← HRN.out] at hsrc
      have HSRC := Lib.hid hsrc
      clear hsrc
      go_wp2_with (at_builtin; refine wpList_append_src _ rfl (.tmp 20) (.tmp 21) 53 53 rfl w.heap.size 3 i0 (.int .i64 0) 1 8 Tryd.underlying53 HI0.out HZ0.out HZ1.out HZ2.out rfl _ 1 (ic [(x : Int)]) rfl (own_lit3 wr _ _ hsz) (.slice ra rn rc) rn (ic (Dm.dg r)) rfl HSRC.out ?ra ?rb ?rc ?_)
      case ra => unfold maxLen; omega
      case rb => omega
      case rc => simp; omega
      intro v2 w2 hown hgrow hat
      have hbel := (HB.out.alloc hsz _).grown hgrow (by simp; omega) (by intro k hk; simp [Value.ownBlock] at hk; omega)
      have hbel2 : Below wr.heap.size wr w2 := ((Below.refl _ wr).alloc (Nat.le_refl _) _).grown hgrow (by simp) (by intro k hk; simp [Value.ownBlock] at hk; omega)
      have hown2 : w2.ownsRow w.heap.size 3 1 v2 (rn + 1) (ic (Dm.lowd (rn + 1) (r * 10 + x))) := by
        rw [HP1.out, Nat.add_comm rn 1]; exact hown
      obtain ⟨a2, c2, hv2⟩ : ∃ a2 c2, v2 = .slice a2 (rn + 1) c2 := by
        obtain ⟨a2, c2, e⟩ := (IntC.of_own hown2).form
        rw [Dm.lowd_length] at e; exact ⟨a2, c2, e⟩
      rw [hv2] at hown2 ⊢
      have HI2 := Lib.hid (IntC.of_own hown2)
      have HB2 := Lib.hid hbel
      have HQ2 := Lib.hid (HQ.out.keep hbel2)
      clear hown hgrow hat hbel hown2 hv2 hbel2 HQ
      go_wp2_with fail
      refine (ref_trim a2 c2 (rn + 1) (r * 10 + x) _ HI2.out HP2.out (by omega)).mono ?_
      rintro e w3 ⟨ta, tc, rfl, hti, rfl⟩
      have HTI := Lib.hid hti
      clear hti HI2 HSRC HR HRN
      have hR0 : r * 10 + x ≤ 10 * B := by omega
      generalize hRR : r * 10 + x = R0 at *
      clear hRR
      have hnR : ∀ X, X ≤ R0 → Dm.nd X ≤ 203 := fun X hX => H2B.out X (by omega)
      have HNR := Lib.hid hnR
      have hd9 : ∀ d, d * B ≤ R0 → d ≤ 9 := fun d hd => by
        have : d ≤ R0 / B := (Nat.le_div_iff_mul_le HB0.out).2 hd
        omega
      have HD9 := Lib.hid hd9
      clear hnR hd9
      go_wp2
      go_loopw [6, 8] (fun rv dv wx => ∃ (d : Nat) (pa : Option Addr) (n pc : Nat), rv = .slice pa n pc ∧ dv = .int .i64 (d : Int) ∧ d ≤ 9 ∧ Hid (n = Dm.nd (R0 - d * B)) ∧ Hid (d * B ≤ R0) ∧ Hid (IntC (.slice pa n pc) (Dm.dg (R0 - d * B)) wx) ∧ Hid (IntC (.slice qa qn qc) (Dm.lowd qn Q) wx) ∧ Hid (Below w.heap.size w wx)) (fun _ dv _ => 10 - (intOf dv).toNat)
      case atStart => exact ⟨0, ta, _, tc, rfl, rfl, by omega, by show _ = _; simp, by show _ ≤ _; simp, by show IntC _ _ _; simpa using HTI.out, HQ2, HB2⟩
      case round =>
        obtain ⟨d, pa, pn, pc, rfl, rfl, hd, HPN, HDB, HPI, HPQ, HPB⟩ := hrel
        clear HTI HQ2 HB2
        have hpn : pn ≤ 203 := by rw [HPN.out]; exact HNR.out _ (by omega)
        have H13 := Lib.hid (H1.out.keep HPB.out)
        go_wp2_with fail
        refine (cmp_n pa a1 pn _ pc c1 (R0 - d * B) B _ HPN.out rfl HPI.out H13.out (by omega) (by omega)).mono ?_
        rintro e w4 ⟨rfl, hcb⟩
        have hge := cmp_ge (R0 - d * B) B
        have HPB2 := Lib.hid (HPB.out.trans (hcb.mono HPB.out.size))
        have HPI2 := Lib.hid (HPI.out.keep hcb)
        have HPQ2 := Lib.hid (HPQ.out.keep hcb)
        have H14 := Lib.hid (H13.out.keep hcb)
        clear hcb HPB HPI HPQ H13
        by_cases hbig : B ≤ R0 - d * B
        · have q : decide (0 ≤ Dm.cmp (R0 - d * B) B) = true := by rw [decide_eq_true_iff, hge]; exact hbig
          have hdn : (d + 1) * B ≤ R0 := by rw [Nat.add_mul, Nat.one_mul]; have := HDB.out; omega
          have hsub : R0 - d * B - B = R0 - (d + 1) * B := by rw [Nat.add_mul, Nat.one_mul]; omega
          have hd10 := HD9.out _ hdn
          have HDN := Lib.hid hdn
          have HSUB := Lib.hid hsub
          have HBIG := Lib.hid hbig
          clear hge hdn hsub hbig
          generalize Dm.cmp (R0 - d * B) B = cm at *
          go_wp2_with fail
          refine (minus_n pa a1 pn _ pc c1 (R0 - d * B) B _ HPN.out rfl HPI2.out H14.out (by omega) (by omega) HBIG.out).mono ?_
          rintro e w5 ⟨ma, mc, rfl, hmi, hmb⟩
          rw [HSUB.out] at hmi ⊢
          have HMI := Lib.hid hmi
          have HMB := Lib.hid (HPB2.out.trans (hmb.mono HPB2.out.size))
          have HMQ := Lib.hid (HPQ2.out.keep hmb)
          clear hmi hmb
          go_wp2
          go_roundw
          case rel => exact ⟨d + 1, ma, _, mc, rfl, by go_num, by omega, rfl, HDN, HMI, HMQ, HMB⟩
          case measure => simp [intOf]; omega
        · have q : decide (0 ≤ Dm.cmp (R0 - d * B) B) = false := by rw [decide_eq_false_iff_not, hge]; exact hbig
          have hdiv : R0 / B = d := by
            have h1 : d ≤ R0 / B := (Nat.le_div_iff_mul_le HB0.out).2 HDB.out
            have h2 : R0 / B < d + 1 := by rw [Nat.div_lt_iff_lt_mul HB0.out, Nat.add_mul, Nat.one_mul]; omega
            omega
          have hmod : R0 % B = R0 - d * B := by
            have := Nat.div_add_mod R0 B
            rw [hdiv, Nat.mul_comm] at this; omega
          have hPm : P' % B = R0 - d * B := by rw [HR1.out, hmod]
          have hPd : P' / B = Q * 10 + d := by rw [HR2.out, hdiv]
          have hlw := lowd_push qn Q d hd
          have HPM := Lib.hid hPm; have HPD := Lib.hid hPd; have HLW := Lib.hid hlw
          clear hge hbig hdiv hmod hPm hPd hlw
          generalize Dm.cmp (R0 - d * B) B = cm at *
          have hsz4 := HPB2.out.size
          have hsrc := (HPQ2.out.keep (w' := w4.alloc (.cells #[.int .i64 (d : Int)] 3)) ((Below.refl _ w4).alloc (Nat.le_refl _) _)).src
          rw [Dm.lowd_length] at hsrc
          have HSRC := Lib.hid hsrc
          clear hsrc
          go_wp2_with (at_builtin; refine wpList_append_src _ rfl (.tmp 34) (.tmp 35) 53 53 rfl w.heap.size 3 i0 (.int .i64 0) 1 8 Tryd.underlying53 HI0.out HZ0.out HZ1.out HZ2.out rfl _ 1 (ic [(d : Int)]) rfl (own_lit3 w4 _ _ hsz4) (.slice qa qn qc) qn (ic (Dm.lowd qn Q)) rfl HSRC.out ?sa ?sb ?sc ?_)
          case sa => unfold maxLen; omega
          case sb => omega
          case sc => simp; omega
          intro v5 w5 hown hgrow hat
          have hbel := (HPB2.out.alloc hsz4 _).grown hgrow (by simp; omega) (by intro k hk; simp [Value.ownBlock] at hk; omega)
          have hbel2 : Below w4.heap.size w4 w5 := ((Below.refl _ w4).alloc (Nat.le_refl _) _).grown hgrow (by simp) (by intro k hk; simp [Value.ownBlock] at hk; omega)
          have hown2 : w5.ownsRow w.heap.size 3 1 v5 (qn + 1) (ic (Dm.lowd (qn + 1) (Q * 10 + d))) := by
            rw [HLW.out, Nat.add_comm qn 1]; exact hown
          obtain ⟨a5, c5, hv5⟩ : ∃ a5 c5, v5 = .slice a5 (qn + 1) c5 := by
            obtain ⟨a5, c5, e⟩ := (IntC.of_own hown2).form
            rw [Dm.lowd_length] at e; exact ⟨a5, c5, e⟩
          rw [hv5] at hown2 ⊢
          have HI5 := Lib.hid (IntC.of_own hown2)
          have HB5 := Lib.hid hbel
          have HR5 := Lib.hid (HPI2.out.keep hbel2)
          clear hown hgrow hat hbel hown2 hv5 hbel2
          go_wp2
          go_roundw
          case rel => exact ⟨i, a5, pa, qn + 1, c5, pn, pc, by omega, rfl, rfl, by go_num, by omega, by show _ = _; rw [HPP.out, HPM.out]; exact HPN.out, by show _ < _; rw [HPP.out, HPD.out, Nat.pow_succ]; have := HQ9.out; omega, by show IntC _ _ _; rw [HPP.out, HPD.out]; exact HI5.out, by show IntC _ _ _; rw [HPP.out, HPM.out]; exact HR5.out, HB5⟩
          case measure => simp [intOf]

end Go.Proofs.YtgkjgaelclfffaaDoor
