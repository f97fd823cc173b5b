/- Layer 7: the walk of LogCrashes. -/
import Derived.Test.YtmcjkaoddjakhaaLogOc
namespace Go.Proofs.Ytmcjkaoddjakhaa
open Go.RowKit

theorem bstr_st7w (l : List UInt8) : bstr l = st l := rfl
theorem cr_len {d : Sm.Dv} {n : Nat} (h : d.ws.length ≤ n) (hn : n ≤ 1000) : d.ws.length ≤ 1000 := Nat.le_trans h hn
set_option maxHeartbeats 16000000 in
set_option maxRecDepth 100000 in
theorem walk_crashes {Dev : Nat → Sm.Dv → (Nat → Prop) → World → Prop} {Log : Nat → Nat → Lm.Lg → (Nat → Prop) → World → Prop} (V : SecCon Dev) (U : LogCon Dev Log) (ta : Option Addr) (tn tc : Nat) (l : List Sp) (ra : Option Addr) (rn rc : Nat) (rs : List Int) (w : World) (hm : tn ≤ maxLen) (ht : Sv ta tn l w) (hr : It (.slice ra rn rc) rs w) :
    Calls Try.prog 4 #[.slice ta tn tc, .slice ra rn rc] w fun e w' => e = .returned (.bool true) ∧ Below w.heap.size w w' := by
  have HV := Lib.hid V
  have HU := Lib.hid U
  have HM : Hid ((tn : Int) ≤ 9223372036854775807) := by show _ ≤ _; unfold maxLen at hm; omega
  have HS := Lib.hid ht
  have HR := Lib.hid hr
  have hrn : rn = rs.length := by obtain ⟨_, _, e⟩ := hr.form; injection e
  have HRN := Lib.hid hrn
  obtain ⟨L1, d1, e1, cg1, l1, b1⟩ := Lm.md_open Lm.md_new (by omega)
  have HE1 := Lib.hid e1; have HCG := Lib.hid cg1; have HL1 := Lib.hid l1; have HBD1 := Lib.hid b1
  obtain ⟨i0, hi0, hz0, hz1, hz2⟩ := info_of infoS
  have HI0 := Lib.hid hi0; have HZ0 := Lib.hid hz0; have HZ1 := Lib.hid hz1; have HZ2 := Lib.hid hz2
  clear hi0 hz0 hz1 hz2 hm ht hr V U e1 cg1 l1 b1 hrn
  by_cases hr100 : 100 < rn
  · have q : decide ((100 : Int) < (rn : Int)) = true := by simp; omega
    clear hr100
    go_enter Try.func4, Try.ntmps4
    go_wp2_with fail
    refine (walk_first HV.out HU.out w).mono ?_
    rintro e w1 ⟨rfl, hb1⟩
    have HB1 := Lib.hid hb1
    clear hb1
    go_wp2
    go_ret
    exact ⟨rfl, HB1.out⟩
  have qr : decide ((100 : Int) < (rn : Int)) = false := by simp; omega
  have HR1 : Hid (rs.length ≤ 1000) := by show _ ≤ _; have := HRN.out; omega
  have HR2 : Hid (rn ≤ 100) := by show _ ≤ _; omega
  clear hr100
  go_enter Try.func4, Try.ntmps4
  go_wp2_with fail
  refine (walk_first HV.out HU.out w).mono ?_
  rintro e w1 ⟨rfl, hb1⟩
  have HB1 := Lib.hid hb1
  clear hb1
  go_wp2_with fail
  refine (HV.out.new 40 w1 (by omega) (by omega)).mono ?_
  rintro e w2 ⟨g, F, rfl, hd, hF, hb⟩
  have HD := Lib.hid hd; have HF := Lib.hid hF; have HB := Lib.hid (HB1.out.trans (hb.mono HB1.out.size))
  have HS1 := Lib.hid HB1.out.size
  clear hd hF hb HB1
  go_wp2_with fail
  refine (HU.out.openOk 38 L1 HD.out ⟨by decide, by decide, by decide, by decide, by decide, by decide⟩ ⟨by omega, by omega⟩ (by rw [HE1.out])).mono ?_
  rintro e w3 ⟨gl, F2, G2, rfl, hd, hl, ho, hf2, hg, ha⟩
  rw [HE1.out] at hd
  have HL : Hid (Ld Dev Log w.heap.size g gl d1 L1 F2 G2 w3) := ⟨hd, hl, fun k hk => by rcases hf2 k hk with h | h; have := HF.out k h; have := HS1.out; omega; have := HB.out.size; omega, fun k hk => by have := hg k hk; have := HB.out.size; omega, ha⟩
  have HB3 : Hid (Below w.heap.size w w3) := HB.out.trans (only_bel ho HB.out.size (fun k hk hp => by have := HF.out k hp; have := HS1.out; omega))
  clear hd hl ho hf2 hg ha HD HB HF HS1 HE1 qr
  go_upto_block 0 with (fail)
  go_cut [10] (fun ev wx => ∃ z : ByteArray, ev = .string z ∧ Hid (Below w.heap.size w wx))
  case first =>
    go_wp2_with fail
    go_loopw [7, 9, 10, 35] (fun lv hv sv iv wr => ∃ (j gl : Nat) (d : Sm.Dv) (L : Lm.Lg) (F G : Nat → Prop) (ah : Option Addr) (nh ch : Nat) (S : ByteArray), j ≤ tn ∧ iv = .int .i64 (j : Int) ∧ lv = .pointer (some ⟨gl, 0, none⟩) ∧ hv = .slice ah nh ch ∧ sv = .string S ∧ j ≤ 25 ∧ nh ≤ 100 ∧ Hid (nh ≤ j ∧ S = st L.h.body) ∧ Hid (Lm.Cg (2 + 45 * j) (1 + 4 * j) d L) ∧ Hid (Ld Dev Log w.heap.size g gl d L F G wr) ∧ Hid (Hv w.heap.size F G ah nh ch L.l wr) ∧ Hid (Below w.heap.size w wr)) (fun _ _ _ iv _ => tn - (ixOf iv).toNat)
    case atStart => exact ⟨0, gl, d1, L1, F2, G2, none, 0, 0, ⟨#[]⟩, Nat.zero_le _, rfl, rfl, rfl, rfl, by omega, by omega, ⟨Nat.le_refl _, by rw [HBD1.out]; rfl⟩, HCG.out, HL.out, by rw [HL1.out]; exact Hv.nil _ _ _ _ _, HB3.out⟩
    case round =>
      obtain ⟨j, gl, d, L, F, G, ah, nh, ch, S, hj, rfl, rfl, rfl, rfl, hj25, hnh, HC, HCG, HLD, HH, HB⟩ := hrel
      have hwr := HB.out.size
      by_cases hlt : j < tn
      · obtain ⟨gt, off, ab, nb, cb, av, nt, ct, ha, hx0⟩ := HS.out.2 j (by rw [← HS.out.1]; exact hlt)
        generalize l[j]'(by rw [← HS.out.1]; exact hlt) = s at hx0
        have hx := hx0.keep HB.out
        subst ha
        obtain ⟨sk, si, sb, sts⟩ := s
        have e0 := hx.c0; have e1 := hx.c1; have e2 := hx.c2; have e3 := hx.c3
        dsimp only at e0 e1 e2 e3
        have hoff : off + j * 4 + 0 = off + j * 4 := Nat.add_zero _
        have hba := one_bs wr (.cells #[.int .i64 sk, .int .i64 si, .slice ab nb cb, .slice av nt ct] 46)
        have HLA := Lib.hid (HLD.out.below HV.out HU.out hba)
        have HHA := Lib.hid (HH.out.keep hba)
        have HBA := Lib.hid (HB.out.trans (hba.mono hwr))
        have HOA := Lib.hid (Oc.new (w := wr) (sk := sk) (si := si) (ab := ab) (av := av) (nb := nb) (cb := cb) (nt := nt) (ct := ct) (T := 46) (HLD.out.lt HV.out HU.out))
        have HY0 := Lib.hid (show Yt (.slice ab nb cb) sb w from hx0.b)
        have hnb : nb = sb.length := by obtain ⟨_, _, e⟩ := hx.b.form; injection e
        have HNB := Lib.hid hnb
        clear hba hoff hnb hx hx0 HH HLD HB
        by_cases h25 : j = 25
        · have q : decide ((25 : Int) ≤ (j : Int)) = true := by simp; omega
          clear h25
          go_wp2
          go_meet
          exact ⟨_, rfl, HBA.out⟩
        have q25 : decide ((25 : Int) ≤ (j : Int)) = false := by simp; omega
        have hj24 : j < 25 := by omega
        have HJ : Hid (j + 1 ≤ 25 ∧ j + 1 ≤ tn) := ⟨by omega, by omega⟩
        clear h25 hj25
        have hba := HBA.out.size
        go_wp2_with fail
        refine (law_long sk si ab nb cb av nt ct _).mono ?_
        rintro e w4 ⟨rfl, hb⟩
        obtain ⟨Z, hZ⟩ : ∃ Z, Z = Lm.lg nb nt := ⟨_, rfl⟩
        rw [← hZ]
        have HL4 := Lib.hid (HLA.out.below HV.out HU.out hb); have HH4 := Lib.hid (HHA.out.keep hb); have HB4 := Lib.hid (HBA.out.trans (hb.mono hba)); have HO4 := Lib.hid (HOA.out.keep hb)
        have k2 := HO4.out.c2
        have hg4 := HB4.out.size
        clear hb HLA HHA HBA HOA hba hZ
        by_cases hz : 1000 < Z
        · have q : decide ((1000 : Int) < Z) = true := by simpa using hz
          clear hz
          go_wp2
          go_meet
          exact ⟨_, rfl, HB4.out⟩
        have qz : decide ((1000 : Int) < Z) = false := by simpa using hz
        by_cases h400 : nb ≤ 400
        case neg =>
          have q : decide ((400 : Int) < (nb : Int)) = true := by simp; omega
          clear h400 hz
          go_wp2
          go_meet
          exact ⟨_, rfl, HB4.out⟩
        have q400 : decide ((400 : Int) < (nb : Int)) = false := by simp; omega
        have HLB : Hid ((sb.length : Int) ≤ 9223372036854775807) := by show _ ≤ _; have := HNB.out; omega
        clear h400 hz
        obtain ⟨Un, hU⟩ : ∃ Un : Nat, (Un : Int) = sk % 18446744073709551616 := ⟨(sk % 18446744073709551616).toNat, by omega⟩
        obtain ⟨mm, hmm⟩ : ∃ mm, mm = Un % 6 := ⟨_, rfl⟩
        have hm6 : mm < 6 := by omega
        obtain ⟨Ui, hUi⟩ : ∃ Ui : Nat, (Ui : Int) = si % 18446744073709551616 := ⟨(si % 18446744073709551616).toNat, by omega⟩
        obtain ⟨x, hx⟩ : ∃ x, x = Ui % 12 := ⟨_, rfl⟩
        obtain ⟨y, hy⟩ : ∃ y, y = Ui % 3 := ⟨_, rfl⟩
        have hx12 : x < 12 := by omega
        have hy3 : y < 3 := by omega
        have hw2 : (Un : Int).tmod 6 = (mm : Int) := by rw [Int.tmod_eq_emod_of_nonneg (by omega)]; omega
        have hw4 : (Ui : Int).tmod 12 = (x : Int) := by rw [Int.tmod_eq_emod_of_nonneg (by omega)]; omega
        have hw5 : (Ui : Int).tmod 3 = (y : Int) := by rw [Int.tmod_eq_emod_of_nonneg (by omega)]; omega
        have HNX : Hid (n64 (x : Int)) := ⟨by omega, by omega⟩
        have HNY : Hid (n64 (y : Int)) := ⟨by omega, by omega⟩
        have HXM : Hid ((x : Int) ≤ 9223372036854775807 ∧ (y : Int) ≤ 9223372036854775807) := ⟨by omega, by omega⟩
        have hw1 : IntKind.u64.wrap sk = (Un : Int) := by rw [IntKind.wrap_u64, hU]
        have hw3 : IntKind.u64.wrap si = (Ui : Int) := by rw [IntKind.wrap_u64, hUi]
        have k1 := HO4.out.c1
        clear hU hmm hUi hx hy
        go_wp2_with fail
        refine (HL4.out.limit (x : Int) HV.out HU.out HNX.out HB4.out hg4).mono ?_
        rintro e w5 ⟨rfl, F5, HL5, HB5, HC5⟩
        have HH5 := Lib.hid (HH4.out.step HC5.out)
        have HO5 := Lib.hid (HO4.out.step HC5.out)
        have hg5 := HB5.out.size
        have k0 := HO5.out.c0
        clear k1 k2 HC5 HL4 HB4 HH4 HO4 hg4
        go_upto_if 66 with (fail)
        go_cut [9, 10, 13, 14] (fun hv sv wv ov wx => ∃ (d2 : Sm.Dv) (L2 : Lm.Lg) (F2 G2 : Nat → Prop) (LA LW : List (List UInt8)) (BA BO : List UInt8) (ah : Option Addr) (nh ch : Nat) (aw : Option Addr) (nw cw : Nat) (SA SO : ByteArray), hv = .slice ah nh ch ∧ sv = .string SA ∧ wv = .slice aw nw cw ∧ ov = .string SO ∧ nh ≤ 100 ∧ nw ≤ 100 ∧ Hid (nh ≤ j + 1 ∧ nw ≤ j + 1 ∧ SA = st BA ∧ SO = st BO) ∧ Hid (d2.ws.length ≤ 100 ∧ ∀ ts, ∃ h1 l1 a1, Lm.Md (2 + 45 * j + 39) (1 + 4 * j + 1) (Sm.crash d2 ts) h1 l1 a1 ∧ ((l1 = LA ∧ h1.body = BA) ∨ (l1 = LW ∧ h1.body = BO))) ∧ Hid (Ld Dev Log w.heap.size g gl d2 L2 F2 G2 wx) ∧ Hid (Hv w.heap.size F2 G2 ah nh ch LA wx) ∧ Hid (Hv w.heap.size F2 G2 aw nw cw LW wx) ∧ Hid (Oc wr.heap.size sk si ab nb cb F2 G2 wx) ∧ Hid (Below w.heap.size w wx))
        case first => as_aux_lemma =>
          have k2 := HO5.out.c2
          have HE : Hid (1 + 4 * j ≤ 200) := by show _ ≤ _; omega
          have HDL := Lib.hid (HCG.out.dlb (by omega) (x : Int) HXM.out.1)
          have HLK := Lib.hid (Lm.lok_bound HCG.out.k (x : Int))
          have HFAR := Lib.hid (far_in HY0.out rfl HL5.out.of HL5.out.og)
          have hnj : nh ≤ j := HC.out.1
          rcases (show mm = 1 ∨ mm ≠ 1 by omega) with rfl | hm1
          · obtain ⟨c, L2, d2, he2, hw2s, hcb, hcs⟩ := Lm.cg_reset HCG.out HE.out (x : Int) HXM.out.1 sb
            have HCS := Lib.hid hcs
            have HE2 := Lib.hid he2
            have HWS := Lib.hid hw2s
            have HN : Hid (L.h.n ≤ N62) := by show _ ≤ _; have := HCG.out.n; unfold N62; omega
            clear hcs he2 hw2s hnj
            go_wp2_with fail
            refine (HL5.out.reset HU.out HDL.out HLK.out HN.out HB5.out hg5 (HY0.out.keep HB5.out) HLB.out HFAR.out HE2.out).mono ?_
            rintro e w6 ⟨rfl, F6, G6, HL6, HB6, HC6⟩
            have hg6 := HB6.out.size
            have HH6 := Lib.hid (HH5.out.step HC6.out)
            have HO6 := Lib.hid (HO5.out.step HC6.out)
            have k2 := HO6.out.c2
            have hcv : ∀ n, (convert 39 9 (.slice ab nb cb)).run Try.prog (w6.drewN n) = .ok (.string (st sb)) (w6.drewN n) := fun n => Yt.str ((HY0.out.keep HB6.out).keep (below_dn w6 n))
            obtain ⟨SB, hSB⟩ : ∃ SB, SB = st sb := ⟨_, rfl⟩
            rw [← hSB] at hcv
            have HSB := Lib.hid hSB
            have HBD : Hid (∀ n, Below w6.heap.size w6 (w6.drewN n)) := fun n => below_dn w6 n
            have HBD2 : Hid (∀ a b, Below w6.heap.size w6 ((w6.drewN a).drewN b)) := fun a b => ⟨rfl, rfl, rfl, Nat.le_refl _, fun _ _ => rfl⟩
            clear HC6 HL5 HB5 HH5 HO5 hg5 k0 hSB
            rcases hcb with hcb | hcb
            · have HMD : Hid (d2.ws.length ≤ 100 ∧ ∀ ts, ∃ h1 l1 a1, Lm.Md (2 + 45 * j + 39) (1 + 4 * j + 1) (Sm.crash d2 ts) h1 l1 a1 ∧ ((l1 = [] ∧ h1.body = sb) ∨ (l1 = [] ∧ h1.body = sb))) := ⟨HWS.out, fun ts => by
                obtain ⟨h1, l1, a1, hm, ⟨_, e1, e2⟩ | ⟨e, _⟩⟩ := HCS.out ts
                · exact ⟨h1, l1, a1, hm, .inl ⟨e1, e2⟩⟩
                · rw [hcb] at e; cases e⟩
              go_upto_region 17 with (fail)
              go_quiet (fail)
              go_upto_region 18 with (fail)
              go_quiet (fail)
              go_wp2
              go_meet
              exact ⟨d2, L2, F6, G6, [], [], sb, sb, none, 0, 0, none, 0, 0, SB, SB, rfl, rfl, rfl, rfl, by omega, by omega, ⟨Nat.zero_le _, Nat.zero_le _, HSB.out, HSB.out⟩, HMD.out, HL6.out.below HV.out HU.out (HBD2.out _ _), Hv.nil _ _ _ _ _, Hv.nil _ _ _ _ _, HO6.out.keep (HBD2.out _ _), HB6.out.trans ((HBD2.out _ _).mono hg6)⟩
            · have HMD : Hid (d2.ws.length ≤ 100 ∧ ∀ ts, ∃ h1 l1 a1, Lm.Md (2 + 45 * j + 39) (1 + 4 * j + 1) (Sm.crash d2 ts) h1 l1 a1 ∧ ((l1 = L.l ∧ h1.body = L.h.body) ∨ (l1 = [] ∧ h1.body = sb))) := ⟨HWS.out, fun ts => by
                obtain ⟨h1, l1, a1, hm, ⟨e, _⟩ | ⟨_, e⟩⟩ := HCS.out ts
                · rw [hcb] at e; cases e
                · exact ⟨h1, l1, a1, hm, e⟩⟩
              go_upto_region 18 with (fail)
              go_quiet (fail)
              go_wp2
              go_meet
              exact ⟨d2, L2, F6, G6, L.l, [], L.h.body, sb, ah, nh, ch, none, 0, 0, S, SB, rfl, rfl, rfl, rfl, hnh, by omega, ⟨by have := HC.out.1; omega, Nat.zero_le _, HC.out.2, HSB.out⟩, HMD.out, HL6.out.below HV.out HU.out (HBD.out _), HH6.out.keep (HBD.out _), Hv.nil _ _ _ _ _, HO6.out.keep (HBD.out _), HB6.out.trans ((HBD.out _).mono hg6)⟩
          · obtain ⟨c, L2, d2, he2, hw2s, hcb, hcs⟩ := Lm.cg_append HCG.out HE.out (x : Int) HXM.out.1 sb
            have HCS := Lib.hid hcs
            have HE2 := Lib.hid he2
            have HWS := Lib.hid hw2s
            have q1 : ((mm : Int) == 1) = false := by rw [beq_eq_false_iff_ne]; omega
            clear hcs he2 hw2s hm1
            go_wp2_with fail
            refine (HL5.out.append HU.out HDL.out HLK.out HB5.out hg5 (HY0.out.keep HB5.out) HLB.out HFAR.out HE2.out).mono ?_
            rintro e w6 ⟨rfl, F6, G6, HL6, HB6, HC6⟩
            have hg6 := HB6.out.size
            have HH6 := Lib.hid (HH5.out.step HC6.out)
            have HO6 := Lib.hid (HO5.out.step HC6.out)
            have k2 := HO6.out.c2
            have HLT6 := Lib.hid (HL6.out.lt HV.out HU.out)
            obtain ⟨SB, hSB⟩ : ∃ SB, SB = st sb := ⟨_, rfl⟩
            have HSB := Lib.hid hSB
            have HYW := Lib.hid (HY0.out.keep HB6.out)
            clear HC6 HL5 HB5 HH5 HO5 hg5 k0 hSB hw1 hw2 hw3 hw4 hw5
            rcases hcb with hcb | hcb
            · have HMD : Hid (d2.ws.length ≤ 100 ∧ ∀ ts, ∃ h1 l1 a1, Lm.Md (2 + 45 * j + 39) (1 + 4 * j + 1) (Sm.crash d2 ts) h1 l1 a1 ∧ ((l1 = L.l ++ [sb] ∧ h1.body = L.h.body) ∨ (l1 = L.l ∧ h1.body = L.h.body))) := ⟨HWS.out, fun ts => by
                obtain ⟨h1, l1, a1, hm, hb, ⟨_, e⟩ | ⟨e, _⟩⟩ := HCS.out ts
                · exact ⟨h1, l1, a1, hm.le (Nat.le_refl _) (Nat.le_succ _), .inl ⟨e, hb⟩⟩
                · rw [hcb] at e; cases e⟩
              go_upto_region 20 with (fail)
              refine wp_region_noPanic ?_
              have BD := Lib.hid (below_drw w6)
              have S0 := Lib.hid (SAp.mk HO6.out.lt HO6.out.c2 HYW.out HSB.out BD.out)
              refine wp_region_held_drew (S := fun w' => SAp wr.heap.size ab nb cb SB w6 w') (by kernel_rfl) S0.out (fun _ => ?_)
              refine wpAnyH_take (i := 1) (v := ?v1) rfl (by kernel_rfl) (by kernel_rfl) (by kernel_rfl) (fun _ _ _ h => h) (Or.inl ⟨by rfl, ?hy1⟩) S0.out ?rest1
              case hy1 => (intro w' hSw; obtain ⟨_, _, _⟩ := hSw; go_simp; with_reducible rfl)
              try simp only [Act.put]
              refine wpAnyH_take (i := 3) (v := ?v2) rfl (by kernel_rfl) (by kernel_rfl) (by kernel_rfl) (fun _ _ _ h => h) (Or.inl ⟨by rfl, ?hy2⟩) S0.out ?rest2
              case hy2 => (intro w' hSw; obtain ⟨_, _, _⟩ := hSw; go_simp; with_reducible rfl)
              try simp only [Act.put]
              refine wpAnyH_take (i := 4) (v := ?v3) rfl (by kernel_rfl) (by kernel_rfl) (by kernel_rfl) (fun _ _ _ h => h) (Or.inl ⟨by rfl, ?hy3⟩) S0.out ?rest3
              case hy3 => (intro w' hSw; obtain ⟨_, _, _⟩ := hSw; go_simp; with_reducible rfl)
              try simp only [Act.put]
              refine wpAnyH_take (i := 5) (v := ?v4) rfl (by kernel_rfl) (by kernel_rfl) (by kernel_rfl) (fun _ _ _ h => h) (Or.inl ⟨by rfl, ?hy4⟩) S0.out ?rest4
              case hy4 => (intro w' hSw; obtain ⟨_, _, _⟩ := hSw; go_simp; with_reducible rfl)
              try simp only [Act.put]
              refine wpAnyH_ready (rs := [0, 6]) (by kernel_rfl) (by simp) ?_
              refine AllReadyH.cons rfl (fun K hK => ?_) ?_
              · skip
                go_simp
                have B1 := Lib.hid (BD.out.trans ((one_bs w6.drew (.cells #[] 9)).mono BD.out.size))
                have S1 := Lib.hid (SAp.mk HO6.out.lt HO6.out.c2 HYW.out HSB.out B1.out)
                have OE1 := Lib.hid (own_nil1 w6.drew w6.heap.size (w6.heap.size) (by simp) BD.out.size)
                refine hK.out _ _ S1.out (fun _ => ?_)
                clear hK K
                try simp only [Act.put]
                refine wpAnyH_ready (rs := [2, 6]) (by kernel_rfl) (by simp) ?_
                refine AllReadyH.cons rfl (fun K hK => ?_) ?_
                · skip
                  refine step_append_src _ rfl (.tmp 83) (.tmp 84) 56 56 rfl w6.heap.size 9 i0 _ 1 16 Try.underlying56 HI0.out HZ0.out HZ1.out HZ2.out rfl (.slice (some ⟨w6.heap.size, 0, none⟩) 0 0) 0 (stc []) rfl OE1.out _ nh (stc L.l) rfl (HH6.out.s.keep B1.out).src (by unfold maxLen; omega) (by omega) B1.out.size ?_
                  intro vq2 wq2 hown hgrow hat
                  rw [Nat.zero_add, show stc [] ++ stc L.l = stc L.l from rfl] at hown
                  have O2 := Lib.hid hown
                  have B2 := Lib.hid (B1.out.grown hgrow B1.out.size (fun k e => by simp [Value.ownBlock] at e; omega))
                  have S2 := Lib.hid (SAp.mk HO6.out.lt HO6.out.c2 HYW.out HSB.out B2.out)
                  clear hown hgrow hat
                  refine hK.out _ _ S2.out (fun _ => ?_)
                  clear hK K
                  try simp only [Act.put, List.setIfInBounds_toArray]
                  refine wpAnyH_ready (rs := [6]) (by kernel_rfl) (by simp) ?_
                  refine AllReadyH.cons rfl (fun K hK => ?_) AllReadyH.nil
                  go_simp
                  have B3 := Lib.hid (B2.out.trans ((one_bs wq2 (.cells #[.string SB] 9)).mono B2.out.size))
                  have S3 := Lib.hid (SAp.mk HO6.out.lt HO6.out.c2 HYW.out HSB.out B3.out)
                  have SL3 := Lib.hid (ls_new wq2 sb SB (wq2.heap.size) (by simp) HSB.out)
                  have OW3 := Lib.hid (own_keep_s O2.out (one_bs wq2 (.cells #[.string SB] 9)) (fun b hb => (O2.out.lt b hb).2))
                  refine hK.out _ _ S3.out (fun _ => ?_)
                  clear hK K
                  try simp only [Act.put]
                  refine wpAnyH_ready (rs := [7]) (by kernel_rfl) (by simp) ?_
                  refine AllReadyH.cons rfl (fun K hK => ?_) AllReadyH.nil
                  refine step_append_src _ rfl (.tmp 85) (.tmp 89) 56 56 rfl w6.heap.size 9 i0 _ 1 16 Try.underlying56 HI0.out HZ0.out HZ1.out HZ2.out rfl vq2 nh (stc L.l) rfl OW3.out _ 1 (stc [sb]) rfl SL3.out.src (by unfold maxLen; omega) (by omega) B3.out.size ?_
                  intro vq4 wq4 hown hgrow hat
                  have hown2 : wq4.ownsRow w6.heap.size 9 1 vq4 (nh + 1) (stc (L.l ++ [sb])) := by rw [show stc (L.l ++ [sb]) = stc L.l ++ stc [sb] by simp [stc]]; exact hown
                  have B4 := Lib.hid (B3.out.grown hgrow B3.out.size (fun k e => (OW3.out.lt k e).1))
                  obtain ⟨aR, cR, rfl⟩ := own_form_s hown2
                  have HSS := Lib.hid (Ss.of_own hown2)
                  have S4 := Lib.hid (SAp.mk HO6.out.lt HO6.out.c2 HYW.out HSB.out B4.out)
                  clear hown hown2 hgrow hat
                  refine hK.out _ _ S4.out (fun _ => ?_)
                  clear hK K
                  try simp only [Act.put, List.setIfInBounds_toArray]
                  refine wpAnyH_take (i := 8) (v := ?v5) rfl (by kernel_rfl) (by kernel_rfl) (by kernel_rfl) (fun _ _ _ h => h) (Or.inl ⟨by rfl, ?hy5⟩) S4.out ?rest5
                  case hy5 => (intro w' hSw; obtain ⟨_, _, _⟩ := hSw; go_simp; with_reducible rfl)
                  try simp only [Act.put]
                  refine wpAnyH_done (by kernel_rfl) ?_ _
                  simp only [List.setIfInBounds_toArray, List.getElem_toArray, List.getElem_cons_succ, List.getElem_cons_zero]
                  refine NoPanic.normal ?_
                  have HBR := Lib.hid B4.out
                  have hnh2 : nh + 1 ≤ 100 := by omega
                  clear hnj
                  go_wp2
                  go_meet
                  exact ⟨d2, L2, F6, G6, L.l ++ [sb], L.l, L.h.body, L.h.body, aR, nh + 1, cR, ah, nh, ch, S, S, rfl, rfl, rfl, rfl, hnh2, hnh, ⟨by have := HC.out.1; omega, by have := HC.out.1; omega, HC.out.2, HC.out.2⟩, HMD.out, HL6.out.below HV.out HU.out HBR.out, Hv.new HSS.out hg6 HLT6.out, HH6.out.keep HBR.out, HO6.out.keep HBR.out, HB6.out.trans (HBR.out.mono hg6)⟩
                · refine AllReadyH.cons rfl (fun K hK => ?_) AllReadyH.nil
                  go_simp
                  have B5 := Lib.hid (B1.out.trans ((one_bs (w6.drew.alloc (.cells #[] 9)) (.cells #[.string SB] 9)).mono B1.out.size))
                  have S5 := Lib.hid (SAp.mk HO6.out.lt HO6.out.c2 HYW.out HSB.out B5.out)
                  have SL5 := Lib.hid (ls_new (w6.drew.alloc (.cells #[] 9)) sb SB (w6.heap.size + 1) (by simp) HSB.out)
                  have OW5 := Lib.hid (own_keep_s OE1.out (one_bs (w6.drew.alloc (.cells #[] 9)) (.cells #[.string SB] 9)) (fun b hb => (OE1.out.lt b hb).2))
                  refine hK.out _ _ S5.out (fun _ => ?_)
                  clear hK K
                  try simp only [Act.put]
                  refine wpAnyH_ready (rs := [2]) (by kernel_rfl) (by simp) ?_
                  refine AllReadyH.cons rfl (fun K hK => ?_) AllReadyH.nil
                  refine step_append_src _ rfl (.tmp 83) (.tmp 84) 56 56 rfl w6.heap.size 9 i0 _ 1 16 Try.underlying56 HI0.out HZ0.out HZ1.out HZ2.out rfl (.slice (some ⟨w6.heap.size, 0, none⟩) 0 0) 0 (stc []) rfl OW5.out _ nh (stc L.l) rfl (HH6.out.s.keep B5.out).src (by unfold maxLen; omega) (by omega) B5.out.size ?_
                  intro vq6 wq6 hown hgrow hat
                  rw [Nat.zero_add, show stc [] ++ stc L.l = stc L.l from rfl] at hown
                  have O6 := Lib.hid hown
                  have B6 := Lib.hid (B5.out.grown hgrow B5.out.size (fun k e => by simp [Value.ownBlock] at e; omega))
                  have S6 := Lib.hid (SAp.mk HO6.out.lt HO6.out.c2 HYW.out HSB.out B6.out)
                  have SG6 := Lib.hid (SL5.out.grown hgrow (by simp [Value.ownBlock]))
                  clear hown hgrow hat
                  refine hK.out _ _ S6.out (fun _ => ?_)
                  clear hK K
                  try simp only [Act.put, List.setIfInBounds_toArray]
                  refine wpAnyH_ready (rs := [7]) (by kernel_rfl) (by simp) ?_
                  refine AllReadyH.cons rfl (fun K hK => ?_) AllReadyH.nil
                  refine step_append_src _ rfl (.tmp 85) (.tmp 89) 56 56 rfl w6.heap.size 9 i0 _ 1 16 Try.underlying56 HI0.out HZ0.out HZ1.out HZ2.out rfl vq6 nh (stc L.l) rfl O6.out _ 1 (stc [sb]) rfl SG6.out.src (by unfold maxLen; omega) (by omega) B6.out.size ?_
                  intro vq7 wq7 hown hgrow hat
                  have hown2 : wq7.ownsRow w6.heap.size 9 1 vq7 (nh + 1) (stc (L.l ++ [sb])) := by rw [show stc (L.l ++ [sb]) = stc L.l ++ stc [sb] by simp [stc]]; exact hown
                  have B7 := Lib.hid (B6.out.grown hgrow B6.out.size (fun k e => (O6.out.lt k e).1))
                  obtain ⟨aR, cR, rfl⟩ := own_form_s hown2
                  have HSS := Lib.hid (Ss.of_own hown2)
                  have S7 := Lib.hid (SAp.mk HO6.out.lt HO6.out.c2 HYW.out HSB.out B7.out)
                  clear hown hown2 hgrow hat
                  refine hK.out _ _ S7.out (fun _ => ?_)
                  clear hK K
                  try simp only [Act.put]
                  refine wpAnyH_take (i := 8) (v := ?v6) rfl (by kernel_rfl) (by kernel_rfl) (by kernel_rfl) (fun _ _ _ h => h) (Or.inl ⟨by rfl, ?hy6⟩) S7.out ?rest6
                  case hy6 => (intro w' hSw; obtain ⟨_, _, _⟩ := hSw; go_simp; with_reducible rfl)
                  try simp only [Act.put]
                  refine wpAnyH_done (by kernel_rfl) ?_ _
                  simp only [List.setIfInBounds_toArray, List.getElem_toArray, List.getElem_cons_succ, List.getElem_cons_zero]
                  refine NoPanic.normal ?_
                  have HBR := Lib.hid B7.out
                  have hnh2 : nh + 1 ≤ 100 := by omega
                  clear hnj
                  go_wp2
                  go_meet
                  exact ⟨d2, L2, F6, G6, L.l ++ [sb], L.l, L.h.body, L.h.body, aR, nh + 1, cR, ah, nh, ch, S, S, rfl, rfl, rfl, rfl, hnh2, hnh, ⟨by have := HC.out.1; omega, by have := HC.out.1; omega, HC.out.2, HC.out.2⟩, HMD.out, HL6.out.below HV.out HU.out HBR.out, Hv.new HSS.out hg6 HLT6.out, HH6.out.keep HBR.out, HO6.out.keep HBR.out, HB6.out.trans (HBR.out.mono hg6)⟩
              · refine AllReadyH.cons rfl (fun K hK => ?_) AllReadyH.nil
                go_simp
                have B8 := Lib.hid (BD.out.trans ((one_bs w6.drew (.cells #[.string SB] 9)).mono BD.out.size))
                have S8 := Lib.hid (SAp.mk HO6.out.lt HO6.out.c2 HYW.out HSB.out B8.out)
                have SL8 := Lib.hid (ls_new w6.drew sb SB (w6.heap.size) (by simp) HSB.out)
                refine hK.out _ _ S8.out (fun _ => ?_)
                clear hK K
                try simp only [Act.put]
                refine wpAnyH_ready (rs := [0]) (by kernel_rfl) (by simp) ?_
                refine AllReadyH.cons rfl (fun K hK => ?_) AllReadyH.nil
                go_simp
                have B9 := Lib.hid (B8.out.trans ((one_bs (w6.drew.alloc (.cells #[.string SB] 9)) (.cells #[] 9)).mono B8.out.size))
                have S9 := Lib.hid (SAp.mk HO6.out.lt HO6.out.c2 HYW.out HSB.out B9.out)
                have OE9 := Lib.hid (own_nil1 (w6.drew.alloc (.cells #[.string SB] 9)) w6.heap.size (w6.heap.size + 1) (by simp) B8.out.size)
                have SK9 := Lib.hid (SL8.out.keep (one_bs (w6.drew.alloc (.cells #[.string SB] 9)) (.cells #[] 9)))
                refine hK.out _ _ S9.out (fun _ => ?_)
                clear hK K
                try simp only [Act.put]
                refine wpAnyH_ready (rs := [2]) (by kernel_rfl) (by simp) ?_
                refine AllReadyH.cons rfl (fun K hK => ?_) AllReadyH.nil
                refine step_append_src _ rfl (.tmp 83) (.tmp 84) 56 56 rfl w6.heap.size 9 i0 _ 1 16 Try.underlying56 HI0.out HZ0.out HZ1.out HZ2.out rfl (.slice (some ⟨w6.heap.size + 1, 0, none⟩) 0 0) 0 (stc []) rfl OE9.out _ nh (stc L.l) rfl (HH6.out.s.keep B9.out).src (by unfold maxLen; omega) (by omega) B9.out.size ?_
                intro vq10 wq10 hown hgrow hat
                rw [Nat.zero_add, show stc [] ++ stc L.l = stc L.l from rfl] at hown
                have O10 := Lib.hid hown
                have B10 := Lib.hid (B9.out.grown hgrow B9.out.size (fun k e => by simp [Value.ownBlock] at e; omega))
                have S10 := Lib.hid (SAp.mk HO6.out.lt HO6.out.c2 HYW.out HSB.out B10.out)
                have SG10 := Lib.hid (SK9.out.grown hgrow (by simp [Value.ownBlock]))
                clear hown hgrow hat
                refine hK.out _ _ S10.out (fun _ => ?_)
                clear hK K
                try simp only [Act.put, List.setIfInBounds_toArray]
                refine wpAnyH_ready (rs := [7]) (by kernel_rfl) (by simp) ?_
                refine AllReadyH.cons rfl (fun K hK => ?_) AllReadyH.nil
                refine step_append_src _ rfl (.tmp 85) (.tmp 89) 56 56 rfl w6.heap.size 9 i0 _ 1 16 Try.underlying56 HI0.out HZ0.out HZ1.out HZ2.out rfl vq10 nh (stc L.l) rfl O10.out _ 1 (stc [sb]) rfl SG10.out.src (by unfold maxLen; omega) (by omega) B10.out.size ?_
                intro vq11 wq11 hown hgrow hat
                have hown2 : wq11.ownsRow w6.heap.size 9 1 vq11 (nh + 1) (stc (L.l ++ [sb])) := by rw [show stc (L.l ++ [sb]) = stc L.l ++ stc [sb] by simp [stc]]; exact hown
                have B11 := Lib.hid (B10.out.grown hgrow B10.out.size (fun k e => (O10.out.lt k e).1))
                obtain ⟨aR, cR, rfl⟩ := own_form_s hown2
                have HSS := Lib.hid (Ss.of_own hown2)
                have S11 := Lib.hid (SAp.mk HO6.out.lt HO6.out.c2 HYW.out HSB.out B11.out)
                clear hown hown2 hgrow hat
                refine hK.out _ _ S11.out (fun _ => ?_)
                clear hK K
                try simp only [Act.put]
                refine wpAnyH_take (i := 8) (v := ?v7) rfl (by kernel_rfl) (by kernel_rfl) (by kernel_rfl) (fun _ _ _ h => h) (Or.inl ⟨by rfl, ?hy7⟩) S11.out ?rest7
                case hy7 => (intro w' hSw; obtain ⟨_, _, _⟩ := hSw; go_simp; with_reducible rfl)
                try simp only [Act.put]
                refine wpAnyH_done (by kernel_rfl) ?_ _
                simp only [List.setIfInBounds_toArray, List.getElem_toArray, List.getElem_cons_succ, List.getElem_cons_zero]
                refine NoPanic.normal ?_
                have HBR := Lib.hid B11.out
                have hnh2 : nh + 1 ≤ 100 := by omega
                clear hnj
                go_wp2
                go_meet
                exact ⟨d2, L2, F6, G6, L.l ++ [sb], L.l, L.h.body, L.h.body, aR, nh + 1, cR, ah, nh, ch, S, S, rfl, rfl, rfl, rfl, hnh2, hnh, ⟨by have := HC.out.1; omega, by have := HC.out.1; omega, HC.out.2, HC.out.2⟩, HMD.out, HL6.out.below HV.out HU.out HBR.out, Hv.new HSS.out hg6 HLT6.out, HH6.out.keep HBR.out, HO6.out.keep HBR.out, HB6.out.trans (HBR.out.mono hg6)⟩
            · have HMD : Hid (d2.ws.length ≤ 100 ∧ ∀ ts, ∃ h1 l1 a1, Lm.Md (2 + 45 * j + 39) (1 + 4 * j + 1) (Sm.crash d2 ts) h1 l1 a1 ∧ ((l1 = L.l ∧ h1.body = L.h.body) ∨ (l1 = L.l ++ [sb] ∧ h1.body = L.h.body))) := ⟨HWS.out, fun ts => by
                obtain ⟨h1, l1, a1, hm, hb, ⟨e, _⟩ | ⟨_, e⟩⟩ := HCS.out ts
                · rw [hcb] at e; cases e
                · exact ⟨h1, l1, a1, hm.le (Nat.le_refl _) (Nat.le_succ _), by
                    rcases e with e | e
                    · exact .inl ⟨e, hb⟩
                    · exact .inr ⟨e, hb⟩⟩⟩
              go_upto_region 21 with (fail)
              refine wp_region_noPanic ?_
              have BD := Lib.hid (below_drw w6)
              have S0 := Lib.hid (SAp.mk HO6.out.lt HO6.out.c2 HYW.out HSB.out BD.out)
              refine wp_region_held_drew (S := fun w' => SAp wr.heap.size ab nb cb SB w6 w') (by kernel_rfl) S0.out (fun _ => ?_)
              refine wpAnyH_take (i := 1) (v := ?v8) rfl (by kernel_rfl) (by kernel_rfl) (by kernel_rfl) (fun _ _ _ h => h) (Or.inl ⟨by rfl, ?hy8⟩) S0.out ?rest8
              case hy8 => (intro w' hSw; obtain ⟨_, _, _⟩ := hSw; go_simp; with_reducible rfl)
              try simp only [Act.put]
              refine wpAnyH_take (i := 3) (v := ?v9) rfl (by kernel_rfl) (by kernel_rfl) (by kernel_rfl) (fun _ _ _ h => h) (Or.inl ⟨by rfl, ?hy9⟩) S0.out ?rest9
              case hy9 => (intro w' hSw; obtain ⟨_, _, _⟩ := hSw; go_simp; with_reducible rfl)
              try simp only [Act.put]
              refine wpAnyH_take (i := 4) (v := ?v10) rfl (by kernel_rfl) (by kernel_rfl) (by kernel_rfl) (fun _ _ _ h => h) (Or.inl ⟨by rfl, ?hy10⟩) S0.out ?rest10
              case hy10 => (intro w' hSw; obtain ⟨_, _, _⟩ := hSw; go_simp; with_reducible rfl)
              try simp only [Act.put]
              refine wpAnyH_take (i := 5) (v := ?v11) rfl (by kernel_rfl) (by kernel_rfl) (by kernel_rfl) (fun _ _ _ h => h) (Or.inl ⟨by rfl, ?hy11⟩) S0.out ?rest11
              case hy11 => (intro w' hSw; obtain ⟨_, _, _⟩ := hSw; go_simp; with_reducible rfl)
              try simp only [Act.put]
              refine wpAnyH_ready (rs := [0, 6]) (by kernel_rfl) (by simp) ?_
              refine AllReadyH.cons rfl (fun K hK => ?_) ?_
              · skip
                go_simp
                have B1 := Lib.hid (BD.out.trans ((one_bs w6.drew (.cells #[] 9)).mono BD.out.size))
                have S1 := Lib.hid (SAp.mk HO6.out.lt HO6.out.c2 HYW.out HSB.out B1.out)
                have OE1 := Lib.hid (own_nil1 w6.drew w6.heap.size (w6.heap.size) (by simp) BD.out.size)
                refine hK.out _ _ S1.out (fun _ => ?_)
                clear hK K
                try simp only [Act.put]
                refine wpAnyH_ready (rs := [2, 6]) (by kernel_rfl) (by simp) ?_
                refine AllReadyH.cons rfl (fun K hK => ?_) ?_
                · skip
                  refine step_append_src _ rfl (.tmp 91) (.tmp 92) 56 56 rfl w6.heap.size 9 i0 _ 1 16 Try.underlying56 HI0.out HZ0.out HZ1.out HZ2.out rfl (.slice (some ⟨w6.heap.size, 0, none⟩) 0 0) 0 (stc []) rfl OE1.out _ nh (stc L.l) rfl (HH6.out.s.keep B1.out).src (by unfold maxLen; omega) (by omega) B1.out.size ?_
                  intro vq2 wq2 hown hgrow hat
                  rw [Nat.zero_add, show stc [] ++ stc L.l = stc L.l from rfl] at hown
                  have O2 := Lib.hid hown
                  have B2 := Lib.hid (B1.out.grown hgrow B1.out.size (fun k e => by simp [Value.ownBlock] at e; omega))
                  have S2 := Lib.hid (SAp.mk HO6.out.lt HO6.out.c2 HYW.out HSB.out B2.out)
                  clear hown hgrow hat
                  refine hK.out _ _ S2.out (fun _ => ?_)
                  clear hK K
                  try simp only [Act.put, List.setIfInBounds_toArray]
                  refine wpAnyH_ready (rs := [6]) (by kernel_rfl) (by simp) ?_
                  refine AllReadyH.cons rfl (fun K hK => ?_) AllReadyH.nil
                  go_simp
                  have B3 := Lib.hid (B2.out.trans ((one_bs wq2 (.cells #[.string SB] 9)).mono B2.out.size))
                  have S3 := Lib.hid (SAp.mk HO6.out.lt HO6.out.c2 HYW.out HSB.out B3.out)
                  have SL3 := Lib.hid (ls_new wq2 sb SB (wq2.heap.size) (by simp) HSB.out)
                  have OW3 := Lib.hid (own_keep_s O2.out (one_bs wq2 (.cells #[.string SB] 9)) (fun b hb => (O2.out.lt b hb).2))
                  refine hK.out _ _ S3.out (fun _ => ?_)
                  clear hK K
                  try simp only [Act.put]
                  refine wpAnyH_ready (rs := [7]) (by kernel_rfl) (by simp) ?_
                  refine AllReadyH.cons rfl (fun K hK => ?_) AllReadyH.nil
                  refine step_append_src _ rfl (.tmp 93) (.tmp 97) 56 56 rfl w6.heap.size 9 i0 _ 1 16 Try.underlying56 HI0.out HZ0.out HZ1.out HZ2.out rfl vq2 nh (stc L.l) rfl OW3.out _ 1 (stc [sb]) rfl SL3.out.src (by unfold maxLen; omega) (by omega) B3.out.size ?_
                  intro vq4 wq4 hown hgrow hat
                  have hown2 : wq4.ownsRow w6.heap.size 9 1 vq4 (nh + 1) (stc (L.l ++ [sb])) := by rw [show stc (L.l ++ [sb]) = stc L.l ++ stc [sb] by simp [stc]]; exact hown
                  have B4 := Lib.hid (B3.out.grown hgrow B3.out.size (fun k e => (OW3.out.lt k e).1))
                  obtain ⟨aR, cR, rfl⟩ := own_form_s hown2
                  have HSS := Lib.hid (Ss.of_own hown2)
                  have S4 := Lib.hid (SAp.mk HO6.out.lt HO6.out.c2 HYW.out HSB.out B4.out)
                  clear hown hown2 hgrow hat
                  refine hK.out _ _ S4.out (fun _ => ?_)
                  clear hK K
                  try simp only [Act.put, List.setIfInBounds_toArray]
                  refine wpAnyH_take (i := 8) (v := ?v12) rfl (by kernel_rfl) (by kernel_rfl) (by kernel_rfl) (fun _ _ _ h => h) (Or.inl ⟨by rfl, ?hy12⟩) S4.out ?rest12
                  case hy12 => (intro w' hSw; obtain ⟨_, _, _⟩ := hSw; go_simp; with_reducible rfl)
                  try simp only [Act.put]
                  refine wpAnyH_done (by kernel_rfl) ?_ _
                  simp only [List.setIfInBounds_toArray, List.getElem_toArray, List.getElem_cons_succ, List.getElem_cons_zero]
                  refine NoPanic.normal ?_
                  have HBR := Lib.hid B4.out
                  have hnh2 : nh + 1 ≤ 100 := by omega
                  clear hnj
                  go_wp2
                  go_meet
                  exact ⟨d2, L2, F6, G6, L.l, L.l ++ [sb], L.h.body, L.h.body, ah, nh, ch, aR, nh + 1, cR, S, S, rfl, rfl, rfl, rfl, hnh, hnh2, ⟨by have := HC.out.1; omega, by have := HC.out.1; omega, HC.out.2, HC.out.2⟩, HMD.out, HL6.out.below HV.out HU.out HBR.out, HH6.out.keep HBR.out, Hv.new HSS.out hg6 HLT6.out, HO6.out.keep HBR.out, HB6.out.trans (HBR.out.mono hg6)⟩
                · refine AllReadyH.cons rfl (fun K hK => ?_) AllReadyH.nil
                  go_simp
                  have B5 := Lib.hid (B1.out.trans ((one_bs (w6.drew.alloc (.cells #[] 9)) (.cells #[.string SB] 9)).mono B1.out.size))
                  have S5 := Lib.hid (SAp.mk HO6.out.lt HO6.out.c2 HYW.out HSB.out B5.out)
                  have SL5 := Lib.hid (ls_new (w6.drew.alloc (.cells #[] 9)) sb SB (w6.heap.size + 1) (by simp) HSB.out)
                  have OW5 := Lib.hid (own_keep_s OE1.out (one_bs (w6.drew.alloc (.cells #[] 9)) (.cells #[.string SB] 9)) (fun b hb => (OE1.out.lt b hb).2))
                  refine hK.out _ _ S5.out (fun _ => ?_)
                  clear hK K
                  try simp only [Act.put]
                  refine wpAnyH_ready (rs := [2]) (by kernel_rfl) (by simp) ?_
                  refine AllReadyH.cons rfl (fun K hK => ?_) AllReadyH.nil
                  refine step_append_src _ rfl (.tmp 91) (.tmp 92) 56 56 rfl w6.heap.size 9 i0 _ 1 16 Try.underlying56 HI0.out HZ0.out HZ1.out HZ2.out rfl (.slice (some ⟨w6.heap.size, 0, none⟩) 0 0) 0 (stc []) rfl OW5.out _ nh (stc L.l) rfl (HH6.out.s.keep B5.out).src (by unfold maxLen; omega) (by omega) B5.out.size ?_
                  intro vq6 wq6 hown hgrow hat
                  rw [Nat.zero_add, show stc [] ++ stc L.l = stc L.l from rfl] at hown
                  have O6 := Lib.hid hown
                  have B6 := Lib.hid (B5.out.grown hgrow B5.out.size (fun k e => by simp [Value.ownBlock] at e; omega))
                  have S6 := Lib.hid (SAp.mk HO6.out.lt HO6.out.c2 HYW.out HSB.out B6.out)
                  have SG6 := Lib.hid (SL5.out.grown hgrow (by simp [Value.ownBlock]))
                  clear hown hgrow hat
                  refine hK.out _ _ S6.out (fun _ => ?_)
                  clear hK K
                  try simp only [Act.put, List.setIfInBounds_toArray]
                  refine wpAnyH_ready (rs := [7]) (by kernel_rfl) (by simp) ?_
                  refine AllReadyH.cons rfl (fun K hK => ?_) AllReadyH.nil
                  refine step_append_src _ rfl (.tmp 93) (.tmp 97) 56 56 rfl w6.heap.size 9 i0 _ 1 16 Try.underlying56 HI0.out HZ0.out HZ1.out HZ2.out rfl vq6 nh (stc L.l) rfl O6.out _ 1 (stc [sb]) rfl SG6.out.src (by unfold maxLen; omega) (by omega) B6.out.size ?_
                  intro vq7 wq7 hown hgrow hat
                  have hown2 : wq7.ownsRow w6.heap.size 9 1 vq7 (nh + 1) (stc (L.l ++ [sb])) := by rw [show stc (L.l ++ [sb]) = stc L.l ++ stc [sb] by simp [stc]]; exact hown
                  have B7 := Lib.hid (B6.out.grown hgrow B6.out.size (fun k e => (O6.out.lt k e).1))
                  obtain ⟨aR, cR, rfl⟩ := own_form_s hown2
                  have HSS := Lib.hid (Ss.of_own hown2)
                  have S7 := Lib.hid (SAp.mk HO6.out.lt HO6.out.c2 HYW.out HSB.out B7.out)
                  clear hown hown2 hgrow hat
                  refine hK.out _ _ S7.out (fun _ => ?_)
                  clear hK K
                  try simp only [Act.put]
                  refine wpAnyH_take (i := 8) (v := ?v13) rfl (by kernel_rfl) (by kernel_rfl) (by kernel_rfl) (fun _ _ _ h => h) (Or.inl ⟨by rfl, ?hy13⟩) S7.out ?rest13
                  case hy13 => (intro w' hSw; obtain ⟨_, _, _⟩ := hSw; go_simp; with_reducible rfl)
                  try simp only [Act.put]
                  refine wpAnyH_done (by kernel_rfl) ?_ _
                  simp only [List.setIfInBounds_toArray, List.getElem_toArray, List.getElem_cons_succ, List.getElem_cons_zero]
                  refine NoPanic.normal ?_
                  have HBR := Lib.hid B7.out
                  have hnh2 : nh + 1 ≤ 100 := by omega
                  clear hnj
                  go_wp2
                  go_meet
                  exact ⟨d2, L2, F6, G6, L.l, L.l ++ [sb], L.h.body, L.h.body, ah, nh, ch, aR, nh + 1, cR, S, S, rfl, rfl, rfl, rfl, hnh, hnh2, ⟨by have := HC.out.1; omega, by have := HC.out.1; omega, HC.out.2, HC.out.2⟩, HMD.out, HL6.out.below HV.out HU.out HBR.out, HH6.out.keep HBR.out, Hv.new HSS.out hg6 HLT6.out, HO6.out.keep HBR.out, HB6.out.trans (HBR.out.mono hg6)⟩
              · refine AllReadyH.cons rfl (fun K hK => ?_) AllReadyH.nil
                go_simp
                have B8 := Lib.hid (BD.out.trans ((one_bs w6.drew (.cells #[.string SB] 9)).mono BD.out.size))
                have S8 := Lib.hid (SAp.mk HO6.out.lt HO6.out.c2 HYW.out HSB.out B8.out)
                have SL8 := Lib.hid (ls_new w6.drew sb SB (w6.heap.size) (by simp) HSB.out)
                refine hK.out _ _ S8.out (fun _ => ?_)
                clear hK K
                try simp only [Act.put]
                refine wpAnyH_ready (rs := [0]) (by kernel_rfl) (by simp) ?_
                refine AllReadyH.cons rfl (fun K hK => ?_) AllReadyH.nil
                go_simp
                have B9 := Lib.hid (B8.out.trans ((one_bs (w6.drew.alloc (.cells #[.string SB] 9)) (.cells #[] 9)).mono B8.out.size))
                have S9 := Lib.hid (SAp.mk HO6.out.lt HO6.out.c2 HYW.out HSB.out B9.out)
                have OE9 := Lib.hid (own_nil1 (w6.drew.alloc (.cells #[.string SB] 9)) w6.heap.size (w6.heap.size + 1) (by simp) B8.out.size)
                have SK9 := Lib.hid (SL8.out.keep (one_bs (w6.drew.alloc (.cells #[.string SB] 9)) (.cells #[] 9)))
                refine hK.out _ _ S9.out (fun _ => ?_)
                clear hK K
                try simp only [Act.put]
                refine wpAnyH_ready (rs := [2]) (by kernel_rfl) (by simp) ?_
                refine AllReadyH.cons rfl (fun K hK => ?_) AllReadyH.nil
                refine step_append_src _ rfl (.tmp 91) (.tmp 92) 56 56 rfl w6.heap.size 9 i0 _ 1 16 Try.underlying56 HI0.out HZ0.out HZ1.out HZ2.out rfl (.slice (some ⟨w6.heap.size + 1, 0, none⟩) 0 0) 0 (stc []) rfl OE9.out _ nh (stc L.l) rfl (HH6.out.s.keep B9.out).src (by unfold maxLen; omega) (by omega) B9.out.size ?_
                intro vq10 wq10 hown hgrow hat
                rw [Nat.zero_add, show stc [] ++ stc L.l = stc L.l from rfl] at hown
                have O10 := Lib.hid hown
                have B10 := Lib.hid (B9.out.grown hgrow B9.out.size (fun k e => by simp [Value.ownBlock] at e; omega))
                have S10 := Lib.hid (SAp.mk HO6.out.lt HO6.out.c2 HYW.out HSB.out B10.out)
                have SG10 := Lib.hid (SK9.out.grown hgrow (by simp [Value.ownBlock]))
                clear hown hgrow hat
                refine hK.out _ _ S10.out (fun _ => ?_)
                clear hK K
                try simp only [Act.put, List.setIfInBounds_toArray]
                refine wpAnyH_ready (rs := [7]) (by kernel_rfl) (by simp) ?_
                refine AllReadyH.cons rfl (fun K hK => ?_) AllReadyH.nil
                refine step_append_src _ rfl (.tmp 93) (.tmp 97) 56 56 rfl w6.heap.size 9 i0 _ 1 16 Try.underlying56 HI0.out HZ0.out HZ1.out HZ2.out rfl vq10 nh (stc L.l) rfl O10.out _ 1 (stc [sb]) rfl SG10.out.src (by unfold maxLen; omega) (by omega) B10.out.size ?_
                intro vq11 wq11 hown hgrow hat
                have hown2 : wq11.ownsRow w6.heap.size 9 1 vq11 (nh + 1) (stc (L.l ++ [sb])) := by rw [show stc (L.l ++ [sb]) = stc L.l ++ stc [sb] by simp [stc]]; exact hown
                have B11 := Lib.hid (B10.out.grown hgrow B10.out.size (fun k e => (O10.out.lt k e).1))
                obtain ⟨aR, cR, rfl⟩ := own_form_s hown2
                have HSS := Lib.hid (Ss.of_own hown2)
                have S11 := Lib.hid (SAp.mk HO6.out.lt HO6.out.c2 HYW.out HSB.out B11.out)
                clear hown hown2 hgrow hat
                refine hK.out _ _ S11.out (fun _ => ?_)
                clear hK K
                try simp only [Act.put]
                refine wpAnyH_take (i := 8) (v := ?v14) rfl (by kernel_rfl) (by kernel_rfl) (by kernel_rfl) (fun _ _ _ h => h) (Or.inl ⟨by rfl, ?hy14⟩) S11.out ?rest14
                case hy14 => (intro w' hSw; obtain ⟨_, _, _⟩ := hSw; go_simp; with_reducible rfl)
                try simp only [Act.put]
                refine wpAnyH_done (by kernel_rfl) ?_ _
                simp only [List.setIfInBounds_toArray, List.getElem_toArray, List.getElem_cons_succ, List.getElem_cons_zero]
                refine NoPanic.normal ?_
                have HBR := Lib.hid B11.out
                have hnh2 : nh + 1 ≤ 100 := by omega
                clear hnj
                go_wp2
                go_meet
                exact ⟨d2, L2, F6, G6, L.l, L.l ++ [sb], L.h.body, L.h.body, ah, nh, ch, aR, nh + 1, cR, S, S, rfl, rfl, rfl, rfl, hnh, hnh2, ⟨by have := HC.out.1; omega, by have := HC.out.1; omega, HC.out.2, HC.out.2⟩, HMD.out, HL6.out.below HV.out HU.out HBR.out, HH6.out.keep HBR.out, Hv.new HSS.out hg6 HLT6.out, HO6.out.keep HBR.out, HB6.out.trans (HBR.out.mono hg6)⟩
        case rest =>
          obtain ⟨d2, L2, F2, G2, LA, LW, BA, BO, ah, nh, ch, aw, nw, cw, SA, SO, rfl, rfl, rfl, rfl, hnh, hnw, HC2, HMD, HLD, HH, HW, HO, HB⟩ := hcut
          have hwc := HB.out.size
          obtain ⟨h1, l1, a1, hmd, hor⟩ := HMD.out.2 rs
          have HM1 := Lib.hid hmd
          have HOR := Lib.hid hor
          have HW1 : Hid (d2.ws.length ≤ 1000) := by show _ ≤ _; have := HMD.out.1; omega
          obtain ⟨op, cc, d4, he4, hw4s, hop, hcr⟩ := Lm.md_lim HM1.out (show 1 + 4 * j + 1 ≤ 200 by omega) (y : Int) HXM.out.2
          obtain ⟨h2, hmd2, hb2⟩ := hcr rs
          obtain ⟨Lm1, d6, he6, hcg6, hl6, hbd6⟩ := Lm.md_open hmd2 (show 1 + 4 * j + 1 + 1 ≤ 200 by omega)
          obtain ⟨Lp1, d7, he7, hcg7, hl7, hbd7⟩ := Lm.md_open hcg6.md (show 1 + 4 * j + 1 + 1 + 1 ≤ 200 by omega)
          have HE4 := Lib.hid he4; have HE6 := Lib.hid he6; have HE7 := Lib.hid he7
          have HW4 : Hid (d4.ws.length ≤ 1000) := by show _ ≤ _; omega
          have HM2 := Lib.hid hmd2; have HCM0 := Lib.hid hcg6
          have HCP0 : Hid (Lm.Cg (2 + 45 * (j + 1)) (1 + 4 * (j + 1)) d7 Lp1) := hcg7.le (by omega) (by omega)
          have HDL1 := Lib.hid (HM1.out.dlb (by omega) (y : Int) HXM.out.2)
          have HDL6 := Lib.hid (HM2.out.dl (by omega))
          have HDL7 := Lib.hid (HCM0.out.md.dl (by omega))
          have HLL1 : Hid (Lm1.l = l1) := hl6
          have HLL2 : Hid (Lp1.l = l1) := hl7.trans hl6
          have HBB1 : Hid (Lm1.h.body = h1.body) := hbd6.trans hb2
          have HBB2 : Hid (Lp1.h.body = h1.body) := hbd7.trans (hbd6.trans hb2)
          clear hmd hor he4 hw4s hcr hmd2 hb2 he6 hcg6 hl6 hbd6 he7 hcg7 hl7 hbd7 HMD HLB HNB HY0 HC HCG HL HB3 HH5 HL5 HB5 HO5 HNX hw1 hw2 hm6 hg5 k0 q25 qz q400
          go_wp2_with fail
          refine (HLD.out.crash ra rn rc rs HV.out HU.out HW1.out (HR.out.keep HB.out) HR1.out (far_it HR.out rfl HLD.out.of) HB.out hwc).mono ?_
          rintro e w7 ⟨rfl, F7, HL7, HB7, HC7⟩
          have HH7 := Lib.hid (HH.out.step HC7.out); have HW7 := Lib.hid (HW.out.step HC7.out); have HO7 := Lib.hid (HO.out.step HC7.out)
          have hg7 := HB7.out.size
          have k1 := HO7.out.c1
          clear HC7 HLD HH HW HO HB hwc
          go_wp2_with fail
          refine (HL7.out.limit (y : Int) HV.out HU.out HNY.out HB7.out hg7).mono ?_
          rintro e w8 ⟨rfl, F8, HL8, HB8, HC8⟩
          have HH8 := Lib.hid (HH7.out.step HC8.out); have HW8 := Lib.hid (HW7.out.step HC8.out)
          have hg8 := HB8.out.size
          clear HC8 HL7 HH7 HW7 HO7 HB7 hg7 k1 hw3 hw5 hw4
          go_upto_region 24 with (fail)
          go_cut [5] (fun dv wx => ∃ F9 : Nat → Prop, dv = .pointer (some ⟨g, 0, none⟩) ∧ Hid (Ld Dev Log w.heap.size g gl d4 L2 F9 G2 wx) ∧ Hid (Hv w.heap.size F9 G2 ah nh ch LA wx) ∧ Hid (Hv w.heap.size F9 G2 aw nw cw LW wx) ∧ Hid (Below w.heap.size w wx))
          case first =>
            rcases hop with rfl | ⟨Lx, rfl, rfl⟩
            · go_wp2_with fail
              refine (HL8.out.openNo HV.out HU.out HDL1.out ⟨by omega, by omega⟩ HB8.out hg8 HE4.out).mono ?_
              rintro e w9 ⟨rfl, F9, HL9, HB9, HC9⟩
              have HH9 := Lib.hid (HH8.out.step HC9.out); have HW9 := Lib.hid (HW8.out.step HC9.out)
              clear HC9 HL8 HH8 HW8 HB8 hg8
              go_wp2
              go_meet
              exact ⟨F9, rfl, HL9, HH9, HW9, HB9⟩
            · go_wp2_with fail
              refine (HL8.out.open HV.out HU.out HDL1.out ⟨by omega, by omega⟩ HB8.out hg8 HE4.out).mono ?_
              rintro e w9 ⟨gx, F9, G9, rfl, _, HB9, HC9, HL9⟩
              have HH9 := Lib.hid (HH8.out.old HC9.out); have HW9 := Lib.hid (HW8.out.old HC9.out)
              clear HC9 HL8 HH8 HW8 HB8 hg8
              go_wp2
              go_meet
              exact ⟨F9, rfl, HL9, HH9, HW9, HB9⟩
          case rest =>
            obtain ⟨F9, rfl, HL9, HH9, HW9, HB9⟩ := hcut
            have hg9 := HB9.out.size
            clear HL8 HH8 HW8 HB8 hg8 hop HE4 HDL1
            go_wp2_with fail
            refine (HL9.out.crash ra rn rc rs HV.out HU.out HW4.out (HR.out.keep HB9.out) HR1.out (far_it HR.out rfl HL9.out.of) HB9.out hg9).mono ?_
            rintro e w10 ⟨rfl, F10, HL10, HB10, HC10⟩
            have HH10 := Lib.hid (HH9.out.step HC10.out); have HW10 := Lib.hid (HW9.out.step HC10.out)
            have hg10 := HB10.out.size
            clear HC10 HL9 HH9 HW9 HB9 hg9
            go_wp2_with fail
            refine (HL10.out.open HV.out HU.out HDL6.out ⟨by omega, by omega⟩ HB10.out hg10 HE6.out).mono ?_
            rintro e w11 ⟨gm, F11, G11, rfl, HL11, HB11, HC11, _⟩
            have HH11 := Lib.hid (HH10.out.step HC11.out); have HW11 := Lib.hid (HW10.out.step HC11.out)
            have hg11 := HB11.out.size
            clear HC11 HL10 HH10 HW10 HB10 hg10
            go_wp2_with fail
            refine (HL11.out.open HV.out HU.out HDL7.out ⟨by omega, by omega⟩ HB11.out hg11 HE7.out).mono ?_
            rintro e wa ⟨gp, FA, GA, rfl, HLP, HBA, HCA, HLM⟩
            have HHA := Lib.hid (HH11.out.step HCA.out); have HWA := Lib.hid (HW11.out.step HCA.out)
            have hga := HBA.out.size
            clear HCA HL11 HH11 HW11 HB11 hg11
            obtain ⟨S1, hS1⟩ : ∃ S1, S1 = st h1.body := ⟨_, rfl⟩
            have HS1 := Lib.hid hS1
            have hsn : (S1.toList != S1.toList) = false := by simp
            have hss : (S1.toList == S1.toList) = true := by simp
            have HPM : Hid (Lp1.l = Lm1.l) := HLL2.out.trans HLL1.out.symm
            have HCP := Lib.hid HCP0.out
            have HCM := Lib.hid HCM0.out
            have HPL : Hid (Lp1.l.length ≤ 1000) := by show _ ≤ _; have := HCP.out.k.l; have := HCP.out.k.at_; have := HCP.out.v.frm; omega
            have HML : Hid (Lm1.l.length ≤ 1000) := by show _ ≤ _; have := HCM.out.k.l; have := HCM.out.k.at_; have := HCM.out.v.frm; omega
            have HK200 : Hid (d7.kept.length ≤ 200) := by show _ ≤ _; have := HCP.out.v.rp.len; omega
            have HK200m : Hid (d6.kept.length ≤ 200) := by show _ ≤ _; have := HCM.out.v.rp.len; omega
            have HPB := HBB2; have HMB := HBB1
            clear hS1 HE6 HE7 HDL6 HDL7 HM1 HM2 HCP0 HCM0
            go_upto_region 28 with (fail)
            go_cut [147] (fun bv wx => bv = .bool false ∧ Hid (Below wa.heap.size wa wx))
            case first => as_aux_lemma =>
              go_upto_region 28 with (fail)
              refine wp_region_noPanic ?_
              have BD := Lib.hid (below_drw wa)
              refine wp_region_held_drew (S := fun w' => Hid (Below wa.heap.size wa w')) (by kernel_rfl) BD (fun _ => ?_)
              refine wpAnyH_take (i := 0) (v := ?v1001) rfl (by kernel_rfl) (by kernel_rfl) (by kernel_rfl) (fun _ _ _ h => h) (Or.inl ⟨by rfl, ?hy1001⟩) BD ?rest1001
              case hy1001 => (intro w' hSw; go_simp; with_reducible rfl)
              try simp only [Act.put, List.getElem_toArray, List.getElem_cons_zero, List.setIfInBounds_toArray, List.set_cons_zero, List.set_cons_succ]
              refine wpAnyH_take (i := 1) (v := ?v1002) rfl (by kernel_rfl) (by kernel_rfl) (by kernel_rfl) (fun _ _ _ h => h) (Or.inl ⟨by rfl, ?hy1002⟩) BD ?rest1002
              case hy1002 => (intro w' hSw; go_simp; with_reducible rfl)
              try simp only [Act.put, List.getElem_toArray, List.getElem_cons_succ, List.getElem_cons_zero, List.setIfInBounds_toArray, List.set_cons_zero, List.set_cons_succ]
              refine wpAnyH_take (i := 2) (v := ?v1003) rfl (by kernel_rfl) (by kernel_rfl) (by kernel_rfl) (fun _ _ _ h => h) (Or.inl ⟨by rfl, ?hy1003⟩) BD ?rest1003
              case hy1003 => (intro w' hSw; go_simp; with_reducible rfl)
              try simp only [Act.put, List.getElem_toArray, List.getElem_cons_succ, List.getElem_cons_zero, List.setIfInBounds_toArray, List.set_cons_zero, List.set_cons_succ]
              refine wpAnyH_take (i := 3) (v := ?v1004) rfl (by kernel_rfl) (by kernel_rfl) (by kernel_rfl) (fun _ _ _ h => h) (Or.inl ⟨by rfl, ?hy1004⟩) BD ?rest1004
              case hy1004 => (intro w' hSw; go_simp; with_reducible rfl)
              try simp only [Act.put, List.getElem_toArray, List.getElem_cons_succ, List.getElem_cons_zero, List.setIfInBounds_toArray, List.set_cons_zero, List.set_cons_succ]
              refine wpAnyH_take (i := 4) (v := ?v1005) rfl (by kernel_rfl) (by kernel_rfl) (by kernel_rfl) (fun _ _ _ h => h) (Or.inl ⟨by rfl, ?hy1005⟩) BD ?rest1005
              case hy1005 => (intro w' hSw; go_simp; with_reducible rfl)
              try simp only [Act.put, List.getElem_toArray, List.getElem_cons_succ, List.getElem_cons_zero, List.setIfInBounds_toArray, List.set_cons_zero, List.set_cons_succ]
              refine wpAnyH_take (i := 5) (v := ?v1006) rfl (by kernel_rfl) (by kernel_rfl) (by kernel_rfl) (fun _ _ _ h => h) (Or.inl ⟨by rfl, ?hy1006⟩) BD ?rest1006
              case hy1006 => (intro w' hSw; go_simp; with_reducible rfl)
              try simp only [Act.put, List.getElem_toArray, List.getElem_cons_succ, List.getElem_cons_zero, List.setIfInBounds_toArray, List.set_cons_zero, List.set_cons_succ]
              refine wpAnyH_take (i := 6) (v := ?v1007) rfl (by kernel_rfl) (by kernel_rfl) (by kernel_rfl) (fun _ _ _ h => h) (Or.inl ⟨by rfl, ?hy1007⟩) BD ?rest1007
              case hy1007 => (intro w' hSw; go_simp; with_reducible rfl)
              try simp only [Act.put, List.getElem_toArray, List.getElem_cons_succ, List.getElem_cons_zero, List.setIfInBounds_toArray, List.set_cons_zero, List.set_cons_succ]
              refine wpAnyH_take (i := 7) (v := ?v1008) rfl (by kernel_rfl) (by kernel_rfl) (by kernel_rfl) (fun _ _ _ h => h) (Or.inl ⟨by rfl, ?hy1008⟩) BD ?rest1008
              case hy1008 => (intro w' hSw; go_simp; with_reducible rfl)
              try simp only [Act.put, List.getElem_toArray, List.getElem_cons_succ, List.getElem_cons_zero, List.setIfInBounds_toArray, List.set_cons_zero, List.set_cons_succ]
              refine wpAnyH_take (i := 9) (v := ?v1009) rfl (by kernel_rfl) (by kernel_rfl) (by kernel_rfl) (fun _ _ _ h => h) (Or.inl ⟨by rfl, ?hy1009⟩) BD ?rest1009
              case hy1009 => (intro w' hSw; go_simp; with_reducible rfl)
              try simp only [Act.put, List.getElem_toArray, List.getElem_cons_succ, List.getElem_cons_zero, List.setIfInBounds_toArray, List.set_cons_zero, List.set_cons_succ]
              refine wpAnyH_ready (rs := [8]) (by kernel_rfl) (by simp) ?_
              refine AllReadyH.cons rfl (fun K hK => ?_) AllReadyH.nil
              go_simp
              go_wp2_with (go_at_call 15; refine (HU.out.batches (HU.out.below HLP.out.l BD.out) HCP.out.k HK200.out).mono ?_; rintro e wc1 ⟨pa, pn, pc, rfl, kp, hb1⟩)
              have BC1 := Lib.hid (BD.out.trans (hb1.mono BD.out.size))
              have KP := Lib.hid kp
              clear kp
              clear hb1
              refine hK.out _ _ BC1 (fun _ => ?_)
              clear hK K
              try simp only [Act.put, List.getElem_toArray, List.getElem_cons_succ, List.getElem_cons_zero, List.setIfInBounds_toArray, List.set_cons_zero, List.set_cons_succ]
              refine wpAnyH_ready (rs := [10]) (by kernel_rfl) (by simp) ?_
              refine AllReadyH.cons rfl (fun K hK => ?_) AllReadyH.nil
              go_simp
              go_wp2_with (go_at_call 15; refine (HU.out.batches (HU.out.below HLM.out.l BC1.out) HCM.out.k HK200m.out).mono ?_; rintro e wc2 ⟨ma, mn, mc, rfl, km, hb2⟩)
              have BC2 := Lib.hid (BC1.out.trans (hb2.mono BC1.out.size))
              have KM := Lib.hid km
              have KP2 := Lib.hid (KP.out.keep hb2)
              clear km
              clear hb2
              refine hK.out _ _ BC2 (fun _ => ?_)
              clear hK K
              try simp only [Act.put, List.getElem_toArray, List.getElem_cons_succ, List.getElem_cons_zero, List.setIfInBounds_toArray, List.set_cons_zero, List.set_cons_succ]
              refine wpAnyH_ready (rs := [11]) (by kernel_rfl) (by simp) ?_
              refine AllReadyH.cons rfl (fun K hK => ?_) AllReadyH.nil
              go_simp
              go_wp2_with (go_at_call 31; refine (law_texts _ ma mn mc _ _ KM.out HML.out).mono ?_; rintro e wc3 ⟨xa, xn, xc, rfl, kt, hb3⟩)
              have BC3 := Lib.hid (BC2.out.trans (hb3.mono BC2.out.size))
              have KT := Lib.hid kt
              have KP3 := Lib.hid (KP2.out.keep hb3)
              clear kt
              clear hb3
              refine hK.out _ _ BC3 (fun _ => ?_)
              clear hK K
              try simp only [Act.put, List.getElem_toArray, List.getElem_cons_succ, List.getElem_cons_zero, List.setIfInBounds_toArray, List.set_cons_zero, List.set_cons_succ]
              refine wpAnyH_ready (rs := [12]) (by kernel_rfl) (by simp) ?_
              refine AllReadyH.cons rfl (fun K hK => ?_) AllReadyH.nil
              go_simp
              go_wp2_with (go_at_call 27; refine (ref7_same _ pa pn pc _ _ xa xn xc _ _ KP3.out KT.out HPL.out HML.out).mono ?_; rintro e wc4 ⟨rfl, hb4⟩)
              have BC4 := Lib.hid (BC3.out.trans (hb4.mono BC3.out.size))
              rw [decide_eq_true (HPM.out)]
              clear hb4
              refine hK.out _ _ BC4 (fun _ => ?_)
              clear hK K
              try simp only [Act.put, List.getElem_toArray, List.getElem_cons_succ, List.getElem_cons_zero, List.setIfInBounds_toArray, List.set_cons_zero, List.set_cons_succ]
              refine wpAnyH_take (i := 13) (v := ?v1010) rfl (by kernel_rfl) (by kernel_rfl) (by kernel_rfl) (fun _ _ _ h => h) (Or.inl ⟨by rfl, ?hy1010⟩) BC4 ?rest1010
              case hy1010 => (intro w' hSw; go_simp; with_reducible rfl)
              try simp only [Act.put, List.getElem_toArray, List.getElem_cons_succ, List.getElem_cons_zero, List.setIfInBounds_toArray, List.set_cons_zero, List.set_cons_succ]
              refine wpAnyH_take (i := 14) (v := ?v1011) rfl (by kernel_rfl) (by kernel_rfl) (by kernel_rfl) (fun _ _ _ h => h) (Or.inl ⟨by rfl, ?hy1011⟩) BC4 ?rest1011
              case hy1011 => (intro w' hSw; go_simp; with_reducible rfl)
              try simp only [Act.put, List.getElem_toArray, List.getElem_cons_succ, List.getElem_cons_zero, List.setIfInBounds_toArray, List.set_cons_zero, List.set_cons_succ]
              refine wpAnyH_take (i := 15) (v := ?v1012) rfl (by kernel_rfl) (by kernel_rfl) (by kernel_rfl) (fun _ _ _ h => h) (Or.inl ⟨by rfl, ?hy1012⟩) BC4 ?rest1012
              case hy1012 => (intro w' hSw; go_simp; with_reducible rfl)
              try simp only [Act.put, List.getElem_toArray, List.getElem_cons_succ, List.getElem_cons_zero, List.setIfInBounds_toArray, List.set_cons_zero, List.set_cons_succ]
              refine wpAnyH_take (i := 16) (v := ?v1013) rfl (by kernel_rfl) (by kernel_rfl) (by kernel_rfl) (fun _ _ _ h => h) (Or.inl ⟨by rfl, ?hy1013⟩) BC4 ?rest1013
              case hy1013 => (intro w' hSw; go_simp; with_reducible rfl)
              try simp only [Act.put, List.getElem_toArray, List.getElem_cons_succ, List.getElem_cons_zero, List.setIfInBounds_toArray, List.set_cons_zero, List.set_cons_succ]
              refine wpAnyH_take (i := 19) (v := ?v1014) rfl (by kernel_rfl) (by kernel_rfl) (by kernel_rfl) (fun _ _ _ h => h) (Or.inl ⟨by rfl, ?hy1014⟩) BC4 ?rest1014
              case hy1014 => (intro w' hSw; go_simp; with_reducible rfl)
              try simp only [Act.put, List.getElem_toArray, List.getElem_cons_succ, List.getElem_cons_zero, List.setIfInBounds_toArray, List.set_cons_zero, List.set_cons_succ]
              refine wpAnyH_ready (rs := [17]) (by kernel_rfl) (by simp) ?_
              refine AllReadyH.cons rfl (fun K hK => ?_) AllReadyH.nil
              go_simp
              go_wp2_with (go_at_call 14; refine (HU.out.head (HU.out.below HLP.out.l BC4.out) HCP.out.k).mono ?_; rintro e wc5 ⟨ha, hn, hc, rfl, kh, hb5⟩)
              have BC5 := Lib.hid (BC4.out.trans (hb5.mono BC4.out.size))
              have KH := Lib.hid kh
              clear kh
              clear hb5
              refine hK.out _ _ BC5 (fun _ => ?_)
              clear hK K
              try simp only [Act.put, List.getElem_toArray, List.getElem_cons_succ, List.getElem_cons_zero, List.setIfInBounds_toArray, List.set_cons_zero, List.set_cons_succ]
              refine wpAnyH_ready (rs := [18, 20]) (by kernel_rfl) (by simp) ?_
              refine AllReadyH.cons rfl (fun K hK => ?_) ?_
              · skip
                have hcvv := Yt.str (by have := KH.out.2.1; rw [HPB.out] at this; exact this)
                rw [bstr_st7w, ← HS1.out] at hcvv
                go_simp
                clear hcvv
                refine hK.out _ _ BC5 (fun _ => ?_)
                clear hK K
                try simp only [Act.put, List.getElem_toArray, List.getElem_cons_succ, List.getElem_cons_zero, List.setIfInBounds_toArray, List.set_cons_zero, List.set_cons_succ]
                refine wpAnyH_ready (rs := [20]) (by kernel_rfl) (by simp) ?_
                refine AllReadyH.cons rfl (fun K hK => ?_) AllReadyH.nil
                go_simp
                go_wp2_with (go_at_call 14; refine (HU.out.head (HU.out.below HLM.out.l BC5.out) HCM.out.k).mono ?_; rintro e wc6 ⟨ga, gn, gc, rfl, kg, hb6⟩)
                have BC6 := Lib.hid (BC5.out.trans (hb6.mono BC5.out.size))
                have KG := Lib.hid kg
                have KH6 := Lib.hid (KH.out.keep hb6)
                clear kg
                clear hb6
                refine hK.out _ _ BC6 (fun _ => ?_)
                clear hK K
                try simp only [Act.put, List.getElem_toArray, List.getElem_cons_succ, List.getElem_cons_zero, List.setIfInBounds_toArray, List.set_cons_zero, List.set_cons_succ]
                refine wpAnyH_ready (rs := [21]) (by kernel_rfl) (by simp) ?_
                refine AllReadyH.cons rfl (fun K hK => ?_) AllReadyH.nil
                have hcvv := Yt.str (by have := KG.out.2.1; rw [HMB.out] at this; exact this)
                rw [bstr_st7w, ← HS1.out] at hcvv
                go_simp
                clear hcvv
                refine hK.out _ _ BC6 (fun _ => ?_)
                clear hK K
                try simp only [Act.put, List.getElem_toArray, List.getElem_cons_succ, List.getElem_cons_zero, List.setIfInBounds_toArray, List.set_cons_zero, List.set_cons_succ]
                refine wpAnyH_take (i := 22) (v := ?v1015) rfl (by kernel_rfl) (by kernel_rfl) (by kernel_rfl) (fun _ _ _ h => h) (Or.inl ⟨by rfl, ?hy1015⟩) BC6 ?rest1015
                case hy1015 => (intro w' hSw; go_simp; with_reducible rfl)
                try simp only [Act.put, List.getElem_toArray, List.getElem_cons_succ, List.getElem_cons_zero, List.setIfInBounds_toArray, List.set_cons_zero, List.set_cons_succ]
                refine wpAnyH_take (i := 23) (v := ?v1016) rfl (by kernel_rfl) (by kernel_rfl) (by kernel_rfl) (fun _ _ _ h => h) (Or.inl ⟨by rfl, ?hy1016⟩) BC6 ?rest1016
                case hy1016 => (intro w' hSw; go_simp; with_reducible rfl)
                try simp only [Act.put, List.getElem_toArray, List.getElem_cons_succ, List.getElem_cons_zero, List.setIfInBounds_toArray, List.set_cons_zero, List.set_cons_succ]
                refine wpAnyH_done (by kernel_rfl) ?_ _
                try simp only [Act.put, List.setIfInBounds_toArray, List.getElem_toArray, List.getElem_cons_succ, List.getElem_cons_zero]
                refine NoPanic.normal ?_
                have HBR := Lib.hid BC6.out
                go_wp2
                go_meet
                exact ⟨rfl, HBR.out⟩
              · refine AllReadyH.cons rfl (fun K hK => ?_) AllReadyH.nil
                go_simp
                go_wp2_with (go_at_call 14; refine (HU.out.head (HU.out.below HLM.out.l BC5.out) HCM.out.k).mono ?_; rintro e wc7 ⟨ga, gn, gc, rfl, kg, hb7⟩)
                have BC7 := Lib.hid (BC5.out.trans (hb7.mono BC5.out.size))
                have KG := Lib.hid kg
                have KH7 := Lib.hid (KH.out.keep hb7)
                clear kg
                clear hb7
                refine hK.out _ _ BC7 (fun _ => ?_)
                clear hK K
                try simp only [Act.put, List.getElem_toArray, List.getElem_cons_succ, List.getElem_cons_zero, List.setIfInBounds_toArray, List.set_cons_zero, List.set_cons_succ]
                refine wpAnyH_ready (rs := [18, 21]) (by kernel_rfl) (by simp) ?_
                refine AllReadyH.cons rfl (fun K hK => ?_) ?_
                · skip
                  have hcvv := Yt.str (by have := KH7.out.2.1; rw [HPB.out] at this; exact this)
                  rw [bstr_st7w, ← HS1.out] at hcvv
                  go_simp
                  clear hcvv
                  refine hK.out _ _ BC7 (fun _ => ?_)
                  clear hK K
                  try simp only [Act.put, List.getElem_toArray, List.getElem_cons_succ, List.getElem_cons_zero, List.setIfInBounds_toArray, List.set_cons_zero, List.set_cons_succ]
                  refine wpAnyH_ready (rs := [21]) (by kernel_rfl) (by simp) ?_
                  refine AllReadyH.cons rfl (fun K hK => ?_) AllReadyH.nil
                  have hcvv := Yt.str (by have := KG.out.2.1; rw [HMB.out] at this; exact this)
                  rw [bstr_st7w, ← HS1.out] at hcvv
                  go_simp
                  clear hcvv
                  refine hK.out _ _ BC7 (fun _ => ?_)
                  clear hK K
                  try simp only [Act.put, List.getElem_toArray, List.getElem_cons_succ, List.getElem_cons_zero, List.setIfInBounds_toArray, List.set_cons_zero, List.set_cons_succ]
                  refine wpAnyH_take (i := 22) (v := ?v1017) rfl (by kernel_rfl) (by kernel_rfl) (by kernel_rfl) (fun _ _ _ h => h) (Or.inl ⟨by rfl, ?hy1017⟩) BC7 ?rest1017
                  case hy1017 => (intro w' hSw; go_simp; with_reducible rfl)
                  try simp only [Act.put, List.getElem_toArray, List.getElem_cons_succ, List.getElem_cons_zero, List.setIfInBounds_toArray, List.set_cons_zero, List.set_cons_succ]
                  refine wpAnyH_take (i := 23) (v := ?v1018) rfl (by kernel_rfl) (by kernel_rfl) (by kernel_rfl) (fun _ _ _ h => h) (Or.inl ⟨by rfl, ?hy1018⟩) BC7 ?rest1018
                  case hy1018 => (intro w' hSw; go_simp; with_reducible rfl)
                  try simp only [Act.put, List.getElem_toArray, List.getElem_cons_succ, List.getElem_cons_zero, List.setIfInBounds_toArray, List.set_cons_zero, List.set_cons_succ]
                  refine wpAnyH_done (by kernel_rfl) ?_ _
                  try simp only [Act.put, List.setIfInBounds_toArray, List.getElem_toArray, List.getElem_cons_succ, List.getElem_cons_zero]
                  refine NoPanic.normal ?_
                  have HBR := Lib.hid BC7.out
                  go_wp2
                  go_meet
                  exact ⟨rfl, HBR.out⟩
                · refine AllReadyH.cons rfl (fun K hK => ?_) AllReadyH.nil
                  have hcvv := Yt.str (by have := KG.out.2.1; rw [HMB.out] at this; exact this)
                  rw [bstr_st7w, ← HS1.out] at hcvv
                  go_simp
                  clear hcvv
                  refine hK.out _ _ BC7 (fun _ => ?_)
                  clear hK K
                  try simp only [Act.put, List.getElem_toArray, List.getElem_cons_succ, List.getElem_cons_zero, List.setIfInBounds_toArray, List.set_cons_zero, List.set_cons_succ]
                  refine wpAnyH_ready (rs := [18]) (by kernel_rfl) (by simp) ?_
                  refine AllReadyH.cons rfl (fun K hK => ?_) AllReadyH.nil
                  have hcvv := Yt.str (by have := KH7.out.2.1; rw [HPB.out] at this; exact this)
                  rw [bstr_st7w, ← HS1.out] at hcvv
                  go_simp
                  clear hcvv
                  refine hK.out _ _ BC7 (fun _ => ?_)
                  clear hK K
                  try simp only [Act.put, List.getElem_toArray, List.getElem_cons_succ, List.getElem_cons_zero, List.setIfInBounds_toArray, List.set_cons_zero, List.set_cons_succ]
                  refine wpAnyH_take (i := 22) (v := ?v1019) rfl (by kernel_rfl) (by kernel_rfl) (by kernel_rfl) (fun _ _ _ h => h) (Or.inl ⟨by rfl, ?hy1019⟩) BC7 ?rest1019
                  case hy1019 => (intro w' hSw; go_simp; with_reducible rfl)
                  try simp only [Act.put, List.getElem_toArray, List.getElem_cons_succ, List.getElem_cons_zero, List.setIfInBounds_toArray, List.set_cons_zero, List.set_cons_succ]
                  refine wpAnyH_take (i := 23) (v := ?v1020) rfl (by kernel_rfl) (by kernel_rfl) (by kernel_rfl) (fun _ _ _ h => h) (Or.inl ⟨by rfl, ?hy1020⟩) BC7 ?rest1020
                  case hy1020 => (intro w' hSw; go_simp; with_reducible rfl)
                  try simp only [Act.put, List.getElem_toArray, List.getElem_cons_succ, List.getElem_cons_zero, List.setIfInBounds_toArray, List.set_cons_zero, List.set_cons_succ]
                  refine wpAnyH_done (by kernel_rfl) ?_ _
                  try simp only [Act.put, List.setIfInBounds_toArray, List.getElem_toArray, List.getElem_cons_succ, List.getElem_cons_zero]
                  refine NoPanic.normal ?_
                  have HBR := Lib.hid BC7.out
                  go_wp2
                  go_meet
                  exact ⟨rfl, HBR.out⟩
            case rest => as_aux_lemma =>
              obtain ⟨rfl, HBR⟩ := hcut
              have HLM1 := Lib.hid (HLM.out.below HV.out HU.out HBR.out); have HLP1 := Lib.hid (HLP.out.below HV.out HU.out HBR.out); have HH1 := Lib.hid (HHA.out.keep HBR.out); have HW1 := Lib.hid (HWA.out.keep HBR.out); have HB1 := Lib.hid (HBA.out.trans (HBR.out.mono hga))
              have HLA1 : Hid (LA.length ≤ 1000) := by show _ ≤ _; have := HHA.out.s.1; omega
              have HLW1 : Hid (LW.length ≤ 1000) := by show _ ≤ _; have := HWA.out.s.1; omega
              have hrA := fun (h : l1 = LA) => decide_eq_true (show Lm1.l = LA from HLL1.out.trans h)
              have hrA0 := fun (h : l1 ≠ LA) => decide_eq_false (show Lm1.l ≠ LA from fun e => h (HLL1.out.symm.trans e))
              have hrW := fun (h : l1 = LW) => decide_eq_true (show Lm1.l = LW from HLL1.out.trans h)
              have HRA := Lib.hid hrA; have HRA0 := Lib.hid hrA0; have HRW := Lib.hid hrW
              have HEA : Hid ((S1.toList == SA.toList) = decide (h1.body = BA)) := by show _ = _; rw [HS1.out, HC2.out.2.2.1]; exact st_eq
              have HEO : Hid ((S1.toList == SO.toList) = decide (h1.body = BO)) := by show _ = _; rw [HS1.out, HC2.out.2.2.2]; exact st_eq
              clear hrA hrA0 hrW HBR HHA HWA HBA hga HLM HLP hsn hss HPM HPL HK200
              by_cases hA : l1 = LA
              · by_cases hB : h1.body = BA
                · have q1 : (S1.toList == SA.toList) = true := by rw [HEA.out]; exact decide_eq_true hB
                  have HSX : Hid (SA = st Lp1.h.body) := by show _ = _; rw [HC2.out.2.2.1, HBB2.out, hB]
                  have HRX : Hid (LA = Lp1.l) := hA.symm.trans HLL2.out.symm
                  have HAA := Lib.hid (HRA.out hA)
                  clear hA hB
                  go_wp2_with fail
                  refine (HU.out.batches HLM1.out.l HCM.out.k HK200m.out).mono ?_
                  rintro e wb1 ⟨ma, mn, mc, rfl, km, hb⟩
                  have KM := Lib.hid km
                  have HLM2 := Lib.hid (HLM1.out.below HV.out HU.out hb); have HLP2 := Lib.hid (HLP1.out.below HV.out HU.out hb); have HH2 := Lib.hid (HH1.out.keep hb); have HW2 := Lib.hid (HW1.out.keep hb); have HB2 := Lib.hid (HB1.out.trans (hb.mono HB1.out.size))
                  clear hb km HLM1 HLP1 HH1 HW1 HB1
                  go_wp2_with fail
                  refine (ref7_same _ ma mn mc _ _ ah nh ch _ _ KM.out HH2.out.s HML.out HLA1.out).mono ?_
                  rintro e wb2 ⟨rfl, hb⟩
                  rw [HAA.out]
                  have HLM3 := Lib.hid (HLM2.out.below HV.out HU.out hb); have HLP3 := Lib.hid (HLP2.out.below HV.out HU.out hb); have HH3 := Lib.hid (HH2.out.keep hb); have HW3 := Lib.hid (HW2.out.keep hb); have HB3 := Lib.hid (HB2.out.trans (hb.mono HB2.out.size))
                  clear hb KM HLM2 HLP2 HH2 HW2 HB2
                  go_wp2_with fail
                  refine (HU.out.head HLM3.out.l HCM.out.k).mono ?_
                  rintro e wb3 ⟨ga, gn, gc, rfl, kg, hb⟩
                  have hcv : (convert 39 9 (.slice ga gn gc)).run Try.prog wb3 = .ok (.string S1) wb3 := by rw [HS1.out]; exact Yt.str (by have := kg.2.1; rw [HMB.out] at this; exact this)
                  have HLM4 := Lib.hid (HLM3.out.below HV.out HU.out hb); have HLP4 := Lib.hid (HLP3.out.below HV.out HU.out hb); have HH4 := Lib.hid (HH3.out.keep hb); have HW4 := Lib.hid (HW3.out.keep hb); have HB4 := Lib.hid (HB3.out.trans (hb.mono HB3.out.size))
                  clear hb kg HLM3 HLP3 HH3 HW3 HB3
                  go_wp2
                  go_roundw
                  case rel => exact ⟨j + 1, gp, d7, Lp1, FA, GA, ah, nh, ch, SA, HJ.out.2, by go_num, rfl, rfl, rfl, HJ.out.1, hnh, ⟨HC2.out.1, HSX.out⟩, HCP.out, HLP4.out, HRX.out ▸ HH4.out, HB4.out⟩
                  case measure => simp [ixOf]; omega
                · have q1 : (S1.toList == SA.toList) = false := by rw [HEA.out]; exact decide_eq_false hB
                  have hO : l1 = LW ∧ h1.body = BO := by rcases HOR.out with h | h; exact absurd h.2 hB; exact h
                  have q2 : (S1.toList == SO.toList) = true := by rw [HEO.out]; exact decide_eq_true hO.2
                  have HSX : Hid (SO = st Lp1.h.body) := by show _ = _; rw [HC2.out.2.2.2, HBB2.out, hO.2]
                  have HRX : Hid (LW = Lp1.l) := hO.1.symm.trans HLL2.out.symm
                  have HAA := Lib.hid (HRA.out hA); have HWW := Lib.hid (HRW.out hO.1)
                  clear hA hB hO
                  go_wp2_with fail
                  refine (HU.out.batches HLM1.out.l HCM.out.k HK200m.out).mono ?_
                  rintro e wb1 ⟨ma, mn, mc, rfl, km, hb⟩
                  have KM := Lib.hid km
                  have HLM2 := Lib.hid (HLM1.out.below HV.out HU.out hb); have HLP2 := Lib.hid (HLP1.out.below HV.out HU.out hb); have HH2 := Lib.hid (HH1.out.keep hb); have HW2 := Lib.hid (HW1.out.keep hb); have HB2 := Lib.hid (HB1.out.trans (hb.mono HB1.out.size))
                  clear hb km HLM1 HLP1 HH1 HW1 HB1
                  go_wp2_with fail
                  refine (ref7_same _ ma mn mc _ _ ah nh ch _ _ KM.out HH2.out.s HML.out HLA1.out).mono ?_
                  rintro e wb2 ⟨rfl, hb⟩
                  rw [HAA.out]
                  have HLM3 := Lib.hid (HLM2.out.below HV.out HU.out hb); have HLP3 := Lib.hid (HLP2.out.below HV.out HU.out hb); have HH3 := Lib.hid (HH2.out.keep hb); have HW3 := Lib.hid (HW2.out.keep hb); have HB3 := Lib.hid (HB2.out.trans (hb.mono HB2.out.size))
                  clear hb KM HLM2 HLP2 HH2 HW2 HB2
                  go_wp2_with fail
                  refine (HU.out.head HLM3.out.l HCM.out.k).mono ?_
                  rintro e wb3 ⟨ga, gn, gc, rfl, kg, hb⟩
                  have hcv : (convert 39 9 (.slice ga gn gc)).run Try.prog wb3 = .ok (.string S1) wb3 := by rw [HS1.out]; exact Yt.str (by have := kg.2.1; rw [HMB.out] at this; exact this)
                  have HLM4 := Lib.hid (HLM3.out.below HV.out HU.out hb); have HLP4 := Lib.hid (HLP3.out.below HV.out HU.out hb); have HH4 := Lib.hid (HH3.out.keep hb); have HW4 := Lib.hid (HW3.out.keep hb); have HB4 := Lib.hid (HB3.out.trans (hb.mono HB3.out.size))
                  clear hb kg HLM3 HLP3 HH3 HW3 HB3
                  go_wp2_with fail
                  refine (HU.out.batches HLM4.out.l HCM.out.k HK200m.out).mono ?_
                  rintro e wb4 ⟨ma, mn, mc, rfl, km, hb⟩
                  have KM := Lib.hid km
                  have HLM5 := Lib.hid (HLM4.out.below HV.out HU.out hb); have HLP5 := Lib.hid (HLP4.out.below HV.out HU.out hb); have HH5 := Lib.hid (HH4.out.keep hb); have HW5 := Lib.hid (HW4.out.keep hb); have HB5 := Lib.hid (HB4.out.trans (hb.mono HB4.out.size))
                  clear hb km HLM4 HLP4 HH4 HW4 HB4
                  go_wp2_with fail
                  refine (ref7_same _ ma mn mc _ _ aw nw cw _ _ KM.out HW5.out.s HML.out HLW1.out).mono ?_
                  rintro e wb5 ⟨rfl, hb⟩
                  rw [HWW.out]
                  have HLM6 := Lib.hid (HLM5.out.below HV.out HU.out hb); have HLP6 := Lib.hid (HLP5.out.below HV.out HU.out hb); have HH6 := Lib.hid (HH5.out.keep hb); have HW6 := Lib.hid (HW5.out.keep hb); have HB6 := Lib.hid (HB5.out.trans (hb.mono HB5.out.size))
                  clear hb KM HLM5 HLP5 HH5 HW5 HB5
                  go_wp2_with fail
                  refine (HU.out.head HLM6.out.l HCM.out.k).mono ?_
                  rintro e wb6 ⟨ga, gn, gc, rfl, kg, hb⟩
                  have hcv : (convert 39 9 (.slice ga gn gc)).run Try.prog wb6 = .ok (.string S1) wb6 := by rw [HS1.out]; exact Yt.str (by have := kg.2.1; rw [HMB.out] at this; exact this)
                  have HLM7 := Lib.hid (HLM6.out.below HV.out HU.out hb); have HLP7 := Lib.hid (HLP6.out.below HV.out HU.out hb); have HH7 := Lib.hid (HH6.out.keep hb); have HW7 := Lib.hid (HW6.out.keep hb); have HB7 := Lib.hid (HB6.out.trans (hb.mono HB6.out.size))
                  clear hb kg HLM6 HLP6 HH6 HW6 HB6
                  go_wp2
                  go_roundw
                  case rel => exact ⟨j + 1, gp, d7, Lp1, FA, GA, aw, nw, cw, SO, HJ.out.2, by go_num, rfl, rfl, rfl, HJ.out.1, hnw, ⟨HC2.out.2.1, HSX.out⟩, HCP.out, HLP7.out, HRX.out ▸ HW7.out, HB7.out⟩
                  case measure => simp [ixOf]; omega
              · have hO : l1 = LW ∧ h1.body = BO := by rcases HOR.out with h | h; exact absurd h.1 hA; exact h
                have q2 : (S1.toList == SO.toList) = true := by rw [HEO.out]; exact decide_eq_true hO.2
                have HSX : Hid (SO = st Lp1.h.body) := by show _ = _; rw [HC2.out.2.2.2, HBB2.out, hO.2]
                have HRX : Hid (LW = Lp1.l) := hO.1.symm.trans HLL2.out.symm
                have HAA := Lib.hid (HRA0.out hA); have HWW := Lib.hid (HRW.out hO.1)
                clear hA hO
                go_wp2_with fail
                refine (HU.out.batches HLM1.out.l HCM.out.k HK200m.out).mono ?_
                rintro e wb1 ⟨ma, mn, mc, rfl, km, hb⟩
                have KM := Lib.hid km
                have HLM2 := Lib.hid (HLM1.out.below HV.out HU.out hb); have HLP2 := Lib.hid (HLP1.out.below HV.out HU.out hb); have HH2 := Lib.hid (HH1.out.keep hb); have HW2 := Lib.hid (HW1.out.keep hb); have HB2 := Lib.hid (HB1.out.trans (hb.mono HB1.out.size))
                clear hb km HLM1 HLP1 HH1 HW1 HB1
                go_wp2_with fail
                refine (ref7_same _ ma mn mc _ _ ah nh ch _ _ KM.out HH2.out.s HML.out HLA1.out).mono ?_
                rintro e wb2 ⟨rfl, hb⟩
                rw [HAA.out]
                have HLM3 := Lib.hid (HLM2.out.below HV.out HU.out hb); have HLP3 := Lib.hid (HLP2.out.below HV.out HU.out hb); have HH3 := Lib.hid (HH2.out.keep hb); have HW3 := Lib.hid (HW2.out.keep hb); have HB3 := Lib.hid (HB2.out.trans (hb.mono HB2.out.size))
                clear hb KM HLM2 HLP2 HH2 HW2 HB2
                go_wp2_with fail
                refine (HU.out.batches HLM3.out.l HCM.out.k HK200m.out).mono ?_
                rintro e wb3 ⟨ma, mn, mc, rfl, km, hb⟩
                have KM := Lib.hid km
                have HLM4 := Lib.hid (HLM3.out.below HV.out HU.out hb); have HLP4 := Lib.hid (HLP3.out.below HV.out HU.out hb); have HH4 := Lib.hid (HH3.out.keep hb); have HW4 := Lib.hid (HW3.out.keep hb); have HB4 := Lib.hid (HB3.out.trans (hb.mono HB3.out.size))
                clear hb km HLM3 HLP3 HH3 HW3 HB3
                go_wp2_with fail
                refine (ref7_same _ ma mn mc _ _ aw nw cw _ _ KM.out HW4.out.s HML.out HLW1.out).mono ?_
                rintro e wb4 ⟨rfl, hb⟩
                rw [HWW.out]
                have HLM5 := Lib.hid (HLM4.out.below HV.out HU.out hb); have HLP5 := Lib.hid (HLP4.out.below HV.out HU.out hb); have HH5 := Lib.hid (HH4.out.keep hb); have HW5 := Lib.hid (HW4.out.keep hb); have HB5 := Lib.hid (HB4.out.trans (hb.mono HB4.out.size))
                clear hb KM HLM4 HLP4 HH4 HW4 HB4
                go_wp2_with fail
                refine (HU.out.head HLM5.out.l HCM.out.k).mono ?_
                rintro e wb5 ⟨ga, gn, gc, rfl, kg, hb⟩
                have hcv : (convert 39 9 (.slice ga gn gc)).run Try.prog wb5 = .ok (.string S1) wb5 := by rw [HS1.out]; exact Yt.str (by have := kg.2.1; rw [HMB.out] at this; exact this)
                have HLM6 := Lib.hid (HLM5.out.below HV.out HU.out hb); have HLP6 := Lib.hid (HLP5.out.below HV.out HU.out hb); have HH6 := Lib.hid (HH5.out.keep hb); have HW6 := Lib.hid (HW5.out.keep hb); have HB6 := Lib.hid (HB5.out.trans (hb.mono HB5.out.size))
                clear hb kg HLM5 HLP5 HH5 HW5 HB5
                go_wp2
                go_roundw
                case rel => exact ⟨j + 1, gp, d7, Lp1, FA, GA, aw, nw, cw, SO, HJ.out.2, by go_num, rfl, rfl, rfl, HJ.out.1, hnw, ⟨HC2.out.2.1, HSX.out⟩, HCP.out, HLP6.out, HRX.out ▸ HW6.out, HB6.out⟩
                case measure => simp [ixOf]; omega
      · go_wp2
        go_meet
        exact ⟨_, rfl, HB.out⟩
  case rest =>
    obtain ⟨z, rfl, HB⟩ := hcut
    go_wp2
    go_ret
    exact ⟨rfl, HB.out⟩
end Go.Proofs.Ytmcjkaoddjakhaa
