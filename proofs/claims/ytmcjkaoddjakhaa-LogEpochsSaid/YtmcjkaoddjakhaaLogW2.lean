/- Layer 7: the walk of LogEpochs. -/
import Derived.Test.YtmcjkaoddjakhaaLogEm
namespace Go.Proofs.Ytmcjkaoddjakhaa
open Go.RowKit

set_option maxHeartbeats 4000000 in
set_option maxRecDepth 100000 in
theorem walk_epochs {Dev : Nat → Sm.Dv → (Nat → Prop) → World → Prop} {Log : Nat → Nat → Lm.Lg → (Nat → Prop) → World → Prop} (V : SecCon Dev) (U : LogCon Dev Log) (ta : Option Addr) (tn tc : Nat) (l : List Sp) (w : World) (hm : tn ≤ maxLen) (ht : Sv ta tn l w) :
    Calls Try.prog 6 #[.slice ta tn tc] w fun e w' => e = .returned (.bool true) ∧ Below w.heap.size w w' := by
  have HV := Lib.hid V
  have HU := Lib.hid U
  have HM : Hid ((tn : Int) ≤ 9223372036854775807) := by show _ ≤ _; unfold maxLen at hm; omega
  have HS := Lib.hid ht
  obtain ⟨L1, d1, e1, em1, l1, b1, p1⟩ := Lm.em_new
  have HE1 := Lib.hid e1; have HEM := Lib.hid em1; have HL1 := Lib.hid l1; have HBD1 := Lib.hid b1; have HP1 := Lib.hid p1
  obtain ⟨i0, hi0, hz0, hz1, hz2⟩ := info_of infoS
  have HI0 := Lib.hid hi0; have HZ0 := Lib.hid hz0; have HZ1 := Lib.hid hz1; have HZ2 := Lib.hid hz2
  clear hi0 hz0 hz1 hz2 hm ht V U e1 em1 l1 b1 p1
  go_enter Try.func6, Try.ntmps6
  go_wp2_with fail
  refine (walk_first HV.out HU.out w).mono ?_
  rintro e w1 ⟨rfl, hb1⟩
  have HB1 := Lib.hid hb1
  clear hb1
  go_wp2_with fail
  refine (HV.out.new 60 w1 (by omega) (by omega)).mono ?_
  rintro e w2 ⟨g, F, rfl, hd, hF, hb⟩
  have HD := Lib.hid hd; have HF := Lib.hid hF; have HB := Lib.hid (HB1.out.trans (hb.mono HB1.out.size))
  have HS1 := Lib.hid HB1.out.size
  clear hd hF hb HB1
  go_wp2_with fail
  refine (HU.out.openOk 58 L1 HD.out ⟨by decide, by decide, by decide, by decide, by decide, by decide⟩ ⟨by omega, by omega⟩ (by rw [HE1.out])).mono ?_
  rintro e w3 ⟨gl, F2, G2, rfl, hd, hl, ho, hf2, hg, ha⟩
  rw [HE1.out] at hd
  have HL : Hid (Ld Dev Log w.heap.size g gl d1 L1 F2 G2 w3) := ⟨hd, hl, fun k hk => by rcases hf2 k hk with h | h; have := HF.out k h; have := HS1.out; omega; have := HB.out.size; omega, fun k hk => by have := hg k hk; have := HB.out.size; omega, ha⟩
  have HB3 : Hid (Below w.heap.size w w3) := HB.out.trans (only_bel ho HB.out.size (fun k hk hp => by have := HF.out k hp; have := HS1.out; omega))
  clear hd hl ho hf2 hg ha HD HB HF HS1 HE1
  go_upto_block 0 with (fail)
  go_cut [7] (fun ev wx => ∃ z : Int, ev = .int .i64 z ∧ Hid (Below w.heap.size w wx))
  case first =>
    go_wp2_with fail
    go_loopw [5, 7, 8, 9, 27] (fun lv ev hv sv iv wr => ∃ (j gl ep : Nat) (d : Sm.Dv) (L : Lm.Lg) (F G : Nat → Prop) (ah : Option Addr) (nh ch : Nat) (S : ByteArray), j ≤ tn ∧ iv = .int .i64 (j : Int) ∧ lv = .pointer (some ⟨gl, 0, none⟩) ∧ ev = .int .i64 (ep : Int) ∧ hv = .slice ah nh ch ∧ sv = .string S ∧ j ≤ 40 ∧ ep ≤ 50 ∧ nh ≤ 100 ∧ Hid (ep = L.h.epoch ∧ nh ≤ j ∧ S = st L.h.body) ∧ Hid (Lm.Em j d L) ∧ Hid (Ld Dev Log w.heap.size g gl d L F G wr) ∧ Hid (Hv w.heap.size F G ah nh ch L.l wr) ∧ Hid (Below w.heap.size w wr)) (fun _ _ _ _ iv _ => tn - (ixOf iv).toNat)
    case atStart => exact ⟨0, gl, 1, d1, L1, F2, G2, none, 0, 0, ⟨#[]⟩, Nat.zero_le _, rfl, rfl, rfl, rfl, rfl, by omega, by omega, by omega, ⟨HP1.out.symm, Nat.le_refl _, by rw [HBD1.out]; rfl⟩, HEM.out, HL.out, by rw [HL1.out]; exact Hv.nil _ _ _ _ _, HB3.out⟩
    case round =>
      obtain ⟨j, gl, ep, d, L, F, G, ah, nh, ch, S, hj, rfl, rfl, rfl, rfl, rfl, hj40, hep, hnh, HC, HEM, HLD, HH, HB⟩ := hrel
      have hwr := HB.out.size
      by_cases hlt : j < tn
      · obtain ⟨gt, off, ab, nb, cb, av, nt, ct, ha, hx0⟩ := HS.out.2 j (by rw [← HS.out.1]; exact hlt)
        generalize l[j]'(by rw [← HS.out.1]; exact hlt) = s at hx0
        have hx := hx0.keep HB.out
        subst ha
        obtain ⟨sk, si, sb, sts⟩ := s
        have e0 := hx.c0; have e1 := hx.c1; have e2 := hx.c2; have e3 := hx.c3
        dsimp only at e0 e1 e2 e3
        have hoff : off + j * 4 + 0 = off + j * 4 := Nat.add_zero _
        have hba := one_bs wr (.cells #[.int .i64 sk, .int .i64 si, .slice ab nb cb, .slice av nt ct] 46)
        have HLA := Lib.hid (HLD.out.below HV.out HU.out hba)
        have HHA := Lib.hid (HH.out.keep hba)
        have HBA := Lib.hid (HB.out.trans (hba.mono hwr))
        have HY0 := Lib.hid (show Yt (.slice ab nb cb) sb w from hx0.b)
        have HLT := Lib.hid (HLD.out.lt HV.out HU.out)
        have hnb : nb = sb.length := by obtain ⟨_, _, e⟩ := hx.b.form; injection e
        have HNB := Lib.hid hnb
        clear hba hoff hnb hx hx0 HH
        by_cases h40 : j = 40
        · have q : decide ((40 : Int) ≤ (j : Int)) = true := by simp; omega
          clear h40
          go_wp2
          go_meet
          exact ⟨_, rfl, HBA.out⟩
        have q40 : decide ((40 : Int) ≤ (j : Int)) = false := by simp; omega
        by_cases h300 : nb ≤ 300
        case neg =>
          have q : decide ((300 : Int) < (nb : Int)) = true := by simp; omega
          clear h300 h40
          go_wp2
          go_meet
          exact ⟨_, rfl, HBA.out⟩
        have q300 : decide ((300 : Int) < (nb : Int)) = false := by simp; omega
        have hj39 : j < 40 := by omega
        have HJ : Hid (j + 1 ≤ 40 ∧ j + 1 ≤ tn) := ⟨by omega, by omega⟩
        have HLB : Hid ((sb.length : Int) ≤ 9223372036854775807) := by show _ ≤ _; have := HNB.out; omega
        have HDL := Lib.hid (HEM.out.dl (by omega))
        have HFAR : Hid (0 < sb.length → ∀ x, ab = some x → ¬ F x.block ∧ ¬ G x.block) := fun h0 x e => by
          subst e
          rcases HY0.out with ⟨_, _, _, e2⟩ | ⟨gy, oy, cy, e2, _, hgy, _⟩
          · rw [e2] at h0; exact absurd h0 (by decide)
          · injection e2 with e3
            injection e3 with e3
            subst e3
            exact HLD.out.far HV.out HU.out _ (.inr hgy)
        clear h40 h300 hj40 HLD HB
        obtain ⟨Un, hU⟩ : ∃ Un : Nat, (Un : Int) = sk % 18446744073709551616 := ⟨(sk % 18446744073709551616).toNat, by omega⟩
        obtain ⟨mm, hmm⟩ : ∃ mm, mm = Un % 6 := ⟨_, rfl⟩
        have hm6 : mm < 6 := by omega
        have hw2 : (Un : Int).tmod 6 = (mm : Int) := by rw [Int.tmod_eq_emod_of_nonneg (by omega)]; omega
        have hw1 : IntKind.u64.wrap sk = (Un : Int) := by rw [IntKind.wrap_u64, hU]
        clear hU hmm
        go_upto_block 2 with (fail)
        have hcp : (wr.alloc (.cells #[.int .i64 sk, .int .i64 si, .slice ab nb cb, .slice av nt ct] 46)).cell? ⟨wr.heap.size, 2, none⟩ = some (.slice ab nb cb) := by rw [Lib.cell_of_heap (heap_alloc_new wr _)]; rfl
        have HCP := Lib.hid hcp
        have HLTA : Hid (∀ k, F k ∨ G k → k ≠ wr.heap.size) := fun k hk e => by have := HLT.out k hk; omega
        clear hcp
        go_cut [5, 7, 8, 9] (fun lv ev hv sv wx => ∃ (gl ep : Nat) (d : Sm.Dv) (L : Lm.Lg) (F G : Nat → Prop) (ah : Option Addr) (nh ch : Nat) (S : ByteArray), lv = .pointer (some ⟨gl, 0, none⟩) ∧ ev = .int .i64 (ep : Int) ∧ hv = .slice ah nh ch ∧ sv = .string S ∧ ep ≤ 50 ∧ nh ≤ 100 ∧ Hid (ep = L.h.epoch ∧ nh ≤ j + 1 ∧ S = st L.h.body) ∧ Hid (Lm.Em (j + 1) d L) ∧ Hid (Ld Dev Log w.heap.size g gl d L F G wx) ∧ Hid (Hv w.heap.size F G ah nh ch L.l wx) ∧ Hid (Below w.heap.size w wx))
        case first =>
          have hba := HBA.out.size
          rcases (show mm = 1 ∨ (mm = 3 ∨ mm = 4) ∨ (mm = 0 ∨ mm = 2 ∨ mm = 5) by omega) with rfl | h34 | hoth
          · obtain ⟨c, L2, d2, he2, hem2, hcs⟩ := Lm.em_reset HEM.out (by omega) sb
            have HEM2 := Lib.hid hem2
            have HN : Hid (L.h.n ≤ N62) := by show _ ≤ _; have := HEM.out.n; unfold N62; omega
            have HCS := Lib.hid hcs
            clear hem2 hcs
            go_wp2_with fail
            refine (HLA.out.reset HU.out HDL.out HEM.out.k HN.out HBA.out hba (HY0.out.keep HBA.out) HLB.out HFAR.out he2).mono ?_
            rintro e w4 ⟨rfl, F4, G4, HL4, HB4, HCH⟩
            have hg4 := HB4.out.size
            have k2 : w4.cell? ⟨wr.heap.size, 2, none⟩ = some (.slice ab nb cb) := (cell_only HCH.out.1 (q := ⟨wr.heap.size, 2, none⟩) (by simp) (fun hk => HLTA.out _ hk rfl)).trans HCP.out
            have HH4 := Lib.hid (HHA.out.step HCH.out)
            clear HCH HLA HBA HHA hba he2
            rcases HCS.out with ⟨rfl, hl, hbd, hep2⟩ | ⟨rfl, rfl⟩
            · have hcv : ∀ n, (convert 39 9 (.slice ab nb cb)).run Try.prog (w4.drewN n) = .ok (.string (st sb)) (w4.drewN n) := fun n => Yt.str ((HY0.out.keep HB4.out).keep (below_dn w4 n))
              obtain ⟨SB, hSB⟩ : ∃ SB, SB = st sb := ⟨_, rfl⟩
              rw [← hSB] at hcv
              obtain ⟨ep2, hep3⟩ : ∃ ep2, ep2 = ep + 1 := ⟨_, rfl⟩
              have hq : (ep : Int) + 1 = (ep2 : Int) := by omega
              have hep4 : ep2 ≤ 50 := by have := HC.out.1; have := HEM.out.e; omega
              have HF : Hid (ep2 = L2.h.epoch ∧ (0 : Nat) ≤ j + 1 ∧ SB = st L2.h.body) := ⟨by rw [hep2, ← HC.out.1]; exact hep3, Nat.zero_le _, by rw [hbd]; exact hSB⟩
              have HLL := Lib.hid hl
              have HBD : Hid (∀ n, Below w4.heap.size w4 (w4.drewN n)) := fun n => below_dn w4 n
              clear hSB hep3 hl hbd hep2
              go_upto_region 17 with (fail)
              go_quiet (fail)
              go_wp2
              go_meet
              exact ⟨gl, ep2, d2, L2, F4, G4, none, 0, 0, SB, rfl, by go_num, rfl, rfl, hep4, by omega, HF.out, HEM2.out, HL4.out.below HV.out HU.out (HBD.out _), by rw [HLL.out]; exact Hv.nil _ _ _ _ _, HB4.out.trans ((HBD.out _).mono hg4)⟩
            · go_wp2
              go_meet
              exact ⟨gl, ep, d2, L2, F4, G4, ah, nh, ch, S, rfl, rfl, rfl, rfl, hep, hnh, ⟨HC.out.1, by have := HC.out.2.1; omega, HC.out.2.2⟩, HEM2.out, HL4, HH4, HB4⟩
          · obtain ⟨L2, d2, he2, hem2, hl, hbd, hep2⟩ := Lm.em_open HEM.out (by omega)
            have HEM2 := Lib.hid hem2
            obtain ⟨ep2, hep3⟩ : ∃ ep2, ep2 = ep + 1 := ⟨_, rfl⟩
            have hq : (ep : Int) + 1 = (ep2 : Int) := by omega
            have hep4 : ep2 ≤ 50 := by have := HC.out.1; have := HEM.out.e; omega
            have HF : Hid (ep2 = L2.h.epoch ∧ nh ≤ j + 1 ∧ S = st L2.h.body) := ⟨by rw [hep2, ← HC.out.1]; exact hep3, by have := HC.out.2.1; omega, by rw [hbd]; exact HC.out.2.2⟩
            have HLL := Lib.hid hl
            have HE2 := Lib.hid he2
            clear hem2 hep3 hl hbd hep2 he2
            rcases h34 with rfl | rfl
            all_goals
              go_wp2_with fail
              refine (HLA.out.open HV.out HU.out HDL.out ⟨by omega, by omega⟩ HBA.out hba HE2.out).mono ?_
              rintro e w4 ⟨gl4, F4, G4, rfl, HL4, HB4, HCH, _⟩
              have HH4 := Lib.hid (HHA.out.step HCH.out)
              clear HCH HLA HBA HHA hba
              go_wp2
              go_meet
              exact ⟨gl4, ep2, d2, L2, F4, G4, ah, nh, ch, S, rfl, by go_num, rfl, rfl, hep4, hnh, HF.out, HEM2.out, HL4.out, by rw [HLL.out]; exact HH4.out, HB4.out⟩
          · obtain ⟨c, L2, d2, he2, hem2, hh2, hcs⟩ := Lm.em_append HEM.out (by omega) sb
            have HEM2 := Lib.hid hem2
            have HCS := Lib.hid hcs
            have HF : Hid (ep = L2.h.epoch ∧ nh ≤ j + 1 ∧ S = st L2.h.body) := ⟨by rw [hh2]; exact HC.out.1, by have := HC.out.2.1; omega, by rw [hh2]; exact HC.out.2.2⟩
            have HE2 := Lib.hid he2
            have q1 : ((mm : Int) == 1) = false := by rw [beq_eq_false_iff_ne]; omega
            have q3 : ((mm : Int) == 3) = false := by rw [beq_eq_false_iff_ne]; omega
            have q4 : ((mm : Int) == 4) = false := by rw [beq_eq_false_iff_ne]; omega
            clear hem2 hcs hh2 he2 hoth
            go_wp2_with fail
            refine (HLA.out.append HU.out HDL.out HEM.out.k HBA.out hba (HY0.out.keep HBA.out) HLB.out HFAR.out HE2.out).mono ?_
            rintro e w4 ⟨rfl, F4, G4, HL4, HB4, HCH⟩
            have hg4 := HB4.out.size
            have k2 : w4.cell? ⟨wr.heap.size, 2, none⟩ = some (.slice ab nb cb) := (cell_only HCH.out.1 (q := ⟨wr.heap.size, 2, none⟩) (by simp) (fun hk => HLTA.out _ hk rfl)).trans HCP.out
            have hlt4 : wr.heap.size < w4.heap.size := by have := HCH.out.1.size; simp at this; omega
            have HH4 := Lib.hid (HHA.out.step HCH.out)
            have HLT4 := Lib.hid (HL4.out.lt HV.out HU.out)
            clear HCH HLA HBA HHA hba
            rcases HCS.out with ⟨rfl, hl⟩ | ⟨hc0, hl⟩
            · obtain ⟨SB, hSB⟩ : ∃ SB, SB = st sb := ⟨_, rfl⟩
              have HSB := Lib.hid hSB
              have HK2 := Lib.hid k2
              have HLL := Lib.hid hl
              have HYW := Lib.hid (HY0.out.keep HB4.out)
              have HLT5 := Lib.hid hlt4
              have HM1 : Hid (0 + nh ≤ maxLen) := by show _ ≤ _; unfold maxLen; omega
              have HM3 : Hid (nh + 1 ≤ maxLen) := by show _ ≤ _; unfold maxLen; omega
              have hnj : nh + 1 ≤ 41 := by have := HC.out.2.1; omega
              clear hSB hl hw1 hw2 hm6 q1 q3 q4
              go_upto_region 14 with (fail)
              refine wp_region_noPanic ?_
              have BD := Lib.hid (below_drw w4)
              have S0 := Lib.hid (SAp.mk HLT5.out HK2.out HYW.out HSB.out BD.out)
              refine wp_region_held_drew (S := fun w' => SAp wr.heap.size ab nb cb SB w4 w') (by kernel_rfl) S0.out (fun _ => ?_)
              refine wpAnyH_take (i := 1) (v := ?v1) rfl (by kernel_rfl) (by kernel_rfl) (by kernel_rfl) (fun _ _ _ h => h) (Or.inl ⟨by rfl, ?hy1⟩) S0.out ?rest1
              case hy1 => (intro w' hSw; obtain ⟨_, _, _⟩ := hSw; go_simp; with_reducible rfl)
              try simp only [Act.put]
              refine wpAnyH_take (i := 3) (v := ?v2) rfl (by kernel_rfl) (by kernel_rfl) (by kernel_rfl) (fun _ _ _ h => h) (Or.inl ⟨by rfl, ?hy2⟩) S0.out ?rest2
              case hy2 => (intro w' hSw; obtain ⟨_, _, _⟩ := hSw; go_simp; with_reducible rfl)
              try simp only [Act.put]
              refine wpAnyH_take (i := 4) (v := ?v3) rfl (by kernel_rfl) (by kernel_rfl) (by kernel_rfl) (fun _ _ _ h => h) (Or.inl ⟨by rfl, ?hy3⟩) S0.out ?rest3
              case hy3 => (intro w' hSw; obtain ⟨_, _, _⟩ := hSw; go_simp; with_reducible rfl)
              try simp only [Act.put]
              refine wpAnyH_take (i := 5) (v := ?v4) rfl (by kernel_rfl) (by kernel_rfl) (by kernel_rfl) (fun _ _ _ h => h) (Or.inl ⟨by rfl, ?hy4⟩) S0.out ?rest4
              case hy4 => (intro w' hSw; obtain ⟨_, _, _⟩ := hSw; go_simp; with_reducible rfl)
              try simp only [Act.put]
              refine wpAnyH_ready (rs := [0, 6]) (by kernel_rfl) (by simp) ?_
              refine AllReadyH.cons rfl (fun K hK => ?_) ?_
              · skip
                go_simp
                have B1 := Lib.hid (BD.out.trans ((one_bs w4.drew (.cells #[] 9)).mono BD.out.size))
                have S1 := Lib.hid (SAp.mk HLT5.out HK2.out HYW.out HSB.out B1.out)
                have OE1 := Lib.hid (own_nil1 w4.drew w4.heap.size (w4.heap.size) (by simp) BD.out.size)
                refine hK.out _ _ S1.out (fun _ => ?_)
                clear hK K
                try simp only [Act.put]
                refine wpAnyH_ready (rs := [2, 6]) (by kernel_rfl) (by simp) ?_
                refine AllReadyH.cons rfl (fun K hK => ?_) ?_
                · skip
                  refine step_append_src _ rfl (.tmp 49) (.tmp 50) 56 56 rfl w4.heap.size 9 i0 _ 1 16 Try.underlying56 HI0.out HZ0.out HZ1.out HZ2.out rfl (.slice (some ⟨w4.heap.size, 0, none⟩) 0 0) 0 (stc []) rfl OE1.out _ nh (stc L.l) rfl (HH4.out.s.keep B1.out).src (by unfold maxLen; omega) (by omega) B1.out.size ?_
                  intro vq2 wq2 hown hgrow hat
                  rw [Nat.zero_add, show stc [] ++ stc L.l = stc L.l from rfl] at hown
                  have O2 := Lib.hid hown
                  have B2 := Lib.hid (B1.out.grown hgrow B1.out.size (fun k e => by simp [Value.ownBlock] at e; omega))
                  have S2 := Lib.hid (SAp.mk HLT5.out HK2.out HYW.out HSB.out B2.out)
                  clear hown hgrow hat
                  refine hK.out _ _ S2.out (fun _ => ?_)
                  clear hK K
                  try simp only [Act.put, List.setIfInBounds_toArray]
                  refine wpAnyH_ready (rs := [6]) (by kernel_rfl) (by simp) ?_
                  refine AllReadyH.cons rfl (fun K hK => ?_) AllReadyH.nil
                  go_simp
                  have B3 := Lib.hid (B2.out.trans ((one_bs wq2 (.cells #[.string SB] 9)).mono B2.out.size))
                  have S3 := Lib.hid (SAp.mk HLT5.out HK2.out HYW.out HSB.out B3.out)
                  have SL3 := Lib.hid (ls_new wq2 sb SB (wq2.heap.size) (by simp) HSB.out)
                  have OW3 := Lib.hid (own_keep_s O2.out (one_bs wq2 (.cells #[.string SB] 9)) (fun b hb => (O2.out.lt b hb).2))
                  refine hK.out _ _ S3.out (fun _ => ?_)
                  clear hK K
                  try simp only [Act.put]
                  refine wpAnyH_ready (rs := [7]) (by kernel_rfl) (by simp) ?_
                  refine AllReadyH.cons rfl (fun K hK => ?_) AllReadyH.nil
                  refine step_append_src _ rfl (.tmp 51) (.tmp 55) 56 56 rfl w4.heap.size 9 i0 _ 1 16 Try.underlying56 HI0.out HZ0.out HZ1.out HZ2.out rfl vq2 nh (stc L.l) rfl OW3.out _ 1 (stc [sb]) rfl SL3.out.src (by unfold maxLen; omega) (by omega) B3.out.size ?_
                  intro vq4 wq4 hown hgrow hat
                  have hown2 : wq4.ownsRow w4.heap.size 9 1 vq4 (nh + 1) (stc (L.l ++ [sb])) := by rw [show stc (L.l ++ [sb]) = stc L.l ++ stc [sb] by simp [stc]]; exact hown
                  have B4 := Lib.hid (B3.out.grown hgrow B3.out.size (fun k e => (OW3.out.lt k e).1))
                  obtain ⟨aR, cR, rfl⟩ := own_form_s hown2
                  have HSS := Lib.hid (Ss.of_own hown2)
                  have S4 := Lib.hid (SAp.mk HLT5.out HK2.out HYW.out HSB.out B4.out)
                  clear hown hown2 hgrow hat
                  refine hK.out _ _ S4.out (fun _ => ?_)
                  clear hK K
                  try simp only [Act.put, List.setIfInBounds_toArray]
                  refine wpAnyH_take (i := 8) (v := ?v5) rfl (by kernel_rfl) (by kernel_rfl) (by kernel_rfl) (fun _ _ _ h => h) (Or.inl ⟨by rfl, ?hy5⟩) S4.out ?rest5
                  case hy5 => (intro w' hSw; obtain ⟨_, _, _⟩ := hSw; go_simp; with_reducible rfl)
                  try simp only [Act.put]
                  refine wpAnyH_done (by kernel_rfl) ?_ _
                  simp only [List.setIfInBounds_toArray, List.getElem_toArray, List.getElem_cons_succ, List.getElem_cons_zero]
                  refine NoPanic.normal ?_
                  have HBR := Lib.hid B4.out
                  have hnh2 : nh + 1 ≤ 100 := by omega
                  clear hnj
                  go_wp2
                  go_meet
                  exact ⟨gl, ep, d2, L2, F4, G4, aR, nh + 1, cR, S, rfl, rfl, rfl, rfl, hep, hnh2, ⟨HF.out.1, by have := HC.out.2.1; omega, HF.out.2.2⟩, HEM2.out, HL4.out.below HV.out HU.out HBR.out, by rw [HLL.out]; exact Hv.new HSS.out hg4 HLT4.out, HB4.out.trans (HBR.out.mono hg4)⟩
                · refine AllReadyH.cons rfl (fun K hK => ?_) AllReadyH.nil
                  go_simp
                  have B5 := Lib.hid (B1.out.trans ((one_bs (w4.drew.alloc (.cells #[] 9)) (.cells #[.string SB] 9)).mono B1.out.size))
                  have S5 := Lib.hid (SAp.mk HLT5.out HK2.out HYW.out HSB.out B5.out)
                  have SL5 := Lib.hid (ls_new (w4.drew.alloc (.cells #[] 9)) sb SB (w4.heap.size + 1) (by simp) HSB.out)
                  have OW5 := Lib.hid (own_keep_s OE1.out (one_bs (w4.drew.alloc (.cells #[] 9)) (.cells #[.string SB] 9)) (fun b hb => (OE1.out.lt b hb).2))
                  refine hK.out _ _ S5.out (fun _ => ?_)
                  clear hK K
                  try simp only [Act.put]
                  refine wpAnyH_ready (rs := [2]) (by kernel_rfl) (by simp) ?_
                  refine AllReadyH.cons rfl (fun K hK => ?_) AllReadyH.nil
                  refine step_append_src _ rfl (.tmp 49) (.tmp 50) 56 56 rfl w4.heap.size 9 i0 _ 1 16 Try.underlying56 HI0.out HZ0.out HZ1.out HZ2.out rfl (.slice (some ⟨w4.heap.size, 0, none⟩) 0 0) 0 (stc []) rfl OW5.out _ nh (stc L.l) rfl (HH4.out.s.keep B5.out).src (by unfold maxLen; omega) (by omega) B5.out.size ?_
                  intro vq6 wq6 hown hgrow hat
                  rw [Nat.zero_add, show stc [] ++ stc L.l = stc L.l from rfl] at hown
                  have O6 := Lib.hid hown
                  have B6 := Lib.hid (B5.out.grown hgrow B5.out.size (fun k e => by simp [Value.ownBlock] at e; omega))
                  have S6 := Lib.hid (SAp.mk HLT5.out HK2.out HYW.out HSB.out B6.out)
                  have SG6 := Lib.hid (SL5.out.grown hgrow (by simp [Value.ownBlock]))
                  clear hown hgrow hat
                  refine hK.out _ _ S6.out (fun _ => ?_)
                  clear hK K
                  try simp only [Act.put, List.setIfInBounds_toArray]
                  refine wpAnyH_ready (rs := [7]) (by kernel_rfl) (by simp) ?_
                  refine AllReadyH.cons rfl (fun K hK => ?_) AllReadyH.nil
                  refine step_append_src _ rfl (.tmp 51) (.tmp 55) 56 56 rfl w4.heap.size 9 i0 _ 1 16 Try.underlying56 HI0.out HZ0.out HZ1.out HZ2.out rfl vq6 nh (stc L.l) rfl O6.out _ 1 (stc [sb]) rfl SG6.out.src (by unfold maxLen; omega) (by omega) B6.out.size ?_
                  intro vq7 wq7 hown hgrow hat
                  have hown2 : wq7.ownsRow w4.heap.size 9 1 vq7 (nh + 1) (stc (L.l ++ [sb])) := by rw [show stc (L.l ++ [sb]) = stc L.l ++ stc [sb] by simp [stc]]; exact hown
                  have B7 := Lib.hid (B6.out.grown hgrow B6.out.size (fun k e => (O6.out.lt k e).1))
                  obtain ⟨aR, cR, rfl⟩ := own_form_s hown2
                  have HSS := Lib.hid (Ss.of_own hown2)
                  have S7 := Lib.hid (SAp.mk HLT5.out HK2.out HYW.out HSB.out B7.out)
                  clear hown hown2 hgrow hat
                  refine hK.out _ _ S7.out (fun _ => ?_)
                  clear hK K
                  try simp only [Act.put]
                  refine wpAnyH_take (i := 8) (v := ?v6) rfl (by kernel_rfl) (by kernel_rfl) (by kernel_rfl) (fun _ _ _ h => h) (Or.inl ⟨by rfl, ?hy6⟩) S7.out ?rest6
                  case hy6 => (intro w' hSw; obtain ⟨_, _, _⟩ := hSw; go_simp; with_reducible rfl)
                  try simp only [Act.put]
                  refine wpAnyH_done (by kernel_rfl) ?_ _
                  simp only [List.setIfInBounds_toArray, List.getElem_toArray, List.getElem_cons_succ, List.getElem_cons_zero]
                  refine NoPanic.normal ?_
                  have HBR := Lib.hid B7.out
                  have hnh2 : nh + 1 ≤ 100 := by omega
                  clear hnj
                  go_wp2
                  go_meet
                  exact ⟨gl, ep, d2, L2, F4, G4, aR, nh + 1, cR, S, rfl, rfl, rfl, rfl, hep, hnh2, ⟨HF.out.1, by have := HC.out.2.1; omega, HF.out.2.2⟩, HEM2.out, HL4.out.below HV.out HU.out HBR.out, by rw [HLL.out]; exact Hv.new HSS.out hg4 HLT4.out, HB4.out.trans (HBR.out.mono hg4)⟩
              · refine AllReadyH.cons rfl (fun K hK => ?_) AllReadyH.nil
                go_simp
                have B8 := Lib.hid (BD.out.trans ((one_bs w4.drew (.cells #[.string SB] 9)).mono BD.out.size))
                have S8 := Lib.hid (SAp.mk HLT5.out HK2.out HYW.out HSB.out B8.out)
                have SL8 := Lib.hid (ls_new w4.drew sb SB (w4.heap.size) (by simp) HSB.out)
                refine hK.out _ _ S8.out (fun _ => ?_)
                clear hK K
                try simp only [Act.put]
                refine wpAnyH_ready (rs := [0]) (by kernel_rfl) (by simp) ?_
                refine AllReadyH.cons rfl (fun K hK => ?_) AllReadyH.nil
                go_simp
                have B9 := Lib.hid (B8.out.trans ((one_bs (w4.drew.alloc (.cells #[.string SB] 9)) (.cells #[] 9)).mono B8.out.size))
                have S9 := Lib.hid (SAp.mk HLT5.out HK2.out HYW.out HSB.out B9.out)
                have OE9 := Lib.hid (own_nil1 (w4.drew.alloc (.cells #[.string SB] 9)) w4.heap.size (w4.heap.size + 1) (by simp) B8.out.size)
                have SK9 := Lib.hid (SL8.out.keep (one_bs (w4.drew.alloc (.cells #[.string SB] 9)) (.cells #[] 9)))
                refine hK.out _ _ S9.out (fun _ => ?_)
                clear hK K
                try simp only [Act.put]
                refine wpAnyH_ready (rs := [2]) (by kernel_rfl) (by simp) ?_
                refine AllReadyH.cons rfl (fun K hK => ?_) AllReadyH.nil
                refine step_append_src _ rfl (.tmp 49) (.tmp 50) 56 56 rfl w4.heap.size 9 i0 _ 1 16 Try.underlying56 HI0.out HZ0.out HZ1.out HZ2.out rfl (.slice (some ⟨w4.heap.size + 1, 0, none⟩) 0 0) 0 (stc []) rfl OE9.out _ nh (stc L.l) rfl (HH4.out.s.keep B9.out).src (by unfold maxLen; omega) (by omega) B9.out.size ?_
                intro vq10 wq10 hown hgrow hat
                rw [Nat.zero_add, show stc [] ++ stc L.l = stc L.l from rfl] at hown
                have O10 := Lib.hid hown
                have B10 := Lib.hid (B9.out.grown hgrow B9.out.size (fun k e => by simp [Value.ownBlock] at e; omega))
                have S10 := Lib.hid (SAp.mk HLT5.out HK2.out HYW.out HSB.out B10.out)
                have SG10 := Lib.hid (SK9.out.grown hgrow (by simp [Value.ownBlock]))
                clear hown hgrow hat
                refine hK.out _ _ S10.out (fun _ => ?_)
                clear hK K
                try simp only [Act.put, List.setIfInBounds_toArray]
                refine wpAnyH_ready (rs := [7]) (by kernel_rfl) (by simp) ?_
                refine AllReadyH.cons rfl (fun K hK => ?_) AllReadyH.nil
                refine step_append_src _ rfl (.tmp 51) (.tmp 55) 56 56 rfl w4.heap.size 9 i0 _ 1 16 Try.underlying56 HI0.out HZ0.out HZ1.out HZ2.out rfl vq10 nh (stc L.l) rfl O10.out _ 1 (stc [sb]) rfl SG10.out.src (by unfold maxLen; omega) (by omega) B10.out.size ?_
                intro vq11 wq11 hown hgrow hat
                have hown2 : wq11.ownsRow w4.heap.size 9 1 vq11 (nh + 1) (stc (L.l ++ [sb])) := by rw [show stc (L.l ++ [sb]) = stc L.l ++ stc [sb] by simp [stc]]; exact hown
                have B11 := Lib.hid (B10.out.grown hgrow B10.out.size (fun k e => (O10.out.lt k e).1))
                obtain ⟨aR, cR, rfl⟩ := own_form_s hown2
                have HSS := Lib.hid (Ss.of_own hown2)
                have S11 := Lib.hid (SAp.mk HLT5.out HK2.out HYW.out HSB.out B11.out)
                clear hown hown2 hgrow hat
                refine hK.out _ _ S11.out (fun _ => ?_)
                clear hK K
                try simp only [Act.put]
                refine wpAnyH_take (i := 8) (v := ?v7) rfl (by kernel_rfl) (by kernel_rfl) (by kernel_rfl) (fun _ _ _ h => h) (Or.inl ⟨by rfl, ?hy7⟩) S11.out ?rest7
                case hy7 => (intro w' hSw; obtain ⟨_, _, _⟩ := hSw; go_simp; with_reducible rfl)
                try simp only [Act.put]
                refine wpAnyH_done (by kernel_rfl) ?_ _
                simp only [List.setIfInBounds_toArray, List.getElem_toArray, List.getElem_cons_succ, List.getElem_cons_zero]
                refine NoPanic.normal ?_
                have HBR := Lib.hid B11.out
                have hnh2 : nh + 1 ≤ 100 := by omega
                clear hnj
                go_wp2
                go_meet
                exact ⟨gl, ep, d2, L2, F4, G4, aR, nh + 1, cR, S, rfl, rfl, rfl, rfl, hep, hnh2, ⟨HF.out.1, by have := HC.out.2.1; omega, HF.out.2.2⟩, HEM2.out, HL4.out.below HV.out HU.out HBR.out, by rw [HLL.out]; exact Hv.new HSS.out hg4 HLT4.out, HB4.out.trans (HBR.out.mono hg4)⟩
            · have hcz : (c == 0) = false := by rcases hc0 with rfl | rfl <;> rfl
              have HLL := Lib.hid hl
              clear hc0 hl
              go_wp2
              go_meet
              exact ⟨gl, ep, d2, L2, F4, G4, ah, nh, ch, S, rfl, rfl, rfl, rfl, hep, hnh, HF.out, HEM2.out, HL4.out, by rw [HLL.out]; exact HH4.out, HB4.out⟩
        case rest =>
          obtain ⟨gl, ep, d, L, F, G, ah, nh, ch, S, rfl, rfl, rfl, rfl, hep, hnh, HC, HEM, HLD, HH, HB⟩ := hcut
          have hwc := HB.out.size
          have HLL : Hid (L.l.length ≤ 1000) := by show _ ≤ _; have := HEM.out.k.l; have := HEM.out.k.at_; have := HEM.out.v.frm; omega
          have hqe : ((ep : Int) != (ep : Int)) = false := by simp
          have hss : (S.toList == S.toList) = true := by simp
          have hsn : (S.toList != S.toList) = false := by simp
          clear HCP HLTA HLT HHA HLA HBA HFAR HDL HLB HNB HY0 q40 q300 hw1 hw2
          go_wp2_with fail
          refine (HU.out.epoch HLD.out.l HEM.out.k).mono ?_
          rintro e w5 ⟨rfl, hb⟩
          rw [← HC.out.1]
          have HL5 := Lib.hid (HLD.out.below HV.out HU.out hb); have HB5 := Lib.hid (HB.out.trans (hb.mono hwc)); have HH5 := Lib.hid (HH.out.keep hb)
          have hg5 := HB5.out.size
          clear hb HLD HB HH
          go_wp2_with fail
          refine (HU.out.batches HL5.out.l HEM.out.k (by have := HEM.out.v.rp.len; omega)).mono ?_
          rintro e w6 ⟨a6, n6, c6, rfl, hbs, hb⟩
          have HL6 := Lib.hid (HL5.out.below HV.out HU.out hb); have HB6 := Lib.hid (HB5.out.trans (hb.mono hg5)); have HH6 := Lib.hid (HH5.out.keep hb)
          have HBS := Lib.hid hbs
          have hg6 := HB6.out.size
          clear hb hbs HL5 HB5 HH5
          go_wp2_with fail
          refine (ref7_same _ a6 n6 c6 L.l _ ah nh ch L.l w6 HBS.out HH6.out.s HLL.out HLL.out).mono ?_
          rintro e w7 ⟨rfl, hb⟩
          rw [decide_eq_true rfl]
          have HL7 := Lib.hid (HL6.out.below HV.out HU.out hb); have HB7 := Lib.hid (HB6.out.trans (hb.mono hg6)); have HH7 := Lib.hid (HH6.out.keep hb)
          have hg7 := HB7.out.size
          clear hb HL6 HB6 HH6 HBS
          go_wp2_with fail
          refine (HU.out.head HL7.out.l HEM.out.k).mono ?_
          rintro e w8 ⟨a8, n8, c8, rfl, hyt, hb⟩
          have hcv : (convert 39 9 (.slice a8 n8 c8)).run Try.prog w8 = .ok (.string S) w8 := by rw [HC.out.2.2]; exact Yt.str hyt.2.1
          have HL8 := Lib.hid (HL7.out.below HV.out HU.out hb); have HB8 := Lib.hid (HB7.out.trans (hb.mono hg7)); have HH8 := Lib.hid (HH7.out.keep hb)
          clear hb HL7 HB7 HH7 hyt
          go_wp2
          go_roundw
          case rel => exact ⟨j + 1, gl, ep, d, L, F, G, ah, nh, ch, S, HJ.out.2, by go_num, rfl, rfl, rfl, rfl, HJ.out.1, hep, hnh, HC.out, HEM.out, HL8.out, HH8.out, HB8.out⟩
          case measure => simp [ixOf]; omega
      · go_wp2
        go_meet
        exact ⟨_, rfl, HB.out⟩
  case rest =>
    obtain ⟨z, rfl, HB⟩ := hcut
    go_wp2
    go_ret
    exact ⟨rfl, HB.out⟩
end Go.Proofs.Ytmcjkaoddjakhaa
