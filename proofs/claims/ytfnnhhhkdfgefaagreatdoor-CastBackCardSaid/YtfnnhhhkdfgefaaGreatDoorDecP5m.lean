/- The reference of layer 2: Parse (with a sign). -/
import Derived.Test.YtfnnhhhkdfgefaaGreatDoorDecP5
namespace Go.Proofs.YtfnnhhhkdfgefaaGreatDoor
open Go.RowKit

set_option maxRecDepth 100000 in
set_option maxHeartbeats 4000000 in
theorem ref_parse_m (s : ByteArray) (w : World) (hs : s.size ≤ 1000) (hne : 0 < s.size) (h0 : s[0] = 45) : Calls Tryz.prog 26 #[.string s] w (Par (Pm.parseM s.data.toList) w) := by
  obtain ⟨i0, hi0, hz0, hz1, hz2⟩ := info_parts info3
  have HI0 := Lib.hid hi0; have HZ0 := Lib.hid hz0; have HZ1 := Lib.hid hz1; have HZ2 := Lib.hid hz2
  clear hi0 hz0 hz1 hz2
  have hm : Pm.parseM s.data.toList = match Pm.scan [] none (s.data.toList.drop 1) with | none => (0, 0, false) | some (D, o) => Pm.fin true D o := by
    have e : s.data.toList.head? = some 45 := by rw [head_zero s hne, h0]
    unfold Pm.parseM
    rw [if_pos e, decide_eq_true e]; rfl
  obtain ⟨PL, hPL⟩ : ∃ PL, PL = Pm.parseM s.data.toList := ⟨_, rfl⟩
  rw [← hPL] at hm ⊢
  clear hPL
  have HM := Lib.hid hm
  clear hm
  have hq : s.toList.isEmpty = false := full_list s hne
  have h45 : ((s[0].toNat : Int) == 45) = true := by rw [h0]; decide
  clear h0
  go_enter Tryz.func26, Tryz.ntmps26
  go_upto_block 0 with (fail)
  go_cut [5, 7, 8] (fun iv av pt wx => ∃ (D : List UInt8) (o : Option (List UInt8)) (aa : Option Addr) (kk cc : Nat), iv = .int .i64 (s.size : Int) ∧ av = .slice aa kk cc ∧ pt = .int .i64 (pv 1 D o) ∧ Hid ((dgs D o).length = kk) ∧ kk ≤ 1000 ∧ Hid (St s.data.toList 1 s.size D o) ∧ Hid (IntC (.slice aa kk cc) (Dm.lowd kk (Pm.val (dgs D o))) wx) ∧ Hid (Below w.heap.size w wx))
  case first =>
    go_wp2_with fail
    go_loopw [5, 7, 8] (fun iv av pt wr => ∃ (j : Nat) (D : List UInt8) (o : Option (List UInt8)) (aa : Option Addr) (kk cc : Nat), j ≤ s.size ∧ iv = .int .i64 (j : Int) ∧ av = .slice aa kk cc ∧ pt = .int .i64 (pv 1 D o) ∧ Hid ((dgs D o).length = kk) ∧ Hid (kk ≤ j ∧ j ≤ 1000) ∧ Hid (St s.data.toList 1 j D o) ∧ Hid (IntC (.slice aa kk cc) (Dm.lowd kk (Pm.val (dgs D o))) wr) ∧ Hid (Below w.heap.size w wr)) (fun iv _ _ _ => s.size - (Lib.intOf iv).toNat)
    case atStart => exact ⟨1, [], none, none, 0, 0, by omega, rfl, rfl, rfl, rfl, ⟨by omega, by omega⟩, ⟨rfl, rfl, rfl, rfl, rfl⟩, .inl ⟨_, _, rfl, rfl⟩, Below.refl _ _⟩
    case round =>
      obtain ⟨j, D, o, aa, kk, cc, hjs, rfl, rfl, rfl, HKK, HLEN, HST, HIC, HB⟩ := hrel
      by_cases hj : j < s.size
      · cases o with
        | none =>
          have hat : j = 1 + D.length := by have := HST.out.at_; simp at this; omega
          cases hd : Pm.isD s[j]
          · by_cases hp : s[j] = 46 ∧ D ≠ []
            · have hst2 := HST.out.none_point hj hp.1 hp.2
              have q1 : ((s[j].toNat : Int) == 46) = true := (c46 s[j]).2 hp.1
              have hDl : 0 < D.length := List.length_pos_iff.2 hp.2
              have q2 : (1 : Int) < (j : Int) := by omega
              have HST2 := Lib.hid hst2
              have HPV : Hid ((j : Int) = pv 1 D (some [])) := by show _ = _; simp [pv]; omega
              have HLEN2 : Hid (kk ≤ j + 1 ∧ j + 1 ≤ 1000) := ⟨by have := HLEN.out; omega, by omega⟩
              clear hst2 hd hp HST hat hDl
              simp only [pv]
              go_wp2
              go_roundw
              case rel => exact ⟨j + 1, D, some [], aa, kk, cc, by omega, by go_num, rfl, by rw [HPV.out]; rfl, by show _ = _; exact HKK.out, HLEN2, HST2, HIC, HB⟩
              case measure => simp [Lib.intOf]; omega
            · have hbad := HST.out.none_bad hj hd hp
              have HBAD : Hid (PL = (0, 0, false)) := by show _ = _; rw [HM.out, hbad]
              have hcc : ¬ (48 ≤ s[j].toNat ∧ s[j].toNat ≤ 57) := fun e => by rw [(Pm.isD_iff s[j]).2 e] at hd; cases hd
              clear hbad hd HM
              by_cases h46 : s[j] = 46
              · have hD0 : D.length = 0 := by
                  rcases Nat.eq_zero_or_pos D.length with e | e
                  · exact e
                  · exact absurd ⟨h46, List.length_pos_iff.1 e⟩ hp
                have q1 : ((s[j].toNat : Int) == 46) = true := (c46 s[j]).2 h46
                have q2 : ¬ (1 : Int) < (j : Int) := by omega
                have q3 : ¬ (48 : Int) ≤ (s[j].toNat : Int) := by rw [h46]; decide
                clear hcc h46 hp HST hat hD0
                simp only [pv]
                go_wp2
                go_ret3
                exact ⟨by rw [HBAD.out]; rfl, HB.out⟩
              · have q1 : ((s[j].toNat : Int) == 46) = false := by cases hh : ((s[j].toNat : Int) == 46); rfl; exact absurd ((c46 s[j]).1 hh) h46
                clear h46 hp HST hat
                simp only [pv]
                by_cases h48 : (48 : Int) ≤ (s[j].toNat : Int)
                · have q4 : ¬ (s[j].toNat : Int) ≤ 57 := by omega
                  clear hcc
                  go_wp2
                  go_ret3
                  exact ⟨by rw [HBAD.out]; rfl, HB.out⟩
                · clear hcc
                  go_wp2
                  go_ret3
                  exact ⟨by rw [HBAD.out]; rfl, HB.out⟩
          · have q1 : ((s[j].toNat : Int) == 46) = false := by cases hh : ((s[j].toNat : Int) == 46); rfl; rw [(c46 s[j]).1 hh, Pm.isD_46] at hd; cases hd
            clear hat
            simp only [pv]
            obtain ⟨e1, e2⟩ := isD_int s[j] hd
            have hst2 := HST.out.none_digit hj hd
            have hpd := push_digit (dgs D none) s[j] hd
            have hdg : dgs D none ++ [s[j]] = dgs (D ++ [s[j]]) none := by simp [dgs]
            rw [hdg] at hpd
            have HPD := Lib.hid hpd; have HST2 := Lib.hid hst2; have HDL : Hid ((dgs (D ++ [s[j]]) none).length = kk + 1) := by show _ = _; rw [← hdg, List.length_append, HKK.out]; rfl
            rw [HKK.out] at HPD
            have hk99 : kk ≤ 999 := by have := HLEN.out; omega
            clear hst2 hpd hdg HST hd
            obtain ⟨dv, hdv⟩ : ∃ dv : Nat, dv = s[j].toNat - 48 := ⟨_, rfl⟩
            have hdv9 : dv ≤ 9 := by omega
            have esub : IntKind.u8.wrap ((s[j].toNat : Int) - 48) = (dv : Int) := by rw [IntWalk.u8_in _ (by omega)]; omega
            have esub2 : (s[j].toNat : Int) - 48 = (dv : Int) := by omega
            rw [← hdv] at HPD
            have hsz := HB.out.size
            have hsrc := (HIC.out.keep (w' := wr.alloc (.cells #[.int .i64 (dv : Int)] 3)) ((Below.refl _ wr).alloc (Nat.le_refl _) _)).src
            rw [Dm.lowd_length] at hsrc
            have HSRC := Lib.hid hsrc
            clear hsrc hdv
            go_wp2_with (at_builtin; refine wpList_append_src _ rfl (.tmp 58) (.tmp 59) 64 64 rfl w.heap.size 3 i0 (.int .i64 0) 1 8 Tryz.underlying64 HI0.out HZ0.out HZ1.out HZ2.out rfl _ 1 (ic [(dv : Int)]) rfl (own_lit3 wr _ _ hsz) (.slice aa kk cc) kk (ic (Dm.lowd kk (Pm.val (dgs D none)))) rfl HSRC.out ?san ?sbn ?scn ?_)
            case san => unfold maxLen; omega
            case sbn => omega
            case scn => simp; omega
            intro v5 w5 hown hgrow hat
            have hbel := (HB.out.alloc hsz _).grown hgrow (by simp; omega) (by intro k hk; simp [Value.ownBlock] at hk; omega)
            have hown2 : w5.ownsRow w.heap.size 3 1 v5 (kk + 1) (ic (Dm.lowd (kk + 1) (Pm.val (dgs (D ++ [s[j]]) none)))) := by
              have e := HPD.out
              rw [HDL.out] at e
              rw [e, Nat.add_comm kk 1]; exact hown
            obtain ⟨a5, c5, hv5⟩ : ∃ a5 c5, v5 = .slice a5 (kk + 1) c5 := by
              obtain ⟨a5, c5, e⟩ := (IntC.of_own hown2).form
              rw [Dm.lowd_length] at e; exact ⟨a5, c5, e⟩
            rw [hv5] at hown2 ⊢
            have HI5 := Lib.hid (IntC.of_own hown2)
            have HB5 := Lib.hid hbel
            have HLEN2 : Hid (kk + 1 ≤ j + 1 ∧ j + 1 ≤ 1000) := ⟨by have := HLEN.out; omega, by omega⟩
            clear hown hgrow hat hbel hown2 hv5
            go_wp2
            go_roundw
            case rel => exact ⟨j + 1, (D ++ [s[j]]), none, a5, kk + 1, c5, by omega, by go_num, rfl, (by first | rfl | simp), HDL, HLEN2, HST2, HI5, HB5⟩
            case measure => simp [Lib.intOf]; omega
        | some E =>
          have hpp : (0 : Int) ≤ (((1 + D.length : Nat)) : Int) := by omega
          cases hd : Pm.isD s[j]
          · have hbad := HST.out.some_bad hj hd
            have HBAD : Hid (PL = (0, 0, false)) := by show _ = _; rw [HM.out, hbad]
            have hcc : ¬ (48 ≤ s[j].toNat ∧ s[j].toNat ≤ 57) := fun e => by rw [(Pm.isD_iff s[j]).2 e] at hd; cases hd
            clear hbad hd HM HST
            simp only [pv]
            by_cases h46 : ((s[j].toNat : Int) == 46) = true
            · have q3 : ¬ (48 : Int) ≤ (s[j].toNat : Int) := by rw [beq_iff_eq] at h46; omega
              clear hcc
              go_wp2
              go_ret3
              exact ⟨by rw [HBAD.out]; rfl, HB.out⟩
            · have q1 : ((s[j].toNat : Int) == 46) = false := by simpa using h46
              clear h46
              by_cases h48 : (48 : Int) ≤ (s[j].toNat : Int)
              · have q4 : ¬ (s[j].toNat : Int) ≤ 57 := by omega
                clear hcc
                go_wp2
                go_ret3
                exact ⟨by rw [HBAD.out]; rfl, HB.out⟩
              · clear hcc
                go_wp2
                go_ret3
                exact ⟨by rw [HBAD.out]; rfl, HB.out⟩
          · have q1 : ((s[j].toNat : Int) == 46) = false := by cases hh : ((s[j].toNat : Int) == 46); rfl; rw [(c46 s[j]).1 hh, Pm.isD_46] at hd; cases hd
            simp only [pv]
            obtain ⟨e1, e2⟩ := isD_int s[j] hd
            have hst2 := HST.out.some_digit hj hd
            have hpd := push_digit (dgs D (some E)) s[j] hd
            have hdg : dgs D (some E) ++ [s[j]] = dgs D (some (E ++ [s[j]])) := by simp [dgs]
            rw [hdg] at hpd
            have HPD := Lib.hid hpd; have HST2 := Lib.hid hst2; have HDL : Hid ((dgs D (some (E ++ [s[j]]))).length = kk + 1) := by show _ = _; rw [← hdg, List.length_append, HKK.out]; rfl
            rw [HKK.out] at HPD
            have hk99 : kk ≤ 999 := by have := HLEN.out; omega
            clear hst2 hpd hdg HST hd
            obtain ⟨dv, hdv⟩ : ∃ dv : Nat, dv = s[j].toNat - 48 := ⟨_, rfl⟩
            have hdv9 : dv ≤ 9 := by omega
            have esub : IntKind.u8.wrap ((s[j].toNat : Int) - 48) = (dv : Int) := by rw [IntWalk.u8_in _ (by omega)]; omega
            have esub2 : (s[j].toNat : Int) - 48 = (dv : Int) := by omega
            rw [← hdv] at HPD
            have hsz := HB.out.size
            have hsrc := (HIC.out.keep (w' := wr.alloc (.cells #[.int .i64 (dv : Int)] 3)) ((Below.refl _ wr).alloc (Nat.le_refl _) _)).src
            rw [Dm.lowd_length] at hsrc
            have HSRC := Lib.hid hsrc
            clear hsrc hdv
            go_wp2_with (at_builtin; refine wpList_append_src _ rfl (.tmp 58) (.tmp 59) 64 64 rfl w.heap.size 3 i0 (.int .i64 0) 1 8 Tryz.underlying64 HI0.out HZ0.out HZ1.out HZ2.out rfl _ 1 (ic [(dv : Int)]) rfl (own_lit3 wr _ _ hsz) (.slice aa kk cc) kk (ic (Dm.lowd kk (Pm.val (dgs D (some E))))) rfl HSRC.out ?sas ?sbs ?scs ?_)
            case sas => unfold maxLen; omega
            case sbs => omega
            case scs => simp; omega
            intro v5 w5 hown hgrow hat
            have hbel := (HB.out.alloc hsz _).grown hgrow (by simp; omega) (by intro k hk; simp [Value.ownBlock] at hk; omega)
            have hown2 : w5.ownsRow w.heap.size 3 1 v5 (kk + 1) (ic (Dm.lowd (kk + 1) (Pm.val (dgs D (some (E ++ [s[j]])))))) := by
              have e := HPD.out
              rw [HDL.out] at e
              rw [e, Nat.add_comm kk 1]; exact hown
            obtain ⟨a5, c5, hv5⟩ : ∃ a5 c5, v5 = .slice a5 (kk + 1) c5 := by
              obtain ⟨a5, c5, e⟩ := (IntC.of_own hown2).form
              rw [Dm.lowd_length] at e; exact ⟨a5, c5, e⟩
            rw [hv5] at hown2 ⊢
            have HI5 := Lib.hid (IntC.of_own hown2)
            have HB5 := Lib.hid hbel
            have HLEN2 : Hid (kk + 1 ≤ j + 1 ∧ j + 1 ≤ 1000) := ⟨by have := HLEN.out; omega, by omega⟩
            clear hown hgrow hat hbel hown2 hv5
            go_wp2
            go_roundw
            case rel => exact ⟨j + 1, D, (some (E ++ [s[j]])), a5, kk + 1, c5, by omega, by go_num, rfl, (by first | rfl | simp), HDL, HLEN2, HST2, HI5, HB5⟩
            case measure => simp [Lib.intOf]; omega
      · have hjs2 : j = s.size := by omega
        subst hjs2
        have hk100 : kk ≤ 1000 := by have := HLEN.out; omega
        have HAR : Hid (∃ (D' : List UInt8) (o' : Option (List UInt8)), pv 1 D o = pv 1 D' o' ∧ D' = D ∧ o' = o) := ⟨D, o, rfl, rfl, rfl⟩
        go_wp2
        go_meet
        exact ⟨D, o, aa, kk, cc, rfl, rfl, rfl, HKK, hk100, HST, HIC, HB⟩
  case rest =>
    obtain ⟨D, o, aa, kk, cc, rfl, rfl, rfl, HKK, hk100, HST, HIC, HB⟩ := hcut
    cases o with
    | none =>
      have hat : s.size = 1 + D.length := by have := HST.out.at_; simp at this; omega
      have hM2 : PL = Pm.fin true D none := by rw [HM.out, HST.out.fin]
      have hVL : Pm.val (dgs D none) < 10 ^ kk := Pm.val_lt kk _ HKK.out (dgs_all D _ HST.out.allD HST.out.allE)
      have hhd : ∀ h : 1 < s.size, 0 < D.length → D.head? = some s[1] := fun h h2 => HST.out.head h h2
      clear HM HST HKK
      simp only [pv]
      by_cases hD0 : D.length = 0
      · have HF := Lib.hid (show PL = (0, 0, false) from by rw [hM2, fin_bad2 _ _ _ (.inl hD0)])
        clear hM2 hhd hVL
        go_wp2
        go_ret3
        exact ⟨by rw [HF.out]; rfl, HB.out⟩
      have hlb : 1 < s.size := by omega
      have hh := hhd hlb (by omega)
      clear hhd
      by_cases hD1 : D.length ≤ 1
      · rw [fin_good _ _ _ (by rintro (e | e); omega; omega) (fun E' e => by cases e; )] at hM2
        have hnd : Dm.nd (Pm.val (dgs D none)) ≤ kk := Dm.nd_le _ _ hVL
        have HIC2 := HIC
        clear HIC hh
        revert hM2 hVL hnd HIC2
        generalize Pm.val (dgs D none) = V
        intro hM2 hVL hnd HIC
        have HM := Lib.hid hM2; have HVL := Lib.hid hVL; have HND := Lib.hid hnd
        clear hM2 hVL hnd
        go_wp2_with fail
        refine (ref_trim aa cc kk V _ HIC.out HVL.out (by omega)).mono ?_
        rintro e w2 ⟨ta, tc, rfl, hti, rfl⟩
        have HTI := Lib.hid hti
        clear hti
        go_wp2_with fail
        refine (ref_int_true ta tc V _ HTI.out (by have := HND.out; omega)).mono ?_
        rintro e w3 ⟨rfl, hb⟩
        have HB3 := Lib.hid (HB.out.trans (hb.mono HB.out.size))
        clear hb HTI HB
        by_cases hV : V ≤ 9223372036854775808
        · have ei : inAns V 9223372036854775808 (-(V : Int)) = .tuple #[.int .i64 (-(V : Int)), .bool true] := if_pos hV
          rw [ei]
          have hr : Pm.inR true V = true := by simp [Pm.inR]; exact hV
          rw [hr] at HM
          clear ei hr
          by_cases hV0 : V = 0
          · have HF := Lib.hid (show PL = (0, 0, false) from by rw [HM.out, if_neg (fun e => e.2 ⟨by first | rfl | trivial, hV0⟩)])
            have qv : (-(V : Int) == 0) = true := by rw [beq_iff_eq]; omega
            clear HM hV0
            go_wp2
            go_ret3
            exact ⟨by rw [HF.out]; rfl, HB3.out⟩
          · have HF := Lib.hid (show PL = (-(V : Int), 0, true) from by rw [HM.out, if_pos ⟨rfl, fun e => hV0 e.2⟩]; rfl)
            have qv : (-(V : Int) == 0) = false := by rw [beq_eq_false_iff_ne]; omega
            clear HM hV0
            go_wp2
            go_ret3
            exact ⟨by rw [HF.out]; exact ret3 rfl (by first | rfl | omega | (simp; omega)), HB3.out⟩
        · have ei : inAns V 9223372036854775808 (-(V : Int)) = .tuple #[.int .i64 0, .bool false] := if_neg hV
          rw [ei]
          have hr : Pm.inR true V = false := by simp [Pm.inR]; omega
          have HF := Lib.hid (show PL = (0, 0, false) from by rw [HM.out, hr, if_neg (fun e => by cases e.1)])
          clear HM hr ei hV
          go_wp2
          go_ret3
          exact ⟨by rw [HF.out]; rfl, HB3.out⟩

      · by_cases hz : D.head? = some 48
        · have HF := Lib.hid (show PL = (0, 0, false) from by rw [hM2, fin_bad2 _ _ _ (.inr ⟨by omega, hz⟩)])
          have q48 : ((s[1].toNat : Int) == 48) = true := (c48 _).2 (by rw [hh] at hz; simpa using hz)
          clear hM2 hVL hh hz
          go_wp2
          go_ret3
          exact ⟨by rw [HF.out]; rfl, HB.out⟩
        · have q48 : ((s[1].toNat : Int) == 48) = false := by cases h4 : ((s[1].toNat : Int) == 48); rfl; exact absurd (by rw [hh, (c48 _).1 h4]) hz
          rw [fin_good _ _ _ (by rintro (e | e); omega; exact hz e.2) (fun E' e => by cases e; )] at hM2
          have hnd : Dm.nd (Pm.val (dgs D none)) ≤ kk := Dm.nd_le _ _ hVL
          have HIC2 := HIC
          clear HIC hh hz
          revert hM2 hVL hnd HIC2
          generalize Pm.val (dgs D none) = V
          intro hM2 hVL hnd HIC
          have HM := Lib.hid hM2; have HVL := Lib.hid hVL; have HND := Lib.hid hnd
          clear hM2 hVL hnd
          go_wp2_with fail
          refine (ref_trim aa cc kk V _ HIC.out HVL.out (by omega)).mono ?_
          rintro e w2 ⟨ta, tc, rfl, hti, rfl⟩
          have HTI := Lib.hid hti
          clear hti
          go_wp2_with fail
          refine (ref_int_true ta tc V _ HTI.out (by have := HND.out; omega)).mono ?_
          rintro e w3 ⟨rfl, hb⟩
          have HB3 := Lib.hid (HB.out.trans (hb.mono HB.out.size))
          clear hb HTI HB
          by_cases hV : V ≤ 9223372036854775808
          · have ei : inAns V 9223372036854775808 (-(V : Int)) = .tuple #[.int .i64 (-(V : Int)), .bool true] := if_pos hV
            rw [ei]
            have hr : Pm.inR true V = true := by simp [Pm.inR]; exact hV
            rw [hr] at HM
            clear ei hr
            by_cases hV0 : V = 0
            · have HF := Lib.hid (show PL = (0, 0, false) from by rw [HM.out, if_neg (fun e => e.2 ⟨by first | rfl | trivial, hV0⟩)])
              have qv : (-(V : Int) == 0) = true := by rw [beq_iff_eq]; omega
              clear HM hV0
              go_wp2
              go_ret3
              exact ⟨by rw [HF.out]; rfl, HB3.out⟩
            · have HF := Lib.hid (show PL = (-(V : Int), 0, true) from by rw [HM.out, if_pos ⟨rfl, fun e => hV0 e.2⟩]; rfl)
              have qv : (-(V : Int) == 0) = false := by rw [beq_eq_false_iff_ne]; omega
              clear HM hV0
              go_wp2
              go_ret3
              exact ⟨by rw [HF.out]; exact ret3 rfl (by first | rfl | omega | (simp; omega)), HB3.out⟩
          · have ei : inAns V 9223372036854775808 (-(V : Int)) = .tuple #[.int .i64 0, .bool false] := if_neg hV
            rw [ei]
            have hr : Pm.inR true V = false := by simp [Pm.inR]; omega
            have HF := Lib.hid (show PL = (0, 0, false) from by rw [HM.out, hr, if_neg (fun e => by cases e.1)])
            clear HM hr ei hV
            go_wp2
            go_ret3
            exact ⟨by rw [HF.out]; rfl, HB3.out⟩

    | some E =>
      have hat : s.size = 1 + D.length + (1 + E.length) := by have := HST.out.at_; simp at this; omega
      have hat1 : s.size ≤ 1 + D.length + (1 + E.length) := by omega
      have hat2 : 1 + D.length + (1 + E.length) ≤ s.size := by omega
      clear hat
      have hM2 : PL = Pm.fin true D (some E) := by rw [HM.out, HST.out.fin]
      have hVL : Pm.val (dgs D (some E)) < 10 ^ kk := Pm.val_lt kk _ HKK.out (dgs_all D _ HST.out.allD HST.out.allE)
      have hhd : ∀ h : 1 < s.size, 0 < D.length → D.head? = some s[1] := fun h h2 => HST.out.head h h2
      clear HM HST HKK
      simp only [pv]
      go_upto_region 21 with (fail)
      first
      | rw [show ((s.size : Int) - (D.length : Int) - 1) = (E.length : Int) by omega]
      | rw [show ((s.size : Int) - (1 + (D.length : Int)) - 1) = (E.length : Int) by omega]
      | rw [show ((s.size : Int) - ((D.length : Int) + 1) - 1) = (E.length : Int) by omega]
      | rw [show ((s.size : Int) - ((1 + D.length : Nat) : Int) - 1) = (E.length : Int) by omega]
      by_cases hE : E.length = 0 ∨ 6 < E.length
      · have HF := Lib.hid (show PL = (0, 0, false) from by rw [hM2, fin_bad1 _ _ _ hE])
        clear hM2 hhd hVL
        by_cases hE0 : E.length = 0
        · have q0 : ((E.length : Int) == 0) = true := by rw [beq_iff_eq]; omega
          clear hE hE0 hat1 hat2
          go_wp2
          go_ret3
          exact ⟨by rw [HF.out]; rfl, HB.out⟩
        · have hE6 : 6 < E.length := by omega
          have q0 : ((E.length : Int) == 0) = false := by rw [beq_eq_false_iff_ne]; omega
          have q6 : (6 : Int) < (E.length : Int) := by omega
          clear hE hE0
          go_wp2
          go_ret3
          exact ⟨by rw [HF.out]; rfl, HB.out⟩
      have hE1 : 1 ≤ E.length := by omega
      have hE6 : E.length ≤ 6 := by omega
      have q0 : ((E.length : Int) == 0) = false := by rw [beq_eq_false_iff_ne]; omega
      have q6 : (E.length : Int) ≤ 6 := by omega
      clear hE
      by_cases hD0 : D.length = 0
      · have HF := Lib.hid (show PL = (0, 0, false) from by rw [hM2, fin_bad2 _ _ _ (.inl hD0)])
        clear hM2 hhd hVL
        go_wp2
        go_ret3
        exact ⟨by rw [HF.out]; rfl, HB.out⟩
      have hlb : 1 < s.size := by omega
      have hh := hhd hlb (by omega)
      clear hhd
      by_cases hD1 : D.length ≤ 1
      · rw [fin_good _ _ _ (by rintro (e | e); omega; omega) (fun E' e => by cases e; exact ⟨hE1, hE6⟩)] at hM2
        have hnd : Dm.nd (Pm.val (dgs D (some E))) ≤ kk := Dm.nd_le _ _ hVL
        have HIC2 := HIC
        clear HIC hh
        revert hM2 hVL hnd HIC2
        generalize Pm.val (dgs D (some E)) = V
        intro hM2 hVL hnd HIC
        have HM := Lib.hid hM2; have HVL := Lib.hid hVL; have HND := Lib.hid hnd
        clear hM2 hVL hnd
        go_wp2_with fail
        refine (ref_trim aa cc kk V _ HIC.out HVL.out (by omega)).mono ?_
        rintro e w2 ⟨ta, tc, rfl, hti, rfl⟩
        have HTI := Lib.hid hti
        clear hti
        go_wp2_with fail
        refine (ref_int_true ta tc V _ HTI.out (by have := HND.out; omega)).mono ?_
        rintro e w3 ⟨rfl, hb⟩
        have HB3 := Lib.hid (HB.out.trans (hb.mono HB.out.size))
        clear hb HTI HB
        by_cases hV : V ≤ 9223372036854775808
        · have ei : inAns V 9223372036854775808 (-(V : Int)) = .tuple #[.int .i64 (-(V : Int)), .bool true] := if_pos hV
          rw [ei]
          have hr : Pm.inR true V = true := by simp [Pm.inR]; exact hV
          rw [hr] at HM
          clear ei hr
          by_cases hV0 : V = 0
          · have HF := Lib.hid (show PL = (0, 0, false) from by rw [HM.out, if_neg (fun e => e.2 ⟨by first | rfl | trivial, hV0⟩)])
            have qv : (-(V : Int) == 0) = true := by rw [beq_iff_eq]; omega
            clear HM hV0
            go_wp2
            go_ret3
            exact ⟨by rw [HF.out]; rfl, HB3.out⟩
          · have HF := Lib.hid (show PL = (-(V : Int), (E.length : Int), true) from by rw [HM.out, if_pos ⟨rfl, fun e => hV0 e.2⟩]; rfl)
            have qv : (-(V : Int) == 0) = false := by rw [beq_eq_false_iff_ne]; omega
            clear HM hV0
            go_wp2
            go_ret3
            exact ⟨by rw [HF.out]; exact ret3 rfl (by first | rfl | omega | (simp; omega)), HB3.out⟩
        · have ei : inAns V 9223372036854775808 (-(V : Int)) = .tuple #[.int .i64 0, .bool false] := if_neg hV
          rw [ei]
          have hr : Pm.inR true V = false := by simp [Pm.inR]; omega
          have HF := Lib.hid (show PL = (0, 0, false) from by rw [HM.out, hr, if_neg (fun e => by cases e.1)])
          clear HM hr ei hV
          go_wp2
          go_ret3
          exact ⟨by rw [HF.out]; rfl, HB3.out⟩

      · by_cases hz : D.head? = some 48
        · have HF := Lib.hid (show PL = (0, 0, false) from by rw [hM2, fin_bad2 _ _ _ (.inr ⟨by omega, hz⟩)])
          have q48 : ((s[1].toNat : Int) == 48) = true := (c48 _).2 (by rw [hh] at hz; simpa using hz)
          clear hM2 hVL hh hz
          go_wp2
          go_ret3
          exact ⟨by rw [HF.out]; rfl, HB.out⟩
        · have q48 : ((s[1].toNat : Int) == 48) = false := by cases h4 : ((s[1].toNat : Int) == 48); rfl; exact absurd (by rw [hh, (c48 _).1 h4]) hz
          rw [fin_good _ _ _ (by rintro (e | e); omega; exact hz e.2) (fun E' e => by cases e; exact ⟨hE1, hE6⟩)] at hM2
          have hnd : Dm.nd (Pm.val (dgs D (some E))) ≤ kk := Dm.nd_le _ _ hVL
          have HIC2 := HIC
          clear HIC hh hz
          revert hM2 hVL hnd HIC2
          generalize Pm.val (dgs D (some E)) = V
          intro hM2 hVL hnd HIC
          have HM := Lib.hid hM2; have HVL := Lib.hid hVL; have HND := Lib.hid hnd
          clear hM2 hVL hnd
          go_wp2_with fail
          refine (ref_trim aa cc kk V _ HIC.out HVL.out (by omega)).mono ?_
          rintro e w2 ⟨ta, tc, rfl, hti, rfl⟩
          have HTI := Lib.hid hti
          clear hti
          go_wp2_with fail
          refine (ref_int_true ta tc V _ HTI.out (by have := HND.out; omega)).mono ?_
          rintro e w3 ⟨rfl, hb⟩
          have HB3 := Lib.hid (HB.out.trans (hb.mono HB.out.size))
          clear hb HTI HB
          by_cases hV : V ≤ 9223372036854775808
          · have ei : inAns V 9223372036854775808 (-(V : Int)) = .tuple #[.int .i64 (-(V : Int)), .bool true] := if_pos hV
            rw [ei]
            have hr : Pm.inR true V = true := by simp [Pm.inR]; exact hV
            rw [hr] at HM
            clear ei hr
            by_cases hV0 : V = 0
            · have HF := Lib.hid (show PL = (0, 0, false) from by rw [HM.out, if_neg (fun e => e.2 ⟨by first | rfl | trivial, hV0⟩)])
              have qv : (-(V : Int) == 0) = true := by rw [beq_iff_eq]; omega
              clear HM hV0
              go_wp2
              go_ret3
              exact ⟨by rw [HF.out]; rfl, HB3.out⟩
            · have HF := Lib.hid (show PL = (-(V : Int), (E.length : Int), true) from by rw [HM.out, if_pos ⟨rfl, fun e => hV0 e.2⟩]; rfl)
              have qv : (-(V : Int) == 0) = false := by rw [beq_eq_false_iff_ne]; omega
              clear HM hV0
              go_wp2
              go_ret3
              exact ⟨by rw [HF.out]; exact ret3 rfl (by first | rfl | omega | (simp; omega)), HB3.out⟩
          · have ei : inAns V 9223372036854775808 (-(V : Int)) = .tuple #[.int .i64 0, .bool false] := if_neg hV
            rw [ei]
            have hr : Pm.inR true V = false := by simp [Pm.inR]; omega
            have HF := Lib.hid (show PL = (0, 0, false) from by rw [HM.out, hr, if_neg (fun e => by cases e.1)])
            clear HM hr ei hV
            go_wp2
            go_ret3
            exact ⟨by rw [HF.out]; rfl, HB3.out⟩
end Go.Proofs.YtfnnhhhkdfgefaaGreatDoor
