/- WireReads returns true for all bytes, all calls and every bound: a reader returns the specified values for any bytes and calls. No condition. -/
import Derived.Test.YtgpeombkdompdaaWireRef2
import Derived.ProofKit
import Derived.OpenShut
import Derived.ShutString
import Derived.ChangeOld
import Derived.Below
namespace Go.Proofs.Ytgpeombkdompdaa.wireReads
open Go.ChangeShapes Go.WideShapes Go.ChangeAt Go.RowKit
set_option linter.unusedVariables false

theorem own : ownKnob Try.prog.godebug = none := by kernel_rfl
theorem laidOut : laidOutB Try.prog = true := by kernel_rfl

theorem drop_empty (l : List UInt8) (k : Nat) : (((l.length - k : Nat) : Int) == 0) = (l.drop k).isEmpty := by
  rw [Bool.eq_iff_iff, List.isEmpty_iff, List.drop_eq_nil_iff]
  simp
  omega

set_option maxHeartbeats 8000000 in
set_option maxRecDepth 100000 in
theorem walk (bv av : Value) (l0 asks : List UInt8) (most : Int) (w : World) (hm0 : l0.length ≤ maxLen) (hm1 : asks.length ≤ maxLen) (h0 : BytC bv l0 w) (h1 : BytC av asks w) :
    Calls Try.prog 4 #[bv, av, .int .i64 most] w fun e w' => e = .returned (.bool true) ∧ Below w.heap.size w w' := by
  unfold maxLen at hm0 hm1
  obtain ⟨ra, rc, rfl⟩ := h0.form
  obtain ⟨aa, ac, rfl⟩ := h1.form
  have H0 := Lib.hid h0
  have H1 := Lib.hid h1
  clear h0 h1
  by_cases hbig : 1000 < l0.length ∨ 100 < asks.length
  · have hd : (decide ((1000 : Int) < (l0.length : Int)) = true) ∨ (decide ((1000 : Int) < (l0.length : Int)) = false ∧ decide ((100 : Int) < (asks.length : Int)) = true) := by
      by_cases h : 1000 < l0.length
      · left; simp; omega
      · right; exact ⟨by simp; omega, by simp; omega⟩
    rcases hd with hd | ⟨hd, hd2⟩
    all_goals
      go_enter Try.func4, Try.ntmps4
      go_wp2_with fail
      refine (first_true _).mono ?_
      rintro e wa ⟨rfl, hb⟩
      have HB := Lib.hid hb
      clear hb
      go_wp2
      go_ret
      exact ⟨rfl, HB.out⟩
  · obtain ⟨i0, hi0, hz0, hz1, hz2⟩ := info_parts info5
    have HI0 := Lib.hid hi0; have HZ0 := Lib.hid hz0; have HZ1 := Lib.hid hz1; have HZ2 := Lib.hid hz2
    clear hi0 hz0 hz1 hz2
    have hd : decide ((1000 : Int) < (l0.length : Int)) = false := by simp; omega
    have hd2 : decide ((100 : Int) < (asks.length : Int)) = false := by simp; omega
    have b0 : l0.length ≤ 1000 := by omega
    have b1 : asks.length ≤ 100 := by omega
    clear hbig hm0 hm1
    go_enter Try.func4, Try.ntmps4
    go_wp2_with fail
    refine (first_true _).mono ?_
    rintro e wr ⟨rfl, hb⟩
    have HB := Lib.hid hb
    have hsz := hb.size
    clear hb
    have HC := Lib.hid (H0.out.keep (HB.out.trans ((Below.refl _ wr).alloc (Nat.le_refl _) (.cells #[] 5) |>.mono hsz)))
    go_wp2_with (at_builtin; refine wpList_append_src _ rfl (.tmp 29) (.tmp 30) 24 24 rfl wr.heap.size 5 i0 (.int .u8 0) 1 1 Try.underlying24 HI0.out HZ0.out HZ1.out HZ2.out rfl _ 0 [] rfl (World.ownsRow_made wr #[] 0 (Nat.le_refl _) (Nat.zero_le _) rfl) (.slice ra l0.length rc) l0.length (bc l0) rfl HC.out.src ?qa ?qb ?qc ?_)
    case qa => unfold maxLen; omega
    case qb => omega
    case qc => simp
    intro v2 w2 hown hgrow hat
    obtain ⟨g, c2, hv2, hgH⟩ : ∃ g c2, v2 = .slice (some ⟨g, 0, none⟩) l0.length c2 ∧ wr.heap.size ≤ g := by
      rcases hown.2 with ⟨e, _⟩ | ⟨g, cap, cur, e, hg, _⟩
      · rw [e] at hat; simp [Value.ownBlock] at hat
      · exact ⟨g, cap, e, hg⟩
    subst hv2
    have ho2 : Only (fun _ => False) wr w2 := ((Only.refl (fun _ => False) wr).alloc _).grown hgrow (by intro k hk; simp [Value.ownBlock] at hk; omega)
    have hscr := Scr.of_own hown
    have HB2 := Lib.hid (HB.out.trans (ho2.belowB (B := w.heap.size) hsz (fun _ _ => id)))
    have HSC := Lib.hid hscr
    have HBY := Lib.hid (Byt.of_own hown)
    have hgw : g < w2.heap.size := hscr.lt
    clear hown hgrow hat ho2 hscr HC
    go_wp2_with fail
    refine (read_any _ l0 _ HBY.out (by omega)).mono ?_
    rintro e w3 ⟨r, sv, rfl, hrd, hrr, hrs, hbel⟩
    have hrg : r ≠ g := by omega
    have hsg : ∀ k, sv.ownBlock = some k → w.heap.size ≤ k ∧ k ≠ g := fun k hk => by have := hrs k hk; have := HB2.out.size; omega
    have hrB : w.heap.size ≤ r := by have := HB2.out.size; omega
    have HX0 := Lib.hid (show Rd r sv (some l0) w3 ∧ Below w.heap.size w w3 ∧ Scr g l0.length w3 from ⟨hrd, HB2.out.trans (hbel.mono HB2.out.size), HSC.out.keep (Only.of_below hbel) (by omega)⟩)
    have HSG := Lib.hid hsg
    have HRG := Lib.hid hrg
    clear hrd hrs hbel hsg hrr HSC HBY HB2 hrg
    go_wp2_with fail
    go_loopw [36] (fun i wx => ∃ k : Nat, k ≤ l0.length ∧ i = .int .i64 (k : Int) ∧ Hid (Rd r sv (some l0) wx ∧ Below w.heap.size w wx ∧ Scr g l0.length wx)) (fun i _ => l0.length - (intOf i).toNat)
    case atStart => exact ⟨0, Nat.zero_le _, rfl, HX0⟩
    case round =>
      obtain ⟨k, hk, rfl, HX⟩ := hrel
      clear HX0
      by_cases hlt : k < l0.length
      · obtain ⟨z, hcz, hfz⟩ := HX.out.2.2.cell k hlt
        go_wp2
        go_roundw
        case rel => exact ⟨k + 1, by omega, by go_num, HX.out.1.keep ((Only.refl (fun i => i = g) _).setCell (q := ⟨g, k, none⟩) (.inl rfl) _) HRG.out (fun i hi e => (HSG.out i hi).2 e), HX.out.2.1.setCell (by show w.heap.size ≤ g; omega) _, HX.out.2.2.set k _⟩
        case measure => simp [intOf]; omega
      · obtain rfl : k = l0.length := by omega
        clear hlt hk
        have HR : Hid (∀ wx, Rd r sv (some l0) wx → Below w.heap.size w wx → RdB w.heap.size r (some l0) w wx) := fun wx h1 h2 => ⟨⟨sv, h1, fun k hk => (HSG.out k hk).1⟩, hrB, h2, Nat.le_refl _⟩
        have HRB := Lib.hid (HR.out _ HX.out.1 HX.out.2.1)
        clear HX HR HSG HRG
        go_wp2_with fail
        go_loopw [10, 11, 49] (fun rest bad i wx => ∃ (j : Nat) (st : Option (List UInt8)) (a : Option Addr) (c : Nat), j ≤ asks.length ∧ i = .int .i64 (j : Int) ∧ bad = .bool st.isNone ∧ rest = .slice a (st.getD []).length c ∧ Hid (RdB w.heap.size r st w wx) ∧ Hid (BytC (.slice a (st.getD []).length c) (st.getD []) w) ∧ (st.getD []).length ≤ 1000) (fun _ _ i _ => asks.length - (intOf i).toNat)
        case atStart => exact ⟨0, some l0, ra, rc, Nat.zero_le _, rfl, rfl, rfl, HRB, H0, b0⟩
        case round =>
          obtain ⟨j, st, sa, sc, hj, rfl, rfl, rfl, HRB1, HBC, hsl⟩ := hrel
          clear HRB
          by_cases hlt : j < asks.length
          · have hcj0 : ∃ b off, aa = some ⟨b, off, none⟩ ∧ wr.cell? ⟨b, off + j, none⟩ = some (.int .u8 (asks.getD j 0).toNat) := by
              rcases H1.out with ⟨a', c', e, he⟩ | ⟨b, off, cap, e, _, hb, hc⟩
              · rw [he] at hlt; simp at hlt
              · simp only [Value.slice.injEq, true_and] at e
                exact ⟨b, off, e.1, (HRB1.out.bel.cell (p := ⟨b, off + j, none⟩) hb).trans (hc j hlt)⟩
            obtain ⟨b, off, rfl, hcj⟩ := hcj0
            generalize asks.getD j 0 = x at *
            have HBW := Lib.hid (HBC.out.keep HRB1.out.bel)
            have hk4 : ((x.toNat : Int) % 4 = 0) ∨ ((x.toNat : Int) % 4 = 1) ∨ ((x.toNat : Int) % 4 = 2) ∨ ((x.toNat : Int) % 4 = 3) := by omega
            cases st with
            | none =>
              simp only [Option.getD_none, List.length_nil, Option.isNone_none] at hsl HBC HBW ⊢
              have hbs : bstr [] = ⟨#[]⟩ := rfl
              rcases hk4 with hki | hki | hki | hki
              · go_wp2_with fail
                refine (number_RB HRB1.out (by simp)).mono ?_
                rintro e wy ⟨rfl, hr, ho⟩
                rw [btw_bad] at hr ⊢
                have HR2 := Lib.hid hr
                clear hr ho
                go_wp2_with fail
                refine (ok_RB HR2.out).mono ?_
                rintro e wz ⟨rfl, rfl⟩
                simp only [Option.isSome_none]
                go_wp2_with fail
                refine (left_RB HR2.out).mono ?_
                rintro e wz ⟨rfl, rfl⟩
                simp only [Option.getD_none, List.length_nil]
                go_wp2_with fail
                refine (end_RB HR2.out).mono ?_
                rintro e wz ⟨rfl, rfl⟩
                simp only [Option.isSome_none, Bool.false_and]
                go_wp2
                go_roundw
                case rel => exact ⟨j + 1, none, none, 0, by omega, by go_num, rfl, rfl, HR2, .inl ⟨_, _, rfl, rfl⟩, by simp⟩
                case measure => simp [intOf]; omega
              · go_wp2_with fail
                refine (count_RB most HRB1.out (by simp)).mono ?_
                rintro e wy ⟨rfl, hr, ho⟩
                rw [btw_bad] at hr ⊢
                have HR2 := Lib.hid hr
                clear hr ho
                go_wp2_with fail
                refine (ok_RB HR2.out).mono ?_
                rintro e wz ⟨rfl, rfl⟩
                simp only [Option.isSome_none]
                go_wp2_with fail
                refine (left_RB HR2.out).mono ?_
                rintro e wz ⟨rfl, rfl⟩
                simp only [Option.getD_none, List.length_nil]
                go_wp2_with fail
                refine (end_RB HR2.out).mono ?_
                rintro e wz ⟨rfl, rfl⟩
                simp only [Option.isSome_none, Bool.false_and]
                go_wp2
                go_roundw
                case rel => exact ⟨j + 1, none, none, 0, by omega, by go_num, rfl, rfl, HR2, .inl ⟨_, _, rfl, rfl⟩, by simp⟩
                case measure => simp [intOf]; omega
              · go_wp2_with fail
                refine (text_RB HRB1.out (by simp)).mono ?_
                rintro e wy ⟨rfl, hr, ho⟩
                rw [rtext_none] at hr ⊢
                have HR2 := Lib.hid hr
                clear hr ho

                simp only [hbs]
                go_wp2_with fail
                refine (ok_RB HR2.out).mono ?_
                rintro e wz ⟨rfl, rfl⟩
                simp only [Option.isSome_none]
                go_wp2_with fail
                refine (left_RB HR2.out).mono ?_
                rintro e wz ⟨rfl, rfl⟩
                simp only [Option.getD_none, List.length_nil]
                go_wp2_with fail
                refine (end_RB HR2.out).mono ?_
                rintro e wz ⟨rfl, rfl⟩
                simp only [Option.isSome_none, Bool.false_and]
                go_wp2
                go_roundw
                case rel => exact ⟨j + 1, none, none, 0, by omega, by go_num, rfl, rfl, HR2, .inl ⟨_, _, rfl, rfl⟩, by simp⟩
                case measure => simp [intOf]; omega
              · go_wp2_with fail
                refine (flag_RB HRB1.out (by simp)).mono ?_
                rintro e wy ⟨rfl, hr, ho⟩
                rw [btw_bad] at hr ⊢
                have HR2 := Lib.hid hr
                clear hr ho
                go_wp2_with fail
                refine (ok_RB HR2.out).mono ?_
                rintro e wz ⟨rfl, rfl⟩
                simp only [Option.isSome_none]
                go_wp2_with fail
                refine (left_RB HR2.out).mono ?_
                rintro e wz ⟨rfl, rfl⟩
                simp only [Option.getD_none, List.length_nil]
                go_wp2_with fail
                refine (end_RB HR2.out).mono ?_
                rintro e wz ⟨rfl, rfl⟩
                simp only [Option.isSome_none, Bool.false_and]
                go_wp2
                go_roundw
                case rel => exact ⟨j + 1, none, none, 0, by omega, by go_num, rfl, rfl, HR2, .inl ⟨_, _, rfl, rfl⟩, by simp⟩
                case measure => simp [intOf]; omega
            | some l =>
              simp only [Option.getD_some, Option.isNone_some] at hsl HBC HBW ⊢
              have hbs : bstr [] = ⟨#[]⟩ := rfl
              rcases hdec : Wm.dec l with _ | ⟨n, k⟩
              · have hdv := dv_none hdec
                have hbt : ∀ lo hi, btw lo hi (some l) = (0, none) := fun lo hi => by simp only [btw, hdec]
                have hgt : gtx l = ([], 0) := by simp [gtx, hdv]
                have hrt : rtext (some l) = ([], none) := by rcases gtx_rtext l with ⟨_, _, h⟩ | ⟨h, _⟩; exact h; rw [hgt] at h; simp at h
                have HDV := Lib.hid hdv; have HBT := Lib.hid hbt; have HGT := Lib.hid hgt; have HRT := Lib.hid hrt
                clear hdv hbt hgt hrt hdec
                rcases hk4 with hki | hki | hki | hki
                · go_wp2_with fail
                  refine (ref_get _ l _ HBW.out (by omega)).mono ?_
                  rintro e wv ⟨rfl, rfl⟩
                  rw [HDV.out]
                  go_wp2_with fail
                  refine (number_RB HRB1.out (by simp; omega)).mono ?_
                  rintro e wy ⟨rfl, hr, ho⟩
                  rw [HBT.out] at hr ⊢
                  have HR2 := Lib.hid hr
                  clear hr ho
                  go_wp2_with fail
                  refine (ok_RB HR2.out).mono ?_
                  rintro e wz ⟨rfl, rfl⟩
                  simp only [Option.isSome_none]
                  go_wp2_with fail
                  refine (left_RB HR2.out).mono ?_
                  rintro e wz ⟨rfl, rfl⟩
                  simp only [Option.getD_none, List.length_nil]
                  go_wp2_with fail
                  refine (end_RB HR2.out).mono ?_
                  rintro e wz ⟨rfl, rfl⟩
                  simp only [Option.isSome_none, Bool.false_and]
                  go_wp2
                  go_roundw
                  case rel => exact ⟨j + 1, none, none, 0, by omega, by go_num, rfl, rfl, HR2, .inl ⟨_, _, rfl, rfl⟩, by simp⟩
                  case measure => simp [intOf]; omega
                · go_wp2_with fail
                  refine (ref_get _ l _ HBW.out (by omega)).mono ?_
                  rintro e wv ⟨rfl, rfl⟩
                  rw [HDV.out]
                  go_wp2_with fail
                  refine (count_RB most HRB1.out (by simp; omega)).mono ?_
                  rintro e wy ⟨rfl, hr, ho⟩
                  rw [HBT.out] at hr ⊢
                  have HR2 := Lib.hid hr
                  clear hr ho
                  go_wp2_with fail
                  refine (ok_RB HR2.out).mono ?_
                  rintro e wz ⟨rfl, rfl⟩
                  simp only [Option.isSome_none]
                  go_wp2_with fail
                  refine (left_RB HR2.out).mono ?_
                  rintro e wz ⟨rfl, rfl⟩
                  simp only [Option.getD_none, List.length_nil]
                  go_wp2_with fail
                  refine (end_RB HR2.out).mono ?_
                  rintro e wz ⟨rfl, rfl⟩
                  simp only [Option.isSome_none, Bool.false_and]
                  go_wp2
                  go_roundw
                  case rel => exact ⟨j + 1, none, none, 0, by omega, by go_num, rfl, rfl, HR2, .inl ⟨_, _, rfl, rfl⟩, by simp⟩
                  case measure => simp [intOf]; omega
                · go_wp2_with fail
                  refine (ref_get _ l _ HBW.out (by omega)).mono ?_
                  rintro e wv ⟨rfl, rfl⟩
                  rw [HDV.out]
                  go_wp2_with fail
                  refine (ref_gettext _ l _ HBW.out (by omega)).mono ?_
                  rintro e wv ⟨rfl, rfl⟩
                  rw [HGT.out]
                  simp only [hbs]
                  go_wp2_with fail
                  refine (text_RB HRB1.out (by simp; omega)).mono ?_
                  rintro e wy ⟨rfl, hr, ho⟩
                  rw [HRT.out] at hr ⊢
                  have HR2 := Lib.hid hr
                  clear hr ho
                  simp only [hbs]
                  go_wp2_with fail
                  refine (ok_RB HR2.out).mono ?_
                  rintro e wz ⟨rfl, rfl⟩
                  simp only [Option.isSome_none]
                  go_wp2_with fail
                  refine (left_RB HR2.out).mono ?_
                  rintro e wz ⟨rfl, rfl⟩
                  simp only [Option.getD_none, List.length_nil]
                  go_wp2_with fail
                  refine (end_RB HR2.out).mono ?_
                  rintro e wz ⟨rfl, rfl⟩
                  simp only [Option.isSome_none, Bool.false_and]
                  go_wp2
                  go_roundw
                  case rel => exact ⟨j + 1, none, none, 0, by omega, by go_num, rfl, rfl, HR2, .inl ⟨_, _, rfl, rfl⟩, by simp⟩
                  case measure => simp [intOf]; omega
                · go_wp2_with fail
                  refine (ref_get _ l _ HBW.out (by omega)).mono ?_
                  rintro e wv ⟨rfl, rfl⟩
                  rw [HDV.out]
                  go_wp2_with fail
                  refine (flag_RB HRB1.out (by simp; omega)).mono ?_
                  rintro e wy ⟨rfl, hr, ho⟩
                  rw [HBT.out] at hr ⊢
                  have HR2 := Lib.hid hr
                  clear hr ho
                  go_wp2_with fail
                  refine (ok_RB HR2.out).mono ?_
                  rintro e wz ⟨rfl, rfl⟩
                  simp only [Option.isSome_none]
                  go_wp2_with fail
                  refine (left_RB HR2.out).mono ?_
                  rintro e wz ⟨rfl, rfl⟩
                  simp only [Option.getD_none, List.length_nil]
                  go_wp2_with fail
                  refine (end_RB HR2.out).mono ?_
                  rintro e wz ⟨rfl, rfl⟩
                  simp only [Option.isSome_none, Bool.false_and]
                  go_wp2
                  go_roundw
                  case rel => exact ⟨j + 1, none, none, 0, by omega, by go_num, rfl, rfl, HR2, .inl ⟨_, _, rfl, rfl⟩, by simp⟩
                  case measure => simp [intOf]; omega
              · obtain ⟨hin, hk1, hk9, hkl⟩ := Wm.dec_some hdec
                unfold Wm.inR at hin
                have hdv := dv_some hdec
                have hbt : ∀ lo hi, btw lo hi (some l) = if n < lo ∨ hi < n then (0, none) else (n, some (l.drop k)) := fun lo hi => by simp only [btw, hdec]
                have hkp : decide ((0 : Int) < (k : Int)) = true := by simp; omega
                have hkp2 : decide (0 < k) = true := by simp; omega
                have HDV := Lib.hid hdv; have HBT := Lib.hid hbt
                clear hdv hbt hdec
                rcases hk4 with hki | hki | hki | hki
                · have hb : Hid (btw (-9223372036854775808) 9223372036854775807 (some l) = (n, some (l.drop k))) := by show _ = _; rw [HBT.out, if_neg (by omega)]
                  have hnn : (n != n) = false := by simp
                  go_wp2_with fail
                  refine (ref_get _ l _ HBW.out (by omega)).mono ?_
                  rintro e wv ⟨rfl, rfl⟩
                  rw [HDV.out]
                  go_wp2_with fail
                  refine (number_RB HRB1.out (by simp; omega)).mono ?_
                  rintro e wy ⟨rfl, hr, ho⟩
                  rw [hb.out] at hr ⊢
                  have HR2 := Lib.hid hr
                  clear hr ho
                  have hkl2 : k ≤ l.length := hkl
                  obtain ⟨a3, c3, b3, d3, hsv3, hbyt3, hrun3⟩ := HBC.out.from_ (k) hkl2
                  simp only [Value.slice.injEq, true_and] at hsv3
                  obtain ⟨rfl, rfl⟩ := hsv3
                  obtain ⟨eb, heb1, heb2⟩ : ∃ eb : Bool, (l.drop (k)).isEmpty = eb ∧ (((l.length - (k) : Nat) : Int) == 0) = eb := ⟨_, rfl, drop_empty l _⟩
                  have HBY3 := Lib.hid hbyt3
                  clear hbyt3
                  go_wp2_with fail
                  refine (ok_RB HR2.out).mono ?_
                  rintro e wz ⟨rfl, rfl⟩
                  simp only [Option.isSome_some]
                  go_wp2_with fail
                  refine (left_RB HR2.out).mono ?_
                  rintro e wz ⟨rfl, rfl⟩
                  simp only [Option.getD_some, List.length_drop]
                  go_wp2_with fail
                  refine (end_RB HR2.out).mono ?_
                  rintro e wz ⟨rfl, rfl⟩
                  simp only [Option.isSome_some, Option.getD_some, Bool.true_and, heb1]
                  go_wp2
                  go_roundw
                  case rel => exact ⟨j + 1, some (l.drop (k)), b3, d3, by omega, by go_num, rfl, by simp, HR2, by simpa using HBY3, by simp; omega⟩
                  case measure => simp [intOf]; omega
                · by_cases hq : n < 0 ∨ most < n
                  · have hb : Hid (btw 0 most (some l) = (0, none)) := by show _ = _; rw [HBT.out, if_pos hq]
                    have hqq : (decide (0 ≤ n) = false) ∨ (decide (0 ≤ n) = true ∧ decide (n ≤ most) = false) := by
                      by_cases h : 0 ≤ n
                      · right; exact ⟨by simpa using h, by simp; omega⟩
                      · left; simpa using h
                    clear hq
                    rcases hqq with q1 | ⟨q1, q2⟩
                    all_goals
                      go_wp2_with fail
                      refine (ref_get _ l _ HBW.out (by omega)).mono ?_
                      rintro e wv ⟨rfl, rfl⟩
                      rw [HDV.out]
                      go_wp2_with fail
                      refine (count_RB most HRB1.out (by simp; omega)).mono ?_
                      rintro e wy ⟨rfl, hr, ho⟩
                      rw [hb.out] at hr ⊢
                      have HR2 := Lib.hid hr
                      clear hr ho
                      go_wp2_with fail
                      refine (ok_RB HR2.out).mono ?_
                      rintro e wz ⟨rfl, rfl⟩
                      simp only [Option.isSome_none]
                      go_wp2_with fail
                      refine (left_RB HR2.out).mono ?_
                      rintro e wz ⟨rfl, rfl⟩
                      simp only [Option.getD_none, List.length_nil]
                      go_wp2_with fail
                      refine (end_RB HR2.out).mono ?_
                      rintro e wz ⟨rfl, rfl⟩
                      simp only [Option.isSome_none, Bool.false_and]
                      go_wp2
                      go_roundw
                      case rel => exact ⟨j + 1, none, none, 0, by omega, by go_num, rfl, rfl, HR2, .inl ⟨_, _, rfl, rfl⟩, by simp⟩
                      case measure => simp [intOf]; omega
                  · have hb : Hid (btw 0 most (some l) = (n, some (l.drop k))) := by show _ = _; rw [HBT.out, if_neg hq]
                    have q1 : decide (0 ≤ n) = true := by simp; omega
                    have q2 : decide (n ≤ most) = true := by simp; omega
                    have hnn : (n != n) = false := by simp
                    clear hq
                    go_wp2_with fail
                    refine (ref_get _ l _ HBW.out (by omega)).mono ?_
                    rintro e wv ⟨rfl, rfl⟩
                    rw [HDV.out]
                    go_wp2_with fail
                    refine (count_RB most HRB1.out (by simp; omega)).mono ?_
                    rintro e wy ⟨rfl, hr, ho⟩
                    rw [hb.out] at hr ⊢
                    have HR2 := Lib.hid hr
                    clear hr ho
                    have hkl2 : k ≤ l.length := hkl
                    obtain ⟨a3, c3, b3, d3, hsv3, hbyt3, hrun3⟩ := HBC.out.from_ (k) hkl2
                    simp only [Value.slice.injEq, true_and] at hsv3
                    obtain ⟨rfl, rfl⟩ := hsv3
                    obtain ⟨eb, heb1, heb2⟩ : ∃ eb : Bool, (l.drop (k)).isEmpty = eb ∧ (((l.length - (k) : Nat) : Int) == 0) = eb := ⟨_, rfl, drop_empty l _⟩
                    have HBY3 := Lib.hid hbyt3
                    clear hbyt3
                    go_wp2_with fail
                    refine (ok_RB HR2.out).mono ?_
                    rintro e wz ⟨rfl, rfl⟩
                    simp only [Option.isSome_some]
                    go_wp2_with fail
                    refine (left_RB HR2.out).mono ?_
                    rintro e wz ⟨rfl, rfl⟩
                    simp only [Option.getD_some, List.length_drop]
                    go_wp2_with fail
                    refine (end_RB HR2.out).mono ?_
                    rintro e wz ⟨rfl, rfl⟩
                    simp only [Option.isSome_some, Option.getD_some, Bool.true_and, heb1]
                    go_wp2
                    go_roundw
                    case rel => exact ⟨j + 1, some (l.drop (k)), b3, d3, by omega, by go_num, rfl, by simp, HR2, by simpa using HBY3, by simp; omega⟩
                    case measure => simp [intOf]; omega
                · rcases gtx_rtext l with ⟨hg2, hg1, hrt⟩ | ⟨hg2, hg1, hrt⟩
                  · have hg : gtx l = ([], 0) := Prod.ext hg1 hg2
                    have HG := Lib.hid hg; have HRT := Lib.hid hrt
                    clear hg hg1 hg2 hrt
                    go_wp2_with fail
                    refine (ref_get _ l _ HBW.out (by omega)).mono ?_
                    rintro e wv ⟨rfl, rfl⟩
                    rw [HDV.out]
                    go_wp2_with fail
                    refine (ref_gettext _ l _ HBW.out (by omega)).mono ?_
                    rintro e wv ⟨rfl, rfl⟩
                    rw [HG.out]
                    simp only [hbs]
                    go_wp2_with fail
                    refine (text_RB HRB1.out (by simp; omega)).mono ?_
                    rintro e wy ⟨rfl, hr, ho⟩
                    rw [HRT.out] at hr ⊢
                    have HR2 := Lib.hid hr
                    clear hr ho
                    simp only [hbs]
                    go_wp2_with fail
                    refine (ok_RB HR2.out).mono ?_
                    rintro e wz ⟨rfl, rfl⟩
                    simp only [Option.isSome_none]
                    go_wp2_with fail
                    refine (left_RB HR2.out).mono ?_
                    rintro e wz ⟨rfl, rfl⟩
                    simp only [Option.getD_none, List.length_nil]
                    go_wp2_with fail
                    refine (end_RB HR2.out).mono ?_
                    rintro e wz ⟨rfl, rfl⟩
                    simp only [Option.isSome_none, Bool.false_and]
                    go_wp2
                    go_roundw
                    case rel => exact ⟨j + 1, none, none, 0, by omega, by go_num, rfl, rfl, HR2, .inl ⟨_, _, rfl, rfl⟩, by simp⟩
                    case measure => simp [intOf]; omega
                  · have HRT := Lib.hid hrt
                    have HG1 := Lib.hid hg1
                    clear hrt hg1
                    generalize hgg : gtx l = gg at *
                    obtain ⟨gs, gk⟩ := gg
                    have HGG := Lib.hid hgg
                    clear hgg
                    simp only at *
                    have hgp : decide ((0 : Int) < (gk : Int)) = true := by simp; omega
                    have hgp2 : decide (0 < gk) = true := by simp; omega
                    go_wp2_with fail
                    refine (ref_get _ l _ HBW.out (by omega)).mono ?_
                    rintro e wv ⟨rfl, rfl⟩
                    rw [HDV.out]
                    go_wp2_with fail
                    refine (ref_gettext _ l _ HBW.out (by omega)).mono ?_
                    rintro e wv ⟨rfl, rfl⟩
                    rw [HGG.out]
                    go_wp2_with fail
                    refine (text_RB HRB1.out (by simp; omega)).mono ?_
                    rintro e wy ⟨rfl, hr, ho⟩
                    rw [HRT.out] at hr ⊢
                    have HR2 := Lib.hid hr
                    clear hr ho
                    have hkl2 : gk ≤ l.length := HG1.out
                    obtain ⟨a3, c3, b3, d3, hsv3, hbyt3, hrun3⟩ := HBC.out.from_ (gk) hkl2
                    simp only [Value.slice.injEq, true_and] at hsv3
                    obtain ⟨rfl, rfl⟩ := hsv3
                    obtain ⟨eb, heb1, heb2⟩ : ∃ eb : Bool, (l.drop (gk)).isEmpty = eb ∧ (((l.length - (gk) : Nat) : Int) == 0) = eb := ⟨_, rfl, drop_empty l _⟩
                    have HBY3 := Lib.hid hbyt3
                    clear hbyt3
                    go_wp2_with fail
                    refine (ok_RB HR2.out).mono ?_
                    rintro e wz ⟨rfl, rfl⟩
                    simp only [Option.isSome_some]
                    go_wp2_with fail
                    refine (left_RB HR2.out).mono ?_
                    rintro e wz ⟨rfl, rfl⟩
                    simp only [Option.getD_some, List.length_drop]
                    go_wp2_with fail
                    refine (end_RB HR2.out).mono ?_
                    rintro e wz ⟨rfl, rfl⟩
                    simp only [Option.isSome_some, Option.getD_some, Bool.true_and, heb1]
                    go_wp2
                    go_roundw
                    case rel => exact ⟨j + 1, some (l.drop (gk)), b3, d3, by omega, by go_num, rfl, by simp, HR2, by simpa using HBY3, by simp; omega⟩
                    case measure => simp [intOf]; omega
                · by_cases hq : n < 0 ∨ 1 < n
                  · have hb : Hid (btw 0 1 (some l) = (0, none)) := by show _ = _; rw [HBT.out, if_pos hq]
                    have q1 : (n == 0) = false := by simp; omega
                    have q2 : (n == 1) = false := by simp; omega
                    clear hq
                    go_wp2_with fail
                    refine (ref_get _ l _ HBW.out (by omega)).mono ?_
                    rintro e wv ⟨rfl, rfl⟩
                    rw [HDV.out]
                    go_wp2_with fail
                    refine (flag_RB HRB1.out (by simp; omega)).mono ?_
                    rintro e wy ⟨rfl, hr, ho⟩
                    rw [hb.out] at hr ⊢
                    have HR2 := Lib.hid hr
                    clear hr ho
                    go_wp2_with fail
                    refine (ok_RB HR2.out).mono ?_
                    rintro e wz ⟨rfl, rfl⟩
                    simp only [Option.isSome_none]
                    go_wp2_with fail
                    refine (left_RB HR2.out).mono ?_
                    rintro e wz ⟨rfl, rfl⟩
                    simp only [Option.getD_none, List.length_nil]
                    go_wp2_with fail
                    refine (end_RB HR2.out).mono ?_
                    rintro e wz ⟨rfl, rfl⟩
                    simp only [Option.isSome_none, Bool.false_and]
                    go_wp2
                    go_roundw
                    case rel => exact ⟨j + 1, none, none, 0, by omega, by go_num, rfl, rfl, HR2, .inl ⟨_, _, rfl, rfl⟩, by simp⟩
                    case measure => simp [intOf]; omega
                  · have hb : Hid (btw 0 1 (some l) = (n, some (l.drop k))) := by show _ = _; rw [HBT.out, if_neg hq]
                    have hqq : (n = 0) ∨ (n = 1) := by omega
                    clear hq
                    rcases hqq with rfl | rfl
                    all_goals
                      go_wp2_with fail
                      refine (ref_get _ l _ HBW.out (by omega)).mono ?_
                      rintro e wv ⟨rfl, rfl⟩
                      rw [HDV.out]
                      go_wp2_with fail
                      refine (flag_RB HRB1.out (by simp; omega)).mono ?_
                      rintro e wy ⟨rfl, hr, ho⟩
                      rw [hb.out] at hr ⊢
                      have HR2 := Lib.hid hr
                      clear hr ho
                      have hkl2 : k ≤ l.length := hkl
                      obtain ⟨a3, c3, b3, d3, hsv3, hbyt3, hrun3⟩ := HBC.out.from_ (k) hkl2
                      simp only [Value.slice.injEq, true_and] at hsv3
                      obtain ⟨rfl, rfl⟩ := hsv3
                      obtain ⟨eb, heb1, heb2⟩ : ∃ eb : Bool, (l.drop (k)).isEmpty = eb ∧ (((l.length - (k) : Nat) : Int) == 0) = eb := ⟨_, rfl, drop_empty l _⟩
                      have HBY3 := Lib.hid hbyt3
                      clear hbyt3
                      go_wp2_with fail
                      refine (ok_RB HR2.out).mono ?_
                      rintro e wz ⟨rfl, rfl⟩
                      simp only [Option.isSome_some]
                      go_wp2_with fail
                      refine (left_RB HR2.out).mono ?_
                      rintro e wz ⟨rfl, rfl⟩
                      simp only [Option.getD_some, List.length_drop]
                      go_wp2_with fail
                      refine (end_RB HR2.out).mono ?_
                      rintro e wz ⟨rfl, rfl⟩
                      simp only [Option.isSome_some, Option.getD_some, Bool.true_and, heb1]
                      go_wp2
                      go_roundw
                      case rel => exact ⟨j + 1, some (l.drop (k)), b3, d3, by omega, by go_num, rfl, by simp, HR2, by simpa using HBY3, by simp; omega⟩
                      case measure => simp [intOf]; omega
          · obtain rfl : j = asks.length := by omega
            clear hlt hj
            go_wp2_with fail
            refine (number_rnil _).mono ?_
            rintro e wz ⟨rfl, rfl⟩
            go_wp2_with fail
            refine (count_rnil _ _).mono ?_
            rintro e wz ⟨rfl, rfl⟩
            go_wp2_with fail
            refine (text_rnil _).mono ?_
            rintro e wz ⟨rfl, rfl⟩
            go_wp2_with fail
            refine (flag_rnil _).mono ?_
            rintro e wz ⟨rfl, rfl⟩
            go_wp2_with fail
            refine (left_nil _).mono ?_
            rintro e wz ⟨rfl, rfl⟩
            go_wp2_with fail
            refine (ok_nil _).mono ?_
            rintro e wz ⟨rfl, rfl⟩
            go_wp2_with fail
            refine (end_nil _).mono ?_
            rintro e wz ⟨rfl, rfl⟩
            go_wp2
            go_ret
            exact ⟨rfl, HRB1.out.bel⟩

set_option maxRecDepth 100000 in
theorem lifted (os : Os) (started : os.Started) (H : Type) (enc : TypeId × Value → H) :
    ReturnsInHanded {} Try.checked os 4 .any (Rows.wireReadsSpec.pre6 enc Try.prog Try.f4 Rows.wireReadsRow.domain false) (Rows.wireReadsSpec.post enc Try.prog Try.f4 false true false false) := by
  refine returnsInHanded_of_change (C := Try.checked) own started (by kernel_rfl) Try.func4
    (ChangeSpec.witness6 (enc := enc) (C := Try.checked) false ⟨#[], #[.slice none 0 0, .slice none 0 0, .int .i64 0], []⟩ 8 (by kernel_rfl) (by kernel_rfl) (by kernel_rfl) (by kernel_rfl)) ?_
  intro W base args ds gs before hval0 hW hcnd _
  have hval : ∀ (j : Nat) t v, Try.f4.params[j]? = some t → args[j]? = some v → Value.okWide Try.prog W .any base t v := hval0
  have hW' := hW
  obtain ⟨p, q, hA0, hV, rfl, hfz, hnd⟩ := hW
  have hA : DataW.TrodAll enc Try.prog W 0 (fun _ => true) true Try.f4.params.toList args.toList ds p := hA0
  rw [Try.params4] at hA hval
  obtain ⟨v0, vs0, d0, ds0, p0, q0, hargs, rfl, rfl, h0, r0⟩ := trodAll_cons hA
  obtain ⟨v1, vs1, d1, ds1, p1, q1, rfl, rfl, rfl, h1, r1⟩ := trodAll_cons r0
  obtain ⟨v2, vs2, d2, ds2, p2, q2, rfl, rfl, rfl, h2, r2⟩ := trodAll_cons r1
  obtain ⟨rfl, rfl, rfl⟩ := trodAll_nil r2
  obtain rfl : args = #[v0, v1, v2] := by cases args; simp_all
  obtain ⟨rfl, rfl⟩ := trodVars_none hV
  have k0 := h0
  have k1 := h1
  have lt0 : ∀ x ∈ p0, x.block < W.heap.size := by obtain ⟨m, hm⟩ := k0; exact DataW.trod_lt m _ _ _ hm
  have lt1 : ∀ x ∈ p1, x.block < W.heap.size := by obtain ⟨m, hm⟩ := k1; exact DataW.trod_lt m _ _ _ hm
  obtain ⟨a0, len0, cap0, rfl⟩ := okWide_slice Try.underlying24 (hval 0 24 v0 rfl rfl)
  obtain ⟨a1, len1, cap1, rfl⟩ := okWide_slice Try.underlying24 (hval 1 24 v1 rfl rfl)
  obtain ⟨a2, rfl, rfl, rfl, w2⟩ := open_int Try.underlying3 (hval 2 3 v2 rfl rfl) h2
  obtain ⟨l0, hl0, hm0, hr0⟩ : ∃ raw : List UInt8, raw.length = len0 ∧ len0 ≤ maxLen ∧ BytC (.slice a0 len0 cap0) raw W := by
    obtain ⟨fuel, hf⟩ := h0
    rcases open_ints Try.underlying24 Try.underlying5 (by kernel_rfl) hf with ⟨hcs, _⟩ | ⟨x, l, c, zs, hcs, _, hl, hm, hz, _, hcell, hwz⟩
    · simp [Value.cells] at hcs
      obtain ⟨rfl, rfl, rfl⟩ := hcs
      exact ⟨[], rfl, Nat.zero_le _, .inl ⟨_, _, rfl, rfl⟩⟩
    · simp [Value.cells] at hcs
      obtain ⟨rfl, rfl, rfl⟩ := hcs
      have hzl : zs.length = cap0 := by simpa using hz
      exact bytC_open x len0 cap0 zs hl hm hzl hcell hwz
  subst hl0
  obtain ⟨l1, hl1, hm1, hr1⟩ : ∃ raw : List UInt8, raw.length = len1 ∧ len1 ≤ maxLen ∧ BytC (.slice a1 len1 cap1) raw W := by
    obtain ⟨fuel, hf⟩ := h1
    rcases open_ints Try.underlying24 Try.underlying5 (by kernel_rfl) hf with ⟨hcs, _⟩ | ⟨x, l, c, zs, hcs, _, hl, hm, hz, _, hcell, hwz⟩
    · simp [Value.cells] at hcs
      obtain ⟨rfl, rfl, rfl⟩ := hcs
      exact ⟨[], rfl, Nat.zero_le _, .inl ⟨_, _, rfl, rfl⟩⟩
    · simp [Value.cells] at hcs
      obtain ⟨rfl, rfl, rfl⟩ := hcs
      have hzl : zs.length = cap1 := by simpa using hz
      exact bytC_open x len1 cap1 zs hl hm hzl hcell hwz
  subst hl1
  clear hA0 hval0
  refine (walk _ _ l0 l1 a2 W hm0 hm1 hr0 hr1).mono fun e W' ⟨he, bel⟩ => ?_
  subst he
  exact ⟨_, rfl, _, _, _, [], _, [], hW', trodAll_mk1 (shut_bool Try.underlying4 _), (trodAll_cons_mk (Below.trod laidOut (by kernel_rfl) (of_decide_eq_true (by kernel_rfl)) k0 bel lt0) (trodAll_cons_mk (Below.trod laidOut (by kernel_rfl) (of_decide_eq_true (by kernel_rfl)) k1 bel lt1) (trodAll_cons_mk (shut_int Try.underlying3 w2) trodAll_mk0))), rfl, bel.frame _, fun h => by cases h⟩

theorem over : Rows.wireReadsRow.holds Try.pinned (OpenSpec.ofChange Rows.wireReadsSpec) :=
  OpenClaim.holds_of_wide 4 Try.f4 rfl rfl rfl rfl rfl rfl rfl ⟨rfl, rfl, rfl, rfl, rfl⟩ rfl rfl rfl rfl rfl (by kernel_rfl) Try.func4 (by kernel_rfl)
    (of_decide_eq_true (by kernel_rfl)) (by unfold Func.isWrapper; first | (rw [if_pos (by decide +kernel)]; kernel_rfl) | (rw [if_neg (by decide +kernel)]; exact ⟨rfl, rfl⟩))
    (fun os started H enc _ => lifted os started H enc)

theorem proved : Rows.WireReadsSaid :=
  over
end Go.Proofs.Ytgpeombkdompdaa.wireReads
