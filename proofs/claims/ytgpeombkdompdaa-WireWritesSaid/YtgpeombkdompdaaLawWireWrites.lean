/- WireWrites returns true for all numbers, strings and bytes: the encodings of numbers, flags, strings and bytes are those that the document specifies. No condition. -/
import Derived.Test.YtgpeombkdompdaaWireRef
import Derived.ProofKit
import Derived.OpenShut
import Derived.ShutString
import Derived.ChangeOld
import Derived.SliceStrings
import Derived.Below
namespace Go.Proofs.Ytgpeombkdompdaa.wireWrites
open Go.ChangeShapes Go.WideShapes Go.ChangeAt Go.RowKit
set_option linter.unusedVariables false

theorem own : ownKnob Try.prog.godebug = none := by kernel_rfl
theorem laidOut : laidOutB Try.prog = true := by kernel_rfl

/-- what a number and its flag are written as -/
def wn (n : Int) : List UInt8 := Wm.enc n ++ Wm.enc (if n.tmod 2 == 0 then 1 else 0)
def wns (l : List Int) : List UInt8 := l.flatMap wn
theorem wns_snoc (l : List Int) (n : Int) : wns (l ++ [n]) = wns l ++ wn n := by simp [wns]
theorem enc1 : Wm.enc 1 = [1, 1] := by decide +kernel
theorem enc0 : Wm.enc 0 = [0] := by decide +kernel
theorem wns_le (l : List Int) (h : ∀ n ∈ l, Wm.inR n) : (wns l).length ≤ 11 * l.length := by
  induction l with
  | nil => simp [wns]
  | cons n t ih =>
    have := ih (fun m hm => h m (by simp [hm]))
    have h2 := Wm.enc_length_le n (h n (by simp))
    have h3 : (Wm.enc (if n.tmod 2 == 0 then 1 else 0)).length ≤ 2 := by split; rw [enc1]; decide; rw [enc0]; decide
    have e : wns (n :: t) = wn n ++ wns t := by simp [wns]
    rw [e]; simp only [wn, List.length_append, List.length_cons]; omega

set_option maxHeartbeats 4000000 in
set_option maxRecDepth 100000 in
theorem walk (a0 a1 : Option Addr) (len0 cap0 len1 cap1 : Nat) (ns : List Int) (ss : List ByteArray) (rv : Value) (raw : List UInt8) (w : World) (hl0 : ns.length = len0) (hl1 : ss.length = len1) (hm0 : len0 ≤ maxLen) (hm1 : len1 ≤ maxLen) (hm2 : raw.length ≤ maxLen)
    (hn : ∀ n ∈ ns, Wm.inR n) (h0 : RowAt w a0 len0 (fun j => .int .i64 (ns.getD j 0))) (h1 : RowAt w a1 len1 (fun j => .string (ss.getD j ByteArray.empty))) (h2 : BytC rv raw w) :
    Calls Try.prog 3 #[.slice a0 len0 cap0, .slice a1 len1 cap1, rv] w fun e w' => e = .returned (.bool true) ∧ Below w.heap.size w w' := by
  unfold maxLen at hm0 hm1 hm2
  obtain ⟨ra, rc, rfl⟩ := h2.form
  have H0 := Lib.hid h0
  have H1 := Lib.hid h1
  have H2 := Lib.hid h2
  have HL0 := Lib.hid hl0
  have HL1 := Lib.hid hl1
  have HN := Lib.hid hn
  clear h0 h1 h2 hl0 hl1 hn
  by_cases hbig : 100 < len0 ∨ 100 < len1 ∨ 500 < raw.length
  · have hd : (decide ((100 : Int) < (len0 : Int)) = true) ∨ (decide ((100 : Int) < (len0 : Int)) = false ∧ decide ((100 : Int) < (len1 : Int)) = true) ∨ (decide ((100 : Int) < (len0 : Int)) = false ∧ decide ((100 : Int) < (len1 : Int)) = false ∧ decide ((500 : Int) < (raw.length : Int)) = true) := by
      by_cases h : 100 < len0
      · left; simp; omega
      · right
        by_cases h' : 100 < len1
        · left; exact ⟨by simp; omega, by simp; omega⟩
        · right; exact ⟨by simp; omega, by simp; omega, by simp; omega⟩
    rcases hd with hd | ⟨hd, hd2⟩ | ⟨hd, hd2, hd3⟩
    all_goals
      go_enter Try.func3, Try.ntmps3
      go_wp2_with fail
      refine (first_true _).mono ?_
      rintro e wa ⟨rfl, hb⟩
      have HB := Lib.hid hb
      clear hb
      go_wp2
      go_ret
      exact ⟨rfl, HB.out⟩
  · obtain ⟨i0, hi0, hz0, hz1, hz2⟩ := info_parts info5
    have HI0 := Lib.hid hi0; have HZ0 := Lib.hid hz0; have HZ1 := Lib.hid hz1; have HZ2 := Lib.hid hz2
    clear hi0 hz0 hz1 hz2
    have hd : decide ((100 : Int) < (len0 : Int)) = false := by simp; omega
    have hd2 : decide ((100 : Int) < (len1 : Int)) = false := by simp; omega
    have hd3 : decide ((500 : Int) < (raw.length : Int)) = false := by simp; omega
    have b0 : len0 ≤ 100 := by omega
    have b1 : len1 ≤ 100 := by omega
    have b2 : raw.length ≤ 500 := by omega
    clear hbig hm0 hm1 hm2
    have hadd := bstr_append
    have hbsz := bstr_size
    go_enter Try.func3, Try.ntmps3
    go_wp2_with fail
    refine (first_true _).mono ?_
    rintro e wa ⟨rfl, hb⟩
    have HB := Lib.hid hb
    clear hb
    go_wp2_with fail
    go_loopw [8, 37] (fun s i wr => ∃ j : Nat, j ≤ len0 ∧ i = .int .i64 (j : Int) ∧ s = .string (bstr (wns (ns.take j))) ∧ Hid (WrB w.heap.size wa.heap.size (wns (ns.take j)) w wr)) (fun _ i _ => len0 - (intOf i).toNat)
    case atStart => exact ⟨0, Nat.zero_le _, rfl, rfl, WrB.fresh HB.out (Nat.le_refl _)⟩
    case round =>
      obtain ⟨j, hj, rfl, rfl, HW⟩ := hrel
      by_cases hlt : j < len0
      · rcases H0.out with e | ⟨b, off, rfl, hb, hc⟩
        · omega
        · have hcj : wr.cell? ⟨b, off + j, none⟩ = some (.int .i64 (ns.getD j 0)) := (HW.out.bel.cell (p := ⟨b, off + j, none⟩) hb).trans (hc j hlt)
          clear hc
          have hjl : j < ns.length := by rw [HL0.out]; exact hlt
          have hin : Wm.inR (ns.getD j 0) := by refine HN.out _ ?_; simp [List.getD, hjl]
          have hsn : wns (ns.take (j + 1)) = wns (ns.take j) ++ wn (ns.getD j 0) := by
            rw [List.take_succ_eq_append_getElem hjl, wns_snoc]; simp [List.getD, hjl]
          have hlen : (wns (ns.take j)).length ≤ 1100 := by
            have := wns_le (ns.take j) (fun n hn => HN.out n (List.mem_of_mem_take hn))
            have h2 : (ns.take j).length ≤ j := List.length_take_le _ _
            omega
          have HSN := Lib.hid hsn
          clear hsn hjl
          generalize ns.getD j 0 = x at *
          have hel := Wm.enc_length_le x hin
          go_wp2_with fail
          refine (number_B x HW.out (by omega) hin).mono ?_
          rintro e wb ⟨rfl, hw⟩
          have HW2 := Lib.hid hw
          clear hw
          obtain ⟨f, hf⟩ : ∃ f : Bool, (x.tmod 2 == 0) = f := ⟨_, rfl⟩
          have HF := Lib.hid hf
          go_wp2_with fail
          refine (flag_B f HW2.out (by simp only [List.length_append]; omega)).mono ?_
          rintro e wc ⟨rfl, hw⟩
          have HW3 := Lib.hid hw
          clear hw HW2
          go_wp2_with fail
          refine (ref_number x _ hin).mono ?_
          rintro e wd ⟨v, rfl, ho, hb2⟩
          have hst := (Byt.of_own ho).str
          have HW4 := Lib.hid (HW3.out.below hb2)
          clear ho hb2 HW3
          cases f
          · have HSN2 : Hid (wns (ns.take (j + 1)) = wns (ns.take j) ++ Wm.enc x ++ [0]) := by
              show _ = _; rw [HSN.out, wn, HF.out, ← enc0]; simp
            have hlit : (⟨#[0]⟩ : ByteArray) = bstr [0] := rfl
            go_wp2
            go_roundw
            case rel => exact ⟨j + 1, by omega, by go_num, by rw [HSN2.out]; first | rfl | (rw [hlit]; rfl) | simp, by show WrB _ _ _ _ _; rw [HSN2.out, ← enc0]; exact HW4.out⟩
            case measure => simp [intOf]; omega
          · have HSN2 : Hid (wns (ns.take (j + 1)) = wns (ns.take j) ++ Wm.enc x ++ [1, 1]) := by
              show _ = _; rw [HSN.out, wn, HF.out, ← enc1]; simp
            have hlit : (⟨#[1, 1]⟩ : ByteArray) = bstr [1, 1] := rfl
            go_wp2
            go_roundw
            case rel => exact ⟨j + 1, by omega, by go_num, by rw [HSN2.out]; first | rfl | (rw [hlit]; rfl) | simp, by show WrB _ _ _ _ _; rw [HSN2.out, ← enc1]; exact HW4.out⟩
            case measure => simp [intOf]; omega
      · obtain rfl : j = len0 := by omega
        clear hlt hj
        rw [List.take_of_length_le (by rw [HL0.out]; exact Nat.le_refl _)] at HW ⊢
        have hnl : (wns ns).length ≤ 1100 := by
          have := wns_le ns HN.out
          have := HL0.out
          omega
        generalize hP : wns ns = P at *
        clear hP
        obtain ⟨v, hwr, hvB⟩ := HW.out.ex
        have hsz := HW.out.bel.size
        have HC := Lib.hid (H2.out.keep (HW.out.bel.trans ((Below.refl _ wr).alloc (Nat.le_refl _) (.cells #[] 5) |>.mono hsz)))
        have HWR := Lib.hid hwr
        have HVB := Lib.hid hvB
        have HBE := Lib.hid HW.out.bel
        clear hwr hvB HW
        go_wp2_with (at_builtin; refine wpList_append_src _ rfl (.tmp 62) (.tmp 63) 24 24 rfl wr.heap.size 5 i0 (.int .u8 0) 1 1 Try.underlying24 HI0.out HZ0.out HZ1.out HZ2.out rfl _ 0 [] rfl (World.ownsRow_made wr #[] 0 (Nat.le_refl _) (Nat.zero_le _) rfl) (.slice ra raw.length rc) raw.length (bc raw) rfl HC.out.src ?qa ?qb ?qc ?_)
        case qa => unfold maxLen; omega
        case qb => omega
        case qc => simp
        intro v2 w2 hown hgrow hat
        obtain ⟨g, c2, hv2, hgH⟩ : ∃ g c2, v2 = .slice (some ⟨g, 0, none⟩) raw.length c2 ∧ wr.heap.size ≤ g := by
          rcases hown.2 with ⟨e, _⟩ | ⟨g, cap, cur, e, hg, _⟩
          · rw [e] at hat; simp [Value.ownBlock] at hat
          · exact ⟨g, cap, e, hg⟩
        subst hv2
        have ho2 : Only (fun _ => False) wr w2 := ((Only.refl (fun _ => False) wr).alloc _).grown hgrow (by intro k hk; simp [Value.ownBlock] at hk; omega)
        have hscr := Scr.of_own hown
        have hbyt := Byt.of_own hown
        have HW2 := Lib.hid (HWR.out.keep ho2 id (fun _ _ => id))
        have HB2 := Lib.hid (HBE.out.trans (ho2.belowB (B := w.heap.size) hsz (fun _ _ => id)))
        have HSC := Lib.hid hscr
        have HBY := Lib.hid hbyt
        have hglt : v.ownBlock ≠ some g := by intro e; have := HWR.out.ltv g e; omega
        have HGL := Lib.hid hglt
        have hgw : g < w2.heap.size := hscr.lt
        clear hown hgrow hat ho2 hscr hbyt hglt HWR HC HBE
        go_wp2_with fail
        refine (raw_w wa.heap.size v P raw _ w2 HW2.out HBY.out (by omega) (by omega)).mono ?_
        rintro e w3 ⟨rfl, v3, hw3, hf3, ho3⟩
        have HW3 := Lib.hid hw3
        have hb3 : Below w.heap.size w w3 := HB2.out.trans (ho3.belowB (by have := HB2.out.size; omega) (by rintro k hk (e | e); (have := HB.out.size; omega); (have := HVB.out k e; omega)))
        have HB3 := Lib.hid hb3
        have hgb : wa.heap.size ≠ g := by have := HW2.out.lt; intro e; subst e; exact absurd (HW2.out.blk.symm.trans HSC.out.choose_spec.1) (by simp)
        have HSC3 := Lib.hid (HSC.out.keep ho3 (by rintro (e | e); exact hgb e.symm; exact HGL.out e))
        have hv3g : v3.ownBlock ≠ some g := by
          rcases hf3 with e | ⟨g', e, hg'⟩
          · rw [e]; exact HGL.out
          · rw [e]; simp; omega
        have hv3B : ∀ k, v3.ownBlock = some k → w.heap.size ≤ k := by
          intro k hk
          rcases hf3 with e | ⟨g', e, hg'⟩
          · rw [e] at hk; exact HVB.out k hk
          · rw [e] at hk; simp at hk; have := HB2.out.size; omega
        have HV3G := Lib.hid hv3g
        have HV3B := Lib.hid hv3B
        have HGB := Lib.hid hgb
        have hstr := (H2.out.keep hb3).str
        clear hw3 hb3 hf3 ho3 hv3g hv3B HSC HBY HW2 HB2 HGL HVB hgb
        go_wp2_with fail
        go_loopw [74] (fun i wr => ∃ k : Nat, k ≤ raw.length ∧ i = .int .i64 (k : Int) ∧ Hid (Wr wa.heap.size v3 (P ++ raw) wr ∧ Below w.heap.size w wr ∧ Scr g raw.length wr)) (fun i _ => raw.length - (intOf i).toNat)
        case atStart => exact ⟨0, Nat.zero_le _, rfl, HW3.out, HB3.out, HSC3.out⟩
        case round =>
          obtain ⟨k, hk, rfl, HX⟩ := hrel
          clear HW3 HB3 HSC3 hstr
          by_cases hlt : k < raw.length
          · obtain ⟨z, hcz, hfz⟩ := HX.out.2.2.cell k hlt
            go_wp2
            go_roundw
            case rel => exact ⟨k + 1, by omega, by go_num, HX.out.1.keep ((Only.refl (fun i => i = g) _).setCell (q := ⟨g, k, none⟩) (.inl rfl) _) HGB.out (fun i hi e => HV3G.out (by rw [← e]; exact hi)), HX.out.2.1.setCell (by have := hsz; show w.heap.size ≤ g; omega) _, HX.out.2.2.set k _⟩
            case measure => simp [intOf]; omega
          · obtain rfl : k = raw.length := by omega
            clear hlt hk
            have HWB : Hid (WrB w.heap.size wa.heap.size (P ++ raw) w wr) := ⟨⟨v3, HX.out.1, HV3B.out⟩, HB.out.size, HX.out.2.1, Nat.le_refl _⟩
            clear HX HV3G HV3B HGB
            have hql : (P ++ raw).length ≤ 1600 := by simp only [List.length_append]; omega
            generalize hQ : P ++ raw = Q at *
            clear hQ
            go_wp2_with fail
            go_loopw [8, 86] (fun s i wr => ∃ k : Nat, k ≤ len1 ∧ i = .int .i64 (k : Int) ∧ s = .string (bstr (Q ++ txs (ss.take k))) ∧ Hid (WrB w.heap.size wa.heap.size (Q ++ txs (ss.take k)) w wr) ∧ Hid (∀ s ∈ ss.take k, s.size ≤ 500)) (fun _ i _ => len1 - (intOf i).toNat)
            case atStart => exact ⟨0, Nat.zero_le _, rfl, by simp [txs], by simpa [txs] using HWB, by show ∀ s ∈ ss.take 0, s.size ≤ 500; simp⟩
            case round =>
              obtain ⟨i, hi, rfl, rfl, HW1, HS⟩ := hrel
              clear HWB
              by_cases hlt : i < len1
              · rcases H1.out with e | ⟨b, off, rfl, hb, hc⟩
                · omega
                · have hcj : wr.cell? ⟨b, off + i, none⟩ = some (.string (ss.getD i ByteArray.empty)) := (HW1.out.bel.cell (p := ⟨b, off + i, none⟩) hb).trans (hc i hlt)
                  clear hc
                  have hil : i < ss.length := by rw [HL1.out]; exact hlt
                  have hsn : txs (ss.take (i + 1)) = txs (ss.take i) ++ tx (ss.getD i ByteArray.empty) := by
                    rw [List.take_succ_eq_append_getElem hil, txs_snoc]; simp [List.getD, hil]
                  have hss : ∀ s ∈ ss.take (i + 1), s ∈ ss.take i ∨ s = ss.getD i ByteArray.empty := by
                    intro s hs
                    rw [List.take_succ_eq_append_getElem hil] at hs
                    rcases List.mem_append.1 hs with h | h
                    · exact .inl h
                    · right; simp at h; simp [List.getD, hil, h]
                  have hlen : (Q ++ txs (ss.take i)).length ≤ 60000 := by
                    have := txs_le (ss.take i) 500 (by omega) HS.out
                    have h2 : (ss.take i).length ≤ i := List.length_take_le _ _
                    simp only [List.length_append]; omega
                  have HSN := Lib.hid hsn
                  have HSS := Lib.hid hss
                  clear hsn hss hil
                  generalize ss.getD i ByteArray.empty = x at *
                  by_cases hx : (500 : Int) < (x.size : Int)
                  · have hxd : decide ((500 : Int) < (x.size : Int)) = true := by simpa using hx
                    go_wp2
                    go_ret
                    exact ⟨rfl, HW1.out.bel⟩
                  · have hxd : decide ((500 : Int) < (x.size : Int)) = false := by simpa using hx
                    have hx3 : x.size ≤ 500 := by omega
                    have htx := tx_le x (by omega)
                    clear hx
                    generalize hR : Q ++ txs (ss.take i) = R at *
                    have HR := Lib.hid hR
                    clear hR
                    go_wp2_with fail
                    refine (text_B x HW1.out (by omega) (by omega)).mono ?_
                    rintro e wb ⟨rfl, hw⟩
                    have HW2 := Lib.hid hw
                    clear hw
                    go_wp2_with fail
                    refine (ref_text x _ (by omega)).mono ?_
                    rintro e wd ⟨v, rfl, ho, hb2⟩
                    have hst := (Byt.of_own ho).str
                    have HW4 := Lib.hid (HW2.out.below hb2)
                    clear ho hb2 HW2
                    have hfin : Q ++ txs (ss.take (i + 1)) = R ++ tx x := by rw [HSN.out, ← HR.out]; simp
                    have HFIN := Lib.hid hfin
                    clear hfin
                    go_wp2
                    go_roundw
                    case rel => exact ⟨i + 1, by omega, by go_num, by rw [HFIN.out], by show WrB _ _ _ _ _; have := HW4.out; rw [HFIN.out, tx]; simpa using this, fun s hs => by rcases HSS.out s hs with h | h; exact HS.out s h; rw [h]; exact hx3⟩
                    case measure => simp [intOf]; omega
              · obtain rfl : i = len1 := by omega
                clear hlt hi
                rw [List.take_of_length_le (by rw [HL1.out]; exact Nat.le_refl _)] at HW1 HS ⊢
                have htl : (Q ++ txs ss).length ≤ 60000 := by
                  have := txs_le ss 500 (by omega) HS.out
                  have := HL1.out
                  simp only [List.length_append]; omega
                generalize hR : Q ++ txs ss = R at *
                clear hR
                go_wp2_with fail
                obtain ⟨vw, hvw, hvwB⟩ := HW1.out.ex
                refine (bytes_w wa.heap.size vw R _ hvw (by omega)).mono ?_
                rintro e wc ⟨vb, rfl, ho, hbel⟩
                have hlow : ∀ k, vw.ownBlock = some k → k < wr.heap.size := hvw.ltv
                have hlowb := hvw.lt
                have hwc := hvw.keep (Only.of_below hbel) (by omega) (fun k hk => by have := hlow k hk; omega)
                have hbc : Below w.heap.size w wc := HW1.out.bel.trans (hbel.mono HW1.out.bel.size)
                obtain ⟨ba, bn, bcap, hvb, hbn, hrow⟩ : ∃ ba bn bcap, vb = .slice ba bn bcap ∧ bn ≤ 60000 ∧ (bn = 0 ∨ ∃ g, ba = some ⟨g, 0, none⟩ ∧ wr.heap.size ≤ g ∧ Scr g bn wc) := by
                  have ho' := ho
                  rcases ho.2 with ⟨e, h0⟩ | ⟨g', cap, cur, e, hg, _⟩
                  · exact ⟨_, _, _, e, by omega, .inl rfl⟩
                  · rw [e] at ho'
                    exact ⟨_, _, _, e, htl, .inr ⟨g', rfl, hg, Scr.of_own ho'⟩⟩
                subst hvb
                have HW5 := Lib.hid (show Wr wa.heap.size vw R wc ∧ Below w.heap.size w wc ∧ (bn = 0 ∨ ∃ g, ba = some ⟨g, 0, none⟩ ∧ wr.heap.size ≤ g ∧ Scr g bn wc) from ⟨hwc, hbc, hrow⟩)
                have HLOW := Lib.hid hlow
                have HVWB := Lib.hid hvwB
                have hsz5 := HW1.out.bel.size
                clear ho hbel hwc hbc hrow hlow hvw hvwB HW1
                go_wp2_with fail
                go_loopw [106] (fun i wx => ∃ k : Nat, k ≤ bn ∧ i = .int .i64 (k : Int) ∧ Hid (Wr wa.heap.size vw R wx ∧ Below w.heap.size w wx ∧ (bn = 0 ∨ ∃ g, ba = some ⟨g, 0, none⟩ ∧ wr.heap.size ≤ g ∧ Scr g bn wx))) (fun i _ => bn - (intOf i).toNat)
                case atStart => exact ⟨0, Nat.zero_le _, rfl, HW5⟩
                case round =>
                  rename_i wx _ _ _ _ _ _ _ _ _ _
                  obtain ⟨k, hk, rfl, HX⟩ := hrel
                  clear HW5
                  by_cases hlt : k < bn
                  · obtain ⟨hx1, hx2, hx3⟩ := HX.out
                    rcases hx3 with e | ⟨gg, rfl, hgg, hsc⟩
                    · omega
                    · obtain ⟨z, hcz, hfz⟩ := hsc.cell k hlt
                      have HX1 := Lib.hid hx1
                      have HX2 := Lib.hid hx2
                      have HX3 := Lib.hid hsc
                      clear hx1 hx2 hsc HX
                      go_wp2
                      go_roundw
                      case rel => exact ⟨k + 1, by omega, by go_num, HX1.out.keep ((Only.refl (fun i => i = gg) _).setCell (q := ⟨gg, k, none⟩) (.inl rfl) _) (by omega) (fun i hi e => by have := HLOW.out i hi; omega), HX2.out.setCell (by show w.heap.size ≤ gg; omega) _, .inr ⟨gg, rfl, hgg, HX3.out.set k _⟩⟩
                      case measure => simp [intOf]; omega
                  · obtain rfl : k = bn := by omega
                    clear hlt hk
                    have HWF : Hid (WrB w.heap.size wa.heap.size R w _) := ⟨⟨vw, HX.out.1, HVWB.out⟩, HB.out.size, HX.out.2.1, Nat.le_refl _⟩
                    clear HX
                    go_wp2_with fail
                    refine (number_wnil _ _).mono ?_
                    rintro e wz ⟨rfl, rfl⟩
                    go_wp2_with fail
                    refine (text_wnil _ _).mono ?_
                    rintro e wz ⟨rfl, rfl⟩
                    go_wp2_with fail
                    refine (flag_wnil _).mono ?_
                    rintro e wz ⟨rfl, rfl⟩
                    go_wp2_with fail
                    refine (raw_wnil _ _).mono ?_
                    rintro e wz ⟨rfl, rfl⟩
                    go_wp2_with fail
                    refine (bytes_B HWF.out (by omega)).mono ?_
                    rintro e wy ⟨ya, yn, ycap, rfl, _, hby, _, hw, _⟩
                    have hst := hby.str
                    have HW9 := Lib.hid hw
                    clear hw hby
                    go_wp2_with fail
                    refine (bytes_wnil _).mono ?_
                    rintro e wz ⟨rfl, rfl⟩
                    go_wp2
                    go_ret
                    exact ⟨rfl, HW9.out.bel⟩

set_option maxRecDepth 100000 in
theorem lifted (os : Os) (started : os.Started) (H : Type) (enc : TypeId × Value → H) :
    ReturnsInHanded {} Try.checked os 3 .any (Rows.wireWritesSpec.pre6 enc Try.prog Try.f3 Rows.wireWritesRow.domain false) (Rows.wireWritesSpec.post enc Try.prog Try.f3 false true false false) := by
  refine returnsInHanded_of_change (C := Try.checked) own started (by kernel_rfl) Try.func3
    (ChangeSpec.witness6 (enc := enc) (C := Try.checked) false ⟨#[], #[.slice none 0 0, .slice none 0 0, .slice none 0 0], []⟩ 8 (by kernel_rfl) (by kernel_rfl) (by kernel_rfl) (by kernel_rfl)) ?_
  intro W base args ds gs before hval0 hW hcnd _
  have hval : ∀ (j : Nat) t v, Try.f3.params[j]? = some t → args[j]? = some v → Value.okWide Try.prog W .any base t v := hval0
  have hW' := hW
  obtain ⟨p, q, hA0, hV, rfl, hfz, hnd⟩ := hW
  have hA : DataW.TrodAll enc Try.prog W 0 (fun _ => true) true Try.f3.params.toList args.toList ds p := hA0
  rw [Try.params3] at hA hval
  obtain ⟨v0, vs0, d0, ds0, p0, q0, hargs, rfl, rfl, h0, r0⟩ := trodAll_cons hA
  obtain ⟨v1, vs1, d1, ds1, p1, q1, rfl, rfl, rfl, h1, r1⟩ := trodAll_cons r0
  obtain ⟨v2, vs2, d2, ds2, p2, q2, rfl, rfl, rfl, h2, r2⟩ := trodAll_cons r1
  obtain ⟨rfl, rfl, rfl⟩ := trodAll_nil r2
  obtain rfl : args = #[v0, v1, v2] := by cases args; simp_all
  obtain ⟨rfl, rfl⟩ := trodVars_none hV
  have k0 := h0
  have k1 := h1
  have k2 := h2
  have lt2 : ∀ x ∈ p2, x.block < W.heap.size := by obtain ⟨m, hm⟩ := k2; exact DataW.trod_lt m _ _ _ hm
  obtain ⟨a2, len2, cap2, rfl⟩ := okWide_slice Try.underlying24 (hval 2 24 v2 rfl rfl)
  have lt0 : ∀ x ∈ p0, x.block < W.heap.size := by obtain ⟨m, hm⟩ := k0; exact DataW.trod_lt m _ _ _ hm
  have lt1 : ∀ x ∈ p1, x.block < W.heap.size := by obtain ⟨m, hm⟩ := k1; exact DataW.trod_lt m _ _ _ hm
  obtain ⟨a0, len0, cap0, rfl⟩ := okWide_slice Try.underlying22 (hval 0 22 v0 rfl rfl)
  obtain ⟨a1, len1, cap1, rfl⟩ := okWide_slice Try.underlying23 (hval 1 23 v1 rfl rfl)
  obtain ⟨ns, hl0, hm0, hn, hr0⟩ : ∃ ns : List Int, ns.length = len0 ∧ len0 ≤ maxLen ∧ (∀ n ∈ ns, Wm.inR n) ∧ RowAt W a0 len0 (fun j => .int .i64 (ns.getD j 0)) := by
    obtain ⟨fuel, hf⟩ := h0
    rcases open_ints Try.underlying22 Try.underlying3 (by kernel_rfl) hf with ⟨hcs, _⟩ | ⟨x, l, c, zs, hcs, _, hl, hm, hz, _, hcell, hwz⟩
    · simp [Value.cells] at hcs
      obtain ⟨rfl, rfl, rfl⟩ := hcs
      exact ⟨[], rfl, Nat.zero_le _, fun n hn => by simp at hn, .inl rfl⟩
    · simp [Value.cells] at hcs
      obtain ⟨rfl, rfl, rfl⟩ := hcs
      have hzl : zs.length = cap0 := by simpa using hz
      refine ⟨zs.take len0, by rw [List.length_take]; omega, by omega, fun n hn => wf_in n (hwz n (List.mem_of_mem_take hn)), ?_⟩
      rcases Nat.eq_zero_or_pos len0 with e | e
      · exact .inl e
      · obtain ⟨b, off, rfl, hc⟩ := ints_at hcell (by omega)
        refine .inr ⟨b, off, rfl, ?_, fun j hj => ?_⟩
        · exact World.block_lt_of_cell? W ⟨b, off + 0, none⟩ (hc 0 (by omega))
        · rw [hc j (by omega)]
          simp [List.getD, hj]
  obtain ⟨ss, hl1, hm1, hr1⟩ : ∃ ss : List ByteArray, ss.length = len1 ∧ len1 ≤ maxLen ∧ RowAt W a1 len1 (fun j => .string (ss.getD j ByteArray.empty)) := by
    obtain ⟨fuel, hf⟩ := h1
    rcases open_strings Try.underlying23 Try.underlying9 (by kernel_rfl) hf with ⟨hcs, _⟩ | ⟨x, l, c, zs, hcs, _, hl, hm, hz, _, hcell, hwz⟩
    · simp [Value.cells] at hcs
      obtain ⟨rfl, rfl, rfl⟩ := hcs
      exact ⟨[], rfl, Nat.zero_le _, .inl rfl⟩
    · simp [Value.cells] at hcs
      obtain ⟨rfl, rfl, rfl⟩ := hcs
      have hzl : zs.length = cap1 := by simpa using hz
      refine ⟨zs.take len1, by rw [List.length_take]; omega, by omega, ?_⟩
      rcases Nat.eq_zero_or_pos len1 with e | e
      · exact .inl e
      · obtain ⟨b, off, spot⟩ := x
        have hspot : spot = none := by simpa [Addr.add] using World.cell?_spot (hcell 0 (by omega))
        subst hspot
        have hc : ∀ j, j < zs.length → W.cell? ⟨b, off + j, none⟩ = some (.string (zs.getD j ByteArray.empty)) := fun j hj => by rw [← Go.WideShapes.add_plain]; exact hcell j hj
        refine .inr ⟨b, off, rfl, ?_, fun j hj => ?_⟩
        · exact World.block_lt_of_cell? W ⟨b, off + 0, none⟩ (hc 0 (by omega))
        · rw [hc j (by omega)]
          simp [List.getD, hj]
  obtain ⟨raw, hl2, hm2, hr2⟩ : ∃ raw : List UInt8, raw.length = len2 ∧ len2 ≤ maxLen ∧ BytC (.slice a2 len2 cap2) raw W := by
    obtain ⟨fuel, hf⟩ := h2
    rcases open_ints Try.underlying24 Try.underlying5 (by kernel_rfl) hf with ⟨hcs, _⟩ | ⟨x, l, c, zs, hcs, _, hl, hm, hz, _, hcell, hwz⟩
    · simp [Value.cells] at hcs
      obtain ⟨rfl, rfl, rfl⟩ := hcs
      exact ⟨[], rfl, Nat.zero_le _, .inl ⟨_, _, rfl, rfl⟩⟩
    · simp [Value.cells] at hcs
      obtain ⟨rfl, rfl, rfl⟩ := hcs
      have hzl : zs.length = cap2 := by simpa using hz
      exact bytC_open x len2 cap2 zs hl hm hzl hcell hwz
  subst hl2
  clear hA0 hval0
  refine (walk a0 a1 len0 cap0 len1 cap1 ns ss _ raw W hl0 hl1 hm0 hm1 hm2 hn hr0 hr1 hr2).mono fun e W' ⟨he, bel⟩ => ?_
  subst he
  exact ⟨_, rfl, _, _, _, [], _, [], hW', trodAll_mk1 (shut_bool Try.underlying4 _), (trodAll_cons_mk (Below.trod laidOut (by kernel_rfl) (of_decide_eq_true (by kernel_rfl)) k0 bel lt0) (trodAll_cons_mk (Below.trod laidOut (by kernel_rfl) (of_decide_eq_true (by kernel_rfl)) k1 bel lt1) (trodAll_cons_mk (Below.trod laidOut (by kernel_rfl) (of_decide_eq_true (by kernel_rfl)) k2 bel lt2) trodAll_mk0))), rfl, bel.frame _, fun h => by cases h⟩

theorem over : Rows.wireWritesRow.holds Try.pinned (OpenSpec.ofChange Rows.wireWritesSpec) :=
  OpenClaim.holds_of_wide 3 Try.f3 rfl rfl rfl rfl rfl rfl rfl ⟨rfl, rfl, rfl, rfl, rfl⟩ rfl rfl rfl rfl rfl (by kernel_rfl) Try.func3 (by kernel_rfl)
    (of_decide_eq_true (by kernel_rfl)) (by unfold Func.isWrapper; first | (rw [if_pos (by decide +kernel)]; kernel_rfl) | (rw [if_neg (by decide +kernel)]; exact ⟨rfl, rfl⟩))
    (fun os started H enc _ => lifted os started H enc)

theorem proved : Rows.WireWritesSaid :=
  over
end Go.Proofs.Ytgpeombkdompdaa.wireWrites
