/- WireBack returns true for every list of numbers and of strings: what is written is read again to the end, and nothing short of it. No condition. -/
import Derived.Test.YtgpeombkdompdaaWireSeq
import Derived.ProofKit
import Derived.OpenShut
import Derived.ShutString
import Derived.ChangeOld
import Derived.SliceStrings
import Derived.Below
namespace Go.Proofs.Ytgpeombkdompdaa.wireBack
open Go.ChangeShapes Go.WideShapes Go.ChangeAt Go.RowKit
set_option linter.unusedVariables false

theorem own : ownKnob Try.prog.godebug = none := by kernel_rfl
theorem laidOut : laidOutB Try.prog = true := by kernel_rfl

set_option maxHeartbeats 4000000 in
set_option maxRecDepth 100000 in
theorem walk (a0 a1 : Option Addr) (len0 cap0 len1 cap1 : Nat) (ns : List Int) (ss : List ByteArray) (w : World) (hl0 : ns.length = len0) (hl1 : ss.length = len1) (hm0 : len0 ≤ maxLen) (hm1 : len1 ≤ maxLen)
    (hn : ∀ n ∈ ns, Wm.inR n) (h0 : RowAt w a0 len0 (fun j => .int .i64 (ns.getD j 0))) (h1 : RowAt w a1 len1 (fun j => .string (ss.getD j ByteArray.empty))) :
    Calls Try.prog 5 #[.slice a0 len0 cap0, .slice a1 len1 cap1] w fun e w' => e = .returned (.bool true) ∧ Below w.heap.size w w' := by
  unfold maxLen at hm0 hm1
  have H0 := Lib.hid h0
  have H1 := Lib.hid h1
  have HL0 := Lib.hid hl0
  have HL1 := Lib.hid hl1
  have HN := Lib.hid hn
  clear h0 h1 hl0 hl1 hn
  by_cases hbig : 100 < len0 ∨ 100 < len1
  · have hd : (decide ((100 : Int) < (len0 : Int)) = true) ∨ (decide ((100 : Int) < (len0 : Int)) = false ∧ decide ((100 : Int) < (len1 : Int)) = true) := by
      by_cases h : 100 < len0
      · left; simp; omega
      · right; exact ⟨by simp; omega, by simp; omega⟩
    rcases hd with hd | ⟨hd, hd2⟩
    all_goals
      go_enter Try.func5, Try.ntmps5
      go_wp2_with fail
      refine (first_true _).mono ?_
      rintro e wa ⟨rfl, hb⟩
      have HB := Lib.hid hb
      clear hb
      go_wp2
      go_ret
      exact ⟨rfl, HB.out⟩
  · have hd : decide ((100 : Int) < (len0 : Int)) = false := by simp; omega
    have hd2 : decide ((100 : Int) < (len1 : Int)) = false := by simp; omega
    have b0 : len0 ≤ 100 := by omega
    have b1 : len1 ≤ 100 := by omega
    clear hbig hm0 hm1
    go_enter Try.func5, Try.ntmps5
    go_wp2_with fail
    refine (first_true _).mono ?_
    rintro e wa ⟨rfl, hb⟩
    have HB := Lib.hid hb
    clear hb
    go_wp2_with fail
    go_loopw [31] (fun i wr => ∃ j : Nat, j ≤ len0 ∧ i = .int .i64 (j : Int) ∧ Hid (WrB w.heap.size wa.heap.size (nums (ns.take j)) w wr)) (fun i _ => len0 - (intOf i).toNat)
    case atStart => exact ⟨0, Nat.zero_le _, rfl, WrB.fresh HB.out (Nat.le_refl _)⟩
    case round =>
      obtain ⟨j, hj, rfl, HW⟩ := hrel
      by_cases hlt : j < len0
      · rcases H0.out with e | ⟨b, off, rfl, hb, hc⟩
        · omega
        · have hcj : wr.cell? ⟨b, off + j, none⟩ = some (.int .i64 (ns.getD j 0)) := (HW.out.bel.cell (p := ⟨b, off + j, none⟩) hb).trans (hc j hlt)
          clear hc
          have hin : Wm.inR (ns.getD j 0) := by
            have : j < ns.length := by rw [HL0.out]; exact hlt
            refine HN.out _ ?_
            simp [List.getD, this]
          have hsn : nums (ns.take (j + 1)) = nums (ns.take j) ++ Wm.enc (ns.getD j 0) := by
            have : j < ns.length := by rw [HL0.out]; exact hlt
            rw [List.take_succ_eq_append_getElem this, nums_snoc]; simp [List.getD, this]
          have hlen : (nums (ns.take j)).length ≤ 900 := by
            have := nums_le (ns.take j) (fun n hn => HN.out n (List.mem_of_mem_take hn))
            have h2 : (ns.take j).length ≤ j := List.length_take_le _ _
            omega
          have HSN := Lib.hid hsn
          clear hsn
          generalize ns.getD j 0 = x at *
          go_wp2_with fail
          refine (number_B x HW.out (by omega) hin).mono ?_
          rintro e wb ⟨rfl, hw⟩
          have HW2 := Lib.hid hw
          clear hw
          go_wp2
          go_roundw
          case rel => exact ⟨j + 1, by omega, by go_num, by rw [HSN.out]; exact HW2.out⟩
          case measure => simp [intOf]; omega
      · obtain rfl : j = len0 := by omega
        clear hlt hj
        rw [List.take_of_length_le (by rw [HL0.out]; exact Nat.le_refl _)] at HW
        have hnl : (nums ns).length ≤ 900 := by
          have := nums_le ns HN.out
          have := HL0.out
          omega
        go_wp2_with fail
        go_loopw [41] (fun i wr => ∃ j : Nat, j ≤ len1 ∧ i = .int .i64 (j : Int) ∧ Hid (WrB w.heap.size wa.heap.size (nums ns ++ txs (ss.take j)) w wr) ∧ Hid (∀ s ∈ ss.take j, s.size ≤ 300)) (fun i _ => len1 - (intOf i).toNat)
        case atStart => exact ⟨0, Nat.zero_le _, rfl, by simpa [txs] using HW, by show ∀ s ∈ ss.take 0, s.size ≤ 300; simp⟩
        case round =>
          obtain ⟨i, hi, rfl, HW1, HS⟩ := hrel
          clear HW
          by_cases hlt : i < len1
          · rcases H1.out with e | ⟨b, off, rfl, hb, hc⟩
            · omega
            · have hcj : wr.cell? ⟨b, off + i, none⟩ = some (.string (ss.getD i ByteArray.empty)) := (HW1.out.bel.cell (p := ⟨b, off + i, none⟩) hb).trans (hc i hlt)
              clear hc
              have hil : i < ss.length := by rw [HL1.out]; exact hlt
              have hsn : txs (ss.take (i + 1)) = txs (ss.take i) ++ tx (ss.getD i ByteArray.empty) := by
                rw [List.take_succ_eq_append_getElem hil, txs_snoc]; simp [List.getD, hil]
              have hss : ∀ s ∈ ss.take (i + 1), s ∈ ss.take i ∨ s = ss.getD i ByteArray.empty := by
                intro s hs
                rw [List.take_succ_eq_append_getElem hil] at hs
                rcases List.mem_append.1 hs with h | h
                · exact .inl h
                · right; simp at h; simp [List.getD, hil, h]
              have hlen : (nums ns ++ txs (ss.take i)).length ≤ 40000 := by
                have := txs_le (ss.take i) 300 (by omega) HS.out
                have h2 : (ss.take i).length ≤ i := List.length_take_le _ _
                simp only [List.length_append]; omega
              have HSN := Lib.hid hsn
              have HSS := Lib.hid hss
              clear hsn hss hil
              generalize ss.getD i ByteArray.empty = x at *
              by_cases hx : (300 : Int) < (x.size : Int)
              · have hxd : decide ((300 : Int) < (x.size : Int)) = true := by simpa using hx
                go_wp2
                go_ret
                exact ⟨rfl, HW1.out.bel⟩
              · have hxd : decide ((300 : Int) < (x.size : Int)) = false := by simpa using hx
                have hx3 : x.size ≤ 300 := by omega
                clear hx
                go_wp2_with fail
                refine (text_B x HW1.out (by omega) (by omega)).mono ?_
                rintro e wb ⟨rfl, hw⟩
                have HW2 := Lib.hid hw
                clear hw
                go_wp2
                go_roundw
                case rel => exact ⟨i + 1, by omega, by go_num, by show WrB _ _ _ _ _; have := HW2.out; rw [HSN.out, tx]; simpa using this, fun s hs => by rcases HSS.out s hs with h | h; exact HS.out s h; rw [h]; exact hx3⟩
                case measure => simp [intOf]; omega
          · obtain rfl : i = len1 := by omega
            clear hlt hi
            rw [List.take_of_length_le (by rw [HL1.out]; exact Nat.le_refl _)] at HW1 HS
            have htl : (nums ns ++ txs ss).length ≤ 40000 := by
              have := txs_le ss 300 (by omega) HS.out
              have := HL1.out
              simp only [List.length_append]; omega
            go_wp2_with fail
            refine (bytes_B HW1.out (by omega)).mono ?_
            rintro e wc ⟨ba, bn, bcap, rfl, hbn, hby, _, hw, _⟩
            have HBY := Lib.hid hby
            have HW3 := Lib.hid hw
            clear hby hw HW1
            go_wp2_with fail
            refine (read_B _ _ HBY.out (by omega) HW3.out.bel (Nat.le_refl _)).mono ?_
            rintro e wd ⟨r, rfl, hr, hrr, hbel⟩
            have HR := Lib.hid hr
            have hgr : ∀ g, (Value.slice ba bn bcap).ownBlock = some g → ¬ (g = r) := fun g hg => by have := HBY.out.lt g hg; omega
            have HGR := Lib.hid hgr
            have HBY2 := Lib.hid (HBY.out.keep (Only.of_below hbel) (fun g hg => by have := HBY.out.lt g hg; omega))
            clear hr hbel HBY HW3 hgr hrr
            go_wp2_with fail
            go_loopw [58] (fun v wr => ∃ k : Nat, k ≤ j ∧ v = .int .i64 (k : Int) ∧ Hid (RdB w.heap.size r (some (nums (ns.drop k) ++ txs ss)) w wr ∧ Byt (.slice ba bn bcap) (nums ns ++ txs ss) wr)) (fun v _ => j - (intOf v).toNat)
            case atStart => exact ⟨0, Nat.zero_le _, rfl, HR.out, HBY2.out⟩
            case round =>
              obtain ⟨k, hk, rfl, HRB⟩ := hrel
              clear HR HBY2
              by_cases hlt : k < j
              · rcases H0.out with e | ⟨b, off, rfl, hb, hc⟩
                · omega
                · have hcj : wr.cell? ⟨b, off + k, none⟩ = some (.int .i64 (ns.getD k 0)) := (HRB.out.1.bel.cell (p := ⟨b, off + k, none⟩) hb).trans (hc k hlt)
                  clear hc
                  have hkl : k < ns.length := by rw [HL0.out]; exact hlt
                  have hin : Wm.inR (ns.getD k 0) := by refine HN.out _ ?_; simp [List.getD, hkl]
                  have hdr : nums (ns.drop k) ++ txs ss = Wm.enc (ns.getD k 0) ++ (nums (ns.drop (k + 1)) ++ txs ss) := by
                    rw [List.drop_eq_getElem_cons hkl, nums_cons]; simp [List.getD, hkl]
                  have hlk : (nums (ns.drop k) ++ txs ss).length ≤ 40000 := by
                    have h1 := nums_le (ns.drop k) (fun n hn => HN.out n (List.mem_of_mem_drop hn))
                    have h2 := txs_le ss 300 (by omega) HS.out
                    have := HL1.out; have := HL0.out
                    simp only [List.length_append, List.length_drop] at h1 ⊢; omega
                  have hbt := number_some (ns.getD k 0) (nums (ns.drop (k + 1)) ++ txs ss) hin
                  rw [← hdr] at hbt
                  have HBT := Lib.hid hbt
                  clear hbt hdr hkl
                  generalize ns.getD k 0 = x at *
                  have hxx : (x != x) = false := by simp
                  go_wp2_with fail
                  refine (number_RB HRB.out.1 (by simpa using (by omega : (nums (ns.drop k) ++ txs ss).length ≤ 1000000000000))).mono ?_
                  rintro e we ⟨rfl, hr, ho⟩
                  rw [HBT.out] at hr ⊢
                  have HRB2 := Lib.hid (And.intro hr (HRB.out.2.keep ho HGR.out))
                  clear hr ho
                  go_wp2
                  go_roundw
                  case rel => exact ⟨k + 1, by omega, by go_num, HRB2⟩
                  case measure => simp [intOf]; omega
              · obtain rfl : k = j := by omega
                clear hlt hk
                rw [List.drop_of_length_le (by rw [HL0.out]; exact Nat.le_refl _)] at HRB
                have HRB' : Hid (RdB w.heap.size r (some (txs ss)) w wr ∧ Byt (.slice ba bn bcap) (nums ns ++ txs ss) wr) := by simpa [nums] using HRB
                clear HRB
                go_wp2_with fail
                go_loopw [69] (fun v wr => ∃ q : Nat, q ≤ i ∧ v = .int .i64 (q : Int) ∧ Hid (RdB w.heap.size r (some (txs (ss.drop q))) w wr ∧ Byt (.slice ba bn bcap) (nums ns ++ txs ss) wr)) (fun v _ => i - (intOf v).toNat)
                case atStart => exact ⟨0, Nat.zero_le _, rfl, HRB'⟩
                case round =>
                  obtain ⟨q, hq, rfl, HRC⟩ := hrel
                  clear HRB'
                  by_cases hlt : q < i
                  · rcases H1.out with e | ⟨b, off, rfl, hb, hc⟩
                    · omega
                    · have hcj : wr.cell? ⟨b, off + q, none⟩ = some (.string (ss.getD q ByteArray.empty)) := (HRC.out.1.bel.cell (p := ⟨b, off + q, none⟩) hb).trans (hc q hlt)
                      clear hc
                      have hql : q < ss.length := by rw [HL1.out]; exact hlt
                      have hx3 : (ss.getD q ByteArray.empty).size ≤ 300 := by refine HS.out _ ?_; simp [List.getD, hql]
                      have hdr : txs (ss.drop q) = tx (ss.getD q ByteArray.empty) ++ txs (ss.drop (q + 1)) := by
                        rw [List.drop_eq_getElem_cons hql, txs_cons]; simp [List.getD, hql]
                      have hlk : (txs (ss.drop q)).length ≤ 40000 := by
                        have h2 := txs_le (ss.drop q) 300 (by omega) (fun s hs => HS.out s (List.mem_of_mem_drop hs))
                        have := HL1.out
                        simp only [List.length_drop] at h2; omega
                      have hbt := rtext_some (ss.getD q ByteArray.empty) (txs (ss.drop (q + 1))) (by omega)
                      rw [← hdr] at hbt
                      have HBT := Lib.hid hbt
                      clear hbt hdr hql
                      generalize ss.getD q ByteArray.empty = x at *
                      go_wp2_with fail
                      refine (text_RB HRC.out.1 (by simpa using (by omega : (txs (ss.drop q)).length ≤ 1000000000000))).mono ?_
                      rintro e we ⟨rfl, hr, ho⟩
                      rw [HBT.out] at hr ⊢
                      have hst : bstr x.data.toList = x := rfl
                      simp only [hst]
                      clear hst
                      have HRC2 := Lib.hid (And.intro hr (HRC.out.2.keep ho HGR.out))
                      clear hr ho
                      go_wp2
                      go_roundw
                      case rel => exact ⟨q + 1, by omega, by go_num, HRC2⟩
                      case measure => simp [intOf]; omega
                  · obtain rfl : q = i := by omega
                    clear hlt hq
                    rw [List.drop_of_length_le (by rw [HL1.out]; exact Nat.le_refl _)] at HRC
                    have HRD : Hid (RdB w.heap.size r (some []) w wr ∧ Byt (.slice ba bn bcap) (nums ns ++ txs ss) wr) := by simpa [txs] using HRC
                    clear HRC
                    go_wp2_with fail
                    refine (end_RB HRD.out.1).mono ?_
                    rintro e wf ⟨rfl, rfl⟩
                    simp only [Option.isSome_some, Option.getD_some, List.isEmpty_nil, Bool.and_self]
                    by_cases hemp : nums ns ++ txs ss = []
                    · have hbz : ((bn : Int) == 0) = true := by have := hbn.out; rw [hemp] at this; simp at this; simp [this]
                      clear hemp
                      go_wp2_with fail
                      refine (end_RB HRD.out.1).mono ?_
                      rintro e wg ⟨rfl, rfl⟩
                      simp only [Option.isSome_some, Option.getD_some, List.isEmpty_nil, Bool.and_self]
                      go_wp2
                      go_ret
                      exact ⟨rfl, HRD.out.1.bel⟩
                    · have hpos : 0 < (nums ns ++ txs ss).length := List.length_pos_iff.2 hemp
                      obtain ⟨m, hm⟩ : ∃ m : Nat, (nums ns ++ txs ss).length = m + 1 := ⟨(nums ns ++ txs ss).length - 1, by omega⟩
                      have hbm : bn = m + 1 := hbn.out.trans hm
                      subst hbm
                      obtain ⟨ua, uc, ub, ud, hsv, hbyt, hown, hrun⟩ := HRD.out.2.upto m (by omega)
                      rw [hm] at hsv hrun
                      simp only [Value.slice.injEq, true_and] at hsv
                      obtain ⟨rfl, rfl⟩ := hsv
                      rw [show (nums ns ++ txs ss).take m = (nums ns ++ txs ss).dropLast by rw [List.dropLast_eq_take, hm]; rfl] at hbyt
                      have HBY3 := Lib.hid hbyt
                      have HEMP := Lib.hid hemp
                      have hm40 : m ≤ 40000 := by omega
                      clear hbyt hown hemp hpos hm
                      have hbz : (((m : Int) + 1) == 0) = false := by simp; omega
                      have hdl : ((nums ns ++ txs ss).dropLast).length ≤ 40000 := by simp only [List.length_dropLast]; omega
                      go_wp2_with fail
                      refine (read_B _ _ HBY3.out (by omega) HRD.out.1.bel (Nat.le_refl _)).mono ?_
                      rintro e wg ⟨t, rfl, hr, _, _⟩
                      have HT := Lib.hid hr
                      clear hr hrun hbz HRD HGR HBY3
                      go_wp2_with fail
                      go_loopw [96] (fun v wr => ∃ i : Nat, i ≤ k ∧ v = .int .i64 (i : Int) ∧ Hid (∃ st, RdB w.heap.size t st w wr ∧ (st = none ∨ (nums (ns.drop i) ++ txs ss ≠ [] ∧ st = some (nums (ns.drop i) ++ txs ss).dropLast)))) (fun v _ => k - (intOf v).toNat)
                      case atStart => exact ⟨0, Nat.zero_le _, rfl, _, HT.out, .inr ⟨HEMP.out, rfl⟩⟩
                      case round =>
                        obtain ⟨i, hi, rfl, HST⟩ := hrel
                        clear HT
                        obtain ⟨st, hst, hcase⟩ := HST.out
                        have HCASE := Lib.hid hcase
                        have HSTR := Lib.hid hst
                        clear hcase hst HST
                        have hlk : (st.getD []).length ≤ 40000 := by
                          have h1 := nums_le (ns.drop i) (fun n hn => HN.out n (List.mem_of_mem_drop hn))
                          have h2 := txs_le ss 300 (by omega) HS.out
                          have := HL1.out; have := HL0.out
                          rcases HCASE.out with e | ⟨_, e⟩
                          · rw [e]; simp
                          · rw [e]; simp only [Option.getD_some, List.length_dropLast, List.length_append, List.length_drop] at h1 ⊢; omega
                        by_cases hlt : i < k
                        · have hnx : Hid ((btw (-9223372036854775808) 9223372036854775807 st).2 = none ∨ (nums (ns.drop (i + 1)) ++ txs ss ≠ [] ∧ (btw (-9223372036854775808) 9223372036854775807 st).2 = some (nums (ns.drop (i + 1)) ++ txs ss).dropLast)) := by
                            have hkl : i < ns.length := by rw [HL0.out]; exact hlt
                            have hin : Wm.inR ns[i] := HN.out _ (by simp)
                            rcases HCASE.out with e | ⟨_, e⟩
                            · rw [e]; exact .inl rfl
                            · have hdr : nums (ns.drop i) ++ txs ss = Wm.enc ns[i] ++ (nums (ns.drop (i + 1)) ++ txs ss) := by
                                rw [List.drop_eq_getElem_cons hkl, nums_cons]; simp
                              rw [e, hdr]
                              exact number_last ns[i] _ hin
                          go_wp2_with fail
                          refine (number_RB HSTR.out (by omega)).mono ?_
                          rintro e we ⟨rfl, hr, ho⟩
                          have HR2 := Lib.hid hr
                          clear hr ho
                          go_wp2
                          go_roundw
                          case rel => exact ⟨i + 1, by omega, by go_num, _, HR2.out, hnx.out⟩
                          case measure => simp [intOf]; omega
                        · obtain rfl : i = k := by omega
                          clear hlt hi
                          have HC2 : Hid (st = none ∨ (txs ss ≠ [] ∧ st = some (txs ss).dropLast)) := by
                            have := HCASE.out
                            rw [List.drop_of_length_le (by rw [HL0.out]; exact Nat.le_refl _)] at this
                            exact this
                          clear HCASE
                          go_wp2_with fail
                          go_loopw [103] (fun v wr => ∃ i : Nat, i ≤ q ∧ v = .int .i64 (i : Int) ∧ Hid (∃ st, RdB w.heap.size t st w wr ∧ (st = none ∨ (txs (ss.drop i) ≠ [] ∧ st = some (txs (ss.drop i)).dropLast)))) (fun v _ => q - (intOf v).toNat)
                          case atStart => exact ⟨0, Nat.zero_le _, rfl, _, HSTR.out, HC2.out⟩
                          case round =>
                            obtain ⟨p, hp, rfl, HST⟩ := hrel
                            clear HC2 HSTR
                            obtain ⟨st2, hst, hcase⟩ := HST.out
                            have HCASE := Lib.hid hcase
                            have HSTR := Lib.hid hst
                            clear hcase hst HST
                            have hlk2 : (st2.getD []).length ≤ 40000 := by
                              have h2 := txs_le (ss.drop p) 300 (by omega) (fun s hs => HS.out s (List.mem_of_mem_drop hs))
                              have := HL1.out
                              rcases HCASE.out with e | ⟨_, e⟩
                              · rw [e]; simp
                              · rw [e]; simp only [Option.getD_some, List.length_dropLast, List.length_drop] at h2 ⊢; omega
                            by_cases hlt : p < q
                            · have hnx : Hid ((rtext st2).2 = none ∨ (txs (ss.drop (p + 1)) ≠ [] ∧ (rtext st2).2 = some (txs (ss.drop (p + 1))).dropLast)) := by
                                have hkl : p < ss.length := by rw [HL1.out]; exact hlt
                                have hin : ss[p].size ≤ 300 := HS.out _ (by simp)
                                rcases HCASE.out with e | ⟨_, e⟩
                                · rw [e]; exact .inl rfl
                                · have hdr : txs (ss.drop p) = tx ss[p] ++ txs (ss.drop (p + 1)) := by
                                    rw [List.drop_eq_getElem_cons hkl, txs_cons]
                                  rw [e, hdr]
                                  exact rtext_last ss[p] _ (by omega)
                              go_wp2_with fail
                              refine (text_RB HSTR.out (by omega)).mono ?_
                              rintro e we ⟨rfl, hr, ho⟩
                              have HR2 := Lib.hid hr
                              clear hr ho
                              go_wp2
                              go_roundw
                              case rel => exact ⟨p + 1, by omega, by go_num, _, HR2.out, hnx.out⟩
                              case measure => simp [intOf]; omega
                            · obtain rfl : p = q := by omega
                              clear hlt hp
                              have hnone : st2 = none := by
                                have := HCASE.out
                                rw [List.drop_of_length_le (by rw [HL1.out]; exact Nat.le_refl _)] at this
                                rcases this with e | ⟨h, _⟩
                                · exact e
                                · exact absurd rfl h
                              subst hnone
                              clear HCASE
                              go_wp2_with fail
                              refine (ok_RB HSTR.out).mono ?_
                              rintro e wh ⟨rfl, rfl⟩
                              simp only [Option.isSome_none]
                              go_wp2
                              go_ret
                              exact ⟨rfl, HSTR.out.bel⟩

set_option maxRecDepth 100000 in
theorem lifted (os : Os) (started : os.Started) (H : Type) (enc : TypeId × Value → H) :
    ReturnsInHanded {} Try.checked os 5 .any (Rows.wireBackSpec.pre6 enc Try.prog Try.f5 Rows.wireBackRow.domain false) (Rows.wireBackSpec.post enc Try.prog Try.f5 false true false false) := by
  refine returnsInHanded_of_change (C := Try.checked) own started (by kernel_rfl) Try.func5
    (ChangeSpec.witness6 (enc := enc) (C := Try.checked) false ⟨#[], #[.slice none 0 0, .slice none 0 0], []⟩ 8 (by kernel_rfl) (by kernel_rfl) (by kernel_rfl) (by kernel_rfl)) ?_
  intro W base args ds gs before hval0 hW hcnd _
  have hval : ∀ (j : Nat) t v, Try.f5.params[j]? = some t → args[j]? = some v → Value.okWide Try.prog W .any base t v := hval0
  have hW' := hW
  obtain ⟨p, q, hA0, hV, rfl, hfz, hnd⟩ := hW
  have hA : DataW.TrodAll enc Try.prog W 0 (fun _ => true) true Try.f5.params.toList args.toList ds p := hA0
  rw [Try.params5] at hA hval
  obtain ⟨v0, vs0, d0, ds0, p0, q0, hargs, rfl, rfl, h0, r0⟩ := trodAll_cons hA
  obtain ⟨v1, vs1, d1, ds1, p1, q1, rfl, rfl, rfl, h1, r1⟩ := trodAll_cons r0
  obtain ⟨rfl, rfl, rfl⟩ := trodAll_nil r1
  obtain rfl : args = #[v0, v1] := by cases args; simp_all
  obtain ⟨rfl, rfl⟩ := trodVars_none hV
  have k0 := h0
  have k1 := h1
  have lt0 : ∀ x ∈ p0, x.block < W.heap.size := by obtain ⟨m, hm⟩ := k0; exact DataW.trod_lt m _ _ _ hm
  have lt1 : ∀ x ∈ p1, x.block < W.heap.size := by obtain ⟨m, hm⟩ := k1; exact DataW.trod_lt m _ _ _ hm
  obtain ⟨a0, len0, cap0, rfl⟩ := okWide_slice Try.underlying22 (hval 0 22 v0 rfl rfl)
  obtain ⟨a1, len1, cap1, rfl⟩ := okWide_slice Try.underlying23 (hval 1 23 v1 rfl rfl)
  obtain ⟨ns, hl0, hm0, hn, hr0⟩ : ∃ ns : List Int, ns.length = len0 ∧ len0 ≤ maxLen ∧ (∀ n ∈ ns, Wm.inR n) ∧ RowAt W a0 len0 (fun j => .int .i64 (ns.getD j 0)) := by
    obtain ⟨fuel, hf⟩ := h0
    rcases open_ints Try.underlying22 Try.underlying3 (by kernel_rfl) hf with ⟨hcs, _⟩ | ⟨x, l, c, zs, hcs, _, hl, hm, hz, _, hcell, hwz⟩
    · simp [Value.cells] at hcs
      obtain ⟨rfl, rfl, rfl⟩ := hcs
      exact ⟨[], rfl, Nat.zero_le _, fun n hn => by simp at hn, .inl rfl⟩
    · simp [Value.cells] at hcs
      obtain ⟨rfl, rfl, rfl⟩ := hcs
      have hzl : zs.length = cap0 := by simpa using hz
      refine ⟨zs.take len0, by rw [List.length_take]; omega, by omega, fun n hn => wf_in n (hwz n (List.mem_of_mem_take hn)), ?_⟩
      rcases Nat.eq_zero_or_pos len0 with e | e
      · exact .inl e
      · obtain ⟨b, off, rfl, hc⟩ := ints_at hcell (by omega)
        refine .inr ⟨b, off, rfl, ?_, fun j hj => ?_⟩
        · exact World.block_lt_of_cell? W ⟨b, off + 0, none⟩ (hc 0 (by omega))
        · rw [hc j (by omega)]
          simp [List.getD, hj]
  obtain ⟨ss, hl1, hm1, hr1⟩ : ∃ ss : List ByteArray, ss.length = len1 ∧ len1 ≤ maxLen ∧ RowAt W a1 len1 (fun j => .string (ss.getD j ByteArray.empty)) := by
    obtain ⟨fuel, hf⟩ := h1
    rcases open_strings Try.underlying23 Try.underlying9 (by kernel_rfl) hf with ⟨hcs, _⟩ | ⟨x, l, c, zs, hcs, _, hl, hm, hz, _, hcell, hwz⟩
    · simp [Value.cells] at hcs
      obtain ⟨rfl, rfl, rfl⟩ := hcs
      exact ⟨[], rfl, Nat.zero_le _, .inl rfl⟩
    · simp [Value.cells] at hcs
      obtain ⟨rfl, rfl, rfl⟩ := hcs
      have hzl : zs.length = cap1 := by simpa using hz
      refine ⟨zs.take len1, by rw [List.length_take]; omega, by omega, ?_⟩
      rcases Nat.eq_zero_or_pos len1 with e | e
      · exact .inl e
      · obtain ⟨b, off, spot⟩ := x
        have hspot : spot = none := by simpa [Addr.add] using World.cell?_spot (hcell 0 (by omega))
        subst hspot
        have hc : ∀ j, j < zs.length → W.cell? ⟨b, off + j, none⟩ = some (.string (zs.getD j ByteArray.empty)) := fun j hj => by rw [← Go.WideShapes.add_plain]; exact hcell j hj
        refine .inr ⟨b, off, rfl, ?_, fun j hj => ?_⟩
        · exact World.block_lt_of_cell? W ⟨b, off + 0, none⟩ (hc 0 (by omega))
        · rw [hc j (by omega)]
          simp [List.getD, hj]
  clear hA0 hval0
  refine (walk a0 a1 len0 cap0 len1 cap1 ns ss W hl0 hl1 hm0 hm1 hn hr0 hr1).mono fun e W' ⟨he, bel⟩ => ?_
  subst he
  exact ⟨_, rfl, _, _, _, [], _, [], hW', trodAll_mk1 (shut_bool Try.underlying4 _), (trodAll_cons_mk (Below.trod laidOut (by kernel_rfl) (of_decide_eq_true (by kernel_rfl)) k0 bel lt0) (trodAll_cons_mk (Below.trod laidOut (by kernel_rfl) (of_decide_eq_true (by kernel_rfl)) k1 bel lt1) trodAll_mk0)), rfl, bel.frame _, fun h => by cases h⟩

theorem over : Rows.wireBackRow.holds Try.pinned (OpenSpec.ofChange Rows.wireBackSpec) :=
  OpenClaim.holds_of_wide 5 Try.f5 rfl rfl rfl rfl rfl rfl rfl ⟨rfl, rfl, rfl, rfl, rfl⟩ rfl rfl rfl rfl rfl (by kernel_rfl) Try.func5 (by kernel_rfl)
    (of_decide_eq_true (by kernel_rfl)) (by unfold Func.isWrapper; first | (rw [if_pos (by decide +kernel)]; kernel_rfl) | (rw [if_neg (by decide +kernel)]; exact ⟨rfl, rfl⟩))
    (fun os started H enc _ => lifted os started H enc)

theorem proved : Rows.WireBackSaid :=
  over
end Go.Proofs.Ytgpeombkdompdaa.wireBack
