/- RowPuts walked. -/
import Derived.Test.YtmipomglbccjbaaDoorRowW0
import Derived.Test.YtmipomglbccjbaaDoorRowGb
import Derived.Test.YtmipomglbccjbaaDoorRowGf
import Derived.Deep.RegionHeld3
namespace Go.Proofs.YtmipomglbccjbaaDoor
open Go.RowKit

/-- what is known of a row that came in -/
structure RowOk (c : Rm.C) : Prop where
  col : Wm.inR c.col
  n : Wm.inR c.v.n
  s : c.v.s.size ≤ maxLen
/-- what the end of RowPuts looks at -/
structure Pq (w : World) (r : Value) (l : List Rm.C) (b : Value) (lb : List UInt8) (x : Value) (W : World) : Prop where
  r : Rs r l W
  b : Yt b lb W
  x : Rs x l W
  env : EnvV W
  bel : Below w.heap.size w W
theorem Pq.keep {w w1 w2 : World} {r b x : Value} {l : List Rm.C} {lb : List UInt8} (h : Pq w r l b lb x w1) (hb : Below w1.heap.size w1 w2) : Pq w r l b lb x w2 :=
  ⟨h.r.keep hb, h.b.keep hb, h.x.keep hb, h.env.keep hb, h.bel.trans (hb.mono h.bel.size)⟩
theorem Pq.cv {w W : World} {r b x : Value} {l : List Rm.C} {lb : List UInt8} {T : ByteArray} (h : Pq w r l b lb x W) (hT : T = bstr lb) : (convert 25 9 b).run Tryd.prog W = .ok (.string T) W := by rw [hT]; exact h.b.str
theorem put_small {l : List Rm.C} (h : ∀ c ∈ l, Rm.fillB c.v = true ∧ Wm.inR c.col ∧ Wm.inR c.v.n) (hl : l.length ≤ 50) : (Rm.put l).length ≤ 14000 := by
  have := Rm.put_len h
  have := Wm.enc_length_le (l.length : Nat) (by unfold Wm.inR; omega)
  unfold Rm.put; rw [List.length_append]; omega

set_option maxHeartbeats 4000000 in
set_option maxRecDepth 100000 in
theorem walk_puts11 (a : Option Addr) (n cap : Nat) (l : List Rm.C) (w : World) (he : EnvV w) (hv : Rs (.slice a n cap) l w) (hn : n ≤ maxLen) (hi : ∀ c ∈ l, RowOk c) :
    Calls Tryd.prog 3 #[.slice a n cap] w (Says true w) := by
  have hnl : n = l.length := by obtain ⟨b, d, e⟩ := hv.form; injection e
  have HE := Lib.hid he
  have HV := Lib.hid hv
  have HI := Lib.hid hi
  have HF := Lib.hid (first11_true w he)
  have HNL := Lib.hid hnl
  have HMX := Lib.hid hn
  clear he hv hi hnl hn
  go_enter Tryd.func3, Tryd.ntmps3
  go_wp2_with fail
  refine HF.out.mono ?_
  rintro e w1 ⟨rfl, hb⟩
  have HB1 := Lib.hid hb
  have HE1 := Lib.hid (HE.out.keep hb)
  have HV1 := Lib.hid (HV.out.keep hb)
  clear hb HE HV HF
  have HLG := Lib.hid (law11_long a n cap l w1 HV1.out HMX.out (fun c hc => (HI.out c hc).s))
  go_wp2_with fail
  refine HLG.out.mono ?_
  rintro e w2 ⟨bl, rfl, hb, hlong⟩
  have HB2 := Lib.hid (HB1.out.trans (hb.mono HB1.out.size))
  have HE2 := Lib.hid (HE1.out.keep hb)
  have HV2 := Lib.hid (HV1.out.keep hb)
  clear hb HLG HB1 HE1 HV1
  by_cases hbl : bl = true
  · subst hbl
    clear hlong
    go_wp2
    go_ret
    exact Says.mk rfl HB2.out
  obtain rfl : bl = false := by simpa using hbl
  obtain ⟨h50, h500⟩ := hlong rfl
  have hn50 : n ≤ 50 := by rw [HNL.out]; exact h50
  clear hlong hbl h500
  have HP := Lib.hid (row_put a n cap l w2 HE2.out HV2.out (by omega) (fun c hc => ⟨(HI.out c hc).col, (HI.out c hc).n, (HI.out c hc).s⟩))
  unfold PutA at HP
  obtain ⟨Q, hQ⟩ : ∃ Q, Q = Rm.right l := ⟨_, rfl⟩
  rw [← hQ] at HP
  have HQ := Lib.hid hQ
  go_wp2_with fail
  refine HP.out.mono ?_
  rintro e w3 ⟨ba, bn, bc2, rfl, hbn, hby, hb⟩
  have HB3 := Lib.hid (HB2.out.trans (hb.mono HB2.out.size))
  have HE3 := Lib.hid (HE2.out.keep hb)
  have HV3 := Lib.hid (HV2.out.keep hb)
  have HY3 := Lib.hid hby
  have HBN := Lib.hid hbn
  clear hb hby hbn HP HB2 HE2 HV2
  have HRR := Lib.hid (ref_right11 a n cap l w3 HV3.out HMX.out (fun c hc => (HI.out c hc).s))
  rw [← hQ] at HRR
  cases Q
  · rw [if_neg (by decide)] at HBN HY3
    rw [if_neg (by decide)]
    have hbn0 : bn = 0 := HBN.out
    subst hbn0
    go_wp2_with fail
    refine HRR.out.mono ?_
    rintro e w4 ⟨rfl, hb⟩
    have HB4 := Lib.hid (HB3.out.trans (hb.mono HB3.out.size))
    have HE4 := Lib.hid (HE3.out.keep hb)
    have HV4 := Lib.hid (HV3.out.keep hb)
    clear hb HRR HB3 HE3 HV3 HY3
    have HR2 := Lib.hid (row_right a n cap l w4 HE4.out HV4.out HMX.out (fun c hc => (HI.out c hc).s))
    rw [← hQ] at HR2
    clear hQ
    go_wp2_with fail
    refine HR2.out.mono ?_
    rintro e w5 ⟨rfl, hb⟩
    have HB5 := Lib.hid (HB4.out.trans (hb.mono HB4.out.size))
    clear hb HR2 HB4 HE4 HV4
    go_wp2
    go_ret
    exact Says.mk rfl HB5.out
  · rw [if_pos rfl] at HBN HY3
    rw [if_pos rfl]
    have HFI : Hid (∀ c ∈ l, Rm.fillB c.v = true ∧ Wm.inR c.col ∧ Wm.inR c.v.n) := fun c hc => ⟨Rm.rgt_fill hQ.symm c hc, (HI.out c hc).col, (HI.out c hc).n⟩
    have HPS := Lib.hid (put_small HFI.out h50)
    have hbs : bn ≤ 14000 := by rw [HBN.out]; exact HPS.out
    go_wp2_with fail
    refine HRR.out.mono ?_
    rintro e w4 ⟨rfl, hb⟩
    have HB4 := Lib.hid (HB3.out.trans (hb.mono HB3.out.size))
    have HE4 := Lib.hid (HE3.out.keep hb)
    have HV4 := Lib.hid (HV3.out.keep hb)
    have HY4 := Lib.hid (HY3.out.keep hb)
    clear hb HRR HB3 HE3 HV3 HY3 hQ
    have HPA := Lib.hid (row_parse ba bn bc2 _ w4 HE4.out HY4.out (by omega))
    rw [Rm.parse_put HQ.out.symm (fun c hc => (HFI.out c hc).2) (by omega)] at HPA
    go_wp2_with fail
    refine HPA.out.mono ?_
    rintro e w5 ⟨xa, xn, xc, rfl, hxn, hxs, hb⟩
    have hso : (some l).isSome = true := rfl
    rw [hso]
    replace hxs : Rs (.slice xa xn xc) l w5 := hxs
    have S5 : Hid (Pq w (.slice a n cap) l (.slice ba bn bc2) (Rm.put l) (.slice xa xn xc) w5) := ⟨HV4.out.keep hb, HY4.out.keep hb, hxs, HE4.out.keep hb, HB4.out.trans (hb.mono HB4.out.size)⟩
    clear hb hxs hxn hso HPA HB4 HE4 HV4 HY4
    obtain ⟨T, hT⟩ : ∃ T, T = bstr (Rm.put l) := ⟨_, rfl⟩
    have hTz : T.size ≤ 14000 := by rw [hT, bstr_size]; exact HPS.out
    have HT := Lib.hid hT
    have HCA : Hid (∀ W, Pq w (.slice a n cap) l (.slice ba bn bc2) (Rm.put l) (.slice xa xn xc) W → Calls Tryd.prog 11 #[.slice a n cap] W (Says true W)) := fun W h => by
      have := row_right a n cap l W h.env h.r HMX.out (fun c hc => (HI.out c hc).s)
      rwa [← HQ.out] at this
    have HCB : Hid (∀ W, Pq w (.slice a n cap) l (.slice ba bn bc2) (Rm.put l) (.slice xa xn xc) W → Calls Tryd.prog 13 #[.slice a n cap] W fun e w' => e = .returned (.string T) ∧ Below W.heap.size W w') := fun W h => by
      rw [hT]; exact ref_put11 a n cap l W h.r (by omega) HFI.out
    have HCC : Hid (∀ W, Pq w (.slice a n cap) l (.slice ba bn bc2) (Rm.put l) (.slice xa xn xc) W → Calls Tryd.prog 14 #[.slice xa xn xc, .slice a n cap] W (Says true W)) := fun W h => by
      have := ref_same11 xa a xn n xc cap l l W h.x h.r (by unfold maxLen; omega) (by unfold maxLen; omega)
      rwa [decide_eq_true (rfl : l = l)] at this
    have hqq : (T.toList == T.toList) = true := by simp
    clear hT h50 HFI HPS HQ HNL HMX HI
    go_upto_region 9 with (fail)
    have S0 := Lib.hid (S5.out.keep (below_dr11 w5))
    have K0 := Lib.hid (S0.out.cv HT.out)
    clear S5
    go_region_held3 (fun w' => (convert 25 9 (.slice ba bn bc2)).run Tryd.prog w' = .ok (.string T) w')
      (first | exact K0.out | exact K1.out | exact K2.out | exact K3.out)
      (first
      | (go_at_call 11; refine (HCA.out _ S0.out).mono ?_; rintro e wa ⟨rfl, hba⟩; have S1 := Lib.hid (S0.out.keep hba); have K1 := Lib.hid (S1.out.cv HT.out); clear hba)
      | (go_at_call 13; refine (HCB.out _ S1.out).mono ?_; rintro e wb ⟨rfl, hbb⟩; have S2 := Lib.hid (S1.out.keep hbb); have K2 := Lib.hid (S2.out.cv HT.out); clear hbb)
      | (go_at_call 14; refine (HCC.out _ S2.out).mono ?_; rintro e wc ⟨rfl, hbc⟩; have S3 := Lib.hid (S2.out.keep hbc); have K3 := Lib.hid (S3.out.cv HT.out); clear hbc))
    all_goals
      go_wp2
      go_ret
      exact Says.mk (by first | rfl | simp) S3.out.bel
end Go.Proofs.YtmipomglbccjbaaDoor
