/- RowParses walked. -/
import Derived.Test.YtmipomglbccjbaaDoorRowW0
import Derived.Test.YtmipomglbccjbaaDoorRowGb
import Derived.Test.YtmipomglbccjbaaDoorRowRp
namespace Go.Proofs.YtmipomglbccjbaaDoor
open Go.RowKit

set_option maxHeartbeats 4000000 in
set_option maxRecDepth 100000 in
theorem walk_parses11 (a : Option Addr) (n cap : Nat) (l : List UInt8) (w : World) (he : EnvV w) (hv : Yt (.slice a n cap) l w) (hn : n ≤ maxLen) :
    Calls Tryd.prog 4 #[.slice a n cap] w (Says true w) := by
  have hnl := hv.len11
  have HE := Lib.hid he
  have HV := Lib.hid hv
  unfold maxLen at hn
  have HNL := Lib.hid hnl
  have HF := Lib.hid (first11_true w he)
  clear he hv hnl
  go_enter Tryd.func4, Tryd.ntmps4
  go_wp2_with fail
  refine HF.out.mono ?_
  rintro e w1 ⟨rfl, hb⟩
  have HB1 := Lib.hid hb
  have HE1 := Lib.hid (HE.out.keep hb)
  have HV1 := Lib.hid (HV.out.keep hb)
  clear hb HE HV HF
  by_cases hbig : 1000 < n
  · have hbigI : (1000 : Int) < (n : Int) := by omega
    go_wp2
    go_ret
    exact Says.mk rfl HB1.out
  have hbigI : ¬ (1000 : Int) < (n : Int) := by omega
  have HP := Lib.hid (row_parse a n cap l w1 HE1.out HV1.out (by omega))
  obtain ⟨p, hp⟩ : ∃ p, p = Rm.cpar l := ⟨_, rfl⟩
  rw [← hp] at HP
  have HPP : Hid (Rm.rpar l = p) := by show _ = _; rw [hp, Rm.par_eq]
  clear hp
  go_wp2_with fail
  refine HP.out.mono ?_
  rintro e w2 ⟨ra, rn, rc, rfl, hrn, hrs, hb⟩
  have HB2 := Lib.hid (HB1.out.trans (hb.mono HB1.out.size))
  have HE2 := Lib.hid (HE1.out.keep hb)
  have HV2 := Lib.hid (HV1.out.keep hb)
  have HRS2 := Lib.hid hrs
  have HRN := Lib.hid hrn
  clear hb hrs hrn HP HB1 HE1 HV1
  have HQ := Lib.hid (ref_parse11 a n cap l w2 HV2.out (by omega))
  rw [HPP.out] at HQ
  go_wp2_with fail
  refine HQ.out.mono ?_
  rintro e w3 ⟨xa, xn, xc, rfl, hxn, hxs, hb⟩
  have HB3 := Lib.hid (HB2.out.trans (hb.mono HB2.out.size))
  have HRS3 := Lib.hid (HRS2.out.keep hb)
  have HXS3 := Lib.hid hxs
  have hbl : (p.getD []).length ≤ maxLen := by
    unfold maxLen
    rw [← HRN.out]
    rcases HRS2.out with ⟨_, _, e, _⟩ | ⟨g, off, cap', e, hc, hg, hcell⟩
    · injection e with _ e _; omega
    · injection e with _ e e3
      rcases p with _ | ps
      · simp at e; omega
      · simp only [Option.getD_some] at e hcell
        have h0 : (Rm.rpar l) = some ps := HPP.out
        unfold Rm.rpar at h0
        rcases hr : Rm.rnum l with _ | ⟨N, l1⟩
        · rw [hr] at h0; cases h0
        · rw [hr] at h0; dsimp only at h0
          split at h0
          · cases h0
          · rcases hq : Rm.rcells N.toNat l1 with _ | ⟨cs, l2⟩
            · rw [hq] at h0; cases h0
            · rw [hq] at h0; dsimp only at h0
              split at h0
              · injection h0 with h0; subst h0
                have := Rm.rcells_len _ _ _ _ hq
                have := (Rm.rnum_len hr).1
                have := HNL.out
                omega
              · cases h0
  have HSM := Lib.hid (ref_same11 ra xa rn xn rc xc _ _ w3 HRS3.out HXS3.out hbl hbl)
  have hdt : decide (p.getD [] = p.getD []) = true := decide_eq_true rfl
  rw [hdt] at HSM
  have hbe : ∀ b : Bool, (b == b) = true := fun b => by cases b <;> rfl
  obtain ⟨pb, hpb⟩ : ∃ pb, pb = p.isSome := ⟨_, rfl⟩
  rw [← hpb]
  clear hb hxs hdt hbl hxn HQ HB2 HE2 HV2 HRS2 HRS3 HXS3 hpb HRN HPP HNL
  cases pb
  all_goals
    go_wp2_with fail
    refine HSM.out.mono ?_
    rintro e w4 ⟨rfl, hb⟩
    have HB4 := Lib.hid (HB3.out.trans (hb.mono HB3.out.size))
    clear hb HSM HB3
    go_wp2
    go_ret
    exact Says.mk rfl HB4.out
end Go.Proofs.YtmipomglbccjbaaDoor
