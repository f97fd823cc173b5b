/- The laws of layer 11: long; what must be answered ahead of everything else. -/
import Derived.Test.YtmipomglbccjbaaDoorRowC6
import Derived.Test.YtmipomglbccjbaaDoorRowGd
import Derived.Test.YtmipomglbccjbaaDoorRowGe
namespace Go.Proofs.YtmipomglbccjbaaDoor
open Go.RowKit

/-- what long leaves -/
def LongR (cs : List Rm.C) (w : World) (e : Ending) (w' : World) : Prop :=
  ∃ b, e = .returned (.bool b) ∧ Below w.heap.size w w' ∧ (b = false → cs.length ≤ 50 ∧ ∀ c ∈ cs, c.v.s.size ≤ 500)

set_option maxHeartbeats 1000000 in
set_option maxRecDepth 100000 in
theorem law11_long (a : Option Addr) (n cap : Nat) (cs : List Rm.C) (w : World) (hv : Rs (.slice a n cap) cs w) (hl : n ≤ maxLen) (hi : ∀ c ∈ cs, c.v.s.size ≤ maxLen) :
    Calls Tryd.prog 8 #[.slice a n cap] w (LongR cs w) := by
  have hnl : n = cs.length := by obtain ⟨b, d, e⟩ := hv.form; injection e
  have hn1 : n ≤ cs.length := by omega
  have hn2 : cs.length ≤ n := by omega
  unfold maxLen at hl
  clear hnl
  have HV := Lib.hid hv
  have HI := Lib.hid hi
  clear hv hi
  go_enter Tryd.func8, Tryd.ntmps8
  go_wp2
  go_loopw [7] (fun iv wr => ∃ j : Nat, j ≤ n ∧ iv = .int .i64 (j : Int) ∧ j ≤ 50 ∧ Hid (∀ c ∈ cs.take j, c.v.s.size ≤ 500) ∧ Hid (Below w.heap.size w wr)) (fun iv _ => n - (Lib.intOf iv).toNat)
  case atStart => exact ⟨0, by omega, rfl, by omega, fun c hc => by simp at hc, Below.refl _ _⟩
  case round =>
    obtain ⟨j, hj, rfl, hj50, HA, HB⟩ := hrel
    have hwr := HB.out.size
    by_cases hlt : j < n
    · have hjl : j < cs.length := by omega
      obtain ⟨g, off, ha, -, hg, hb⟩ := (HV.out.keep HB.out).at j hjl
      obtain ⟨c, hc⟩ : ∃ c, c = cs[j] := ⟨_, rfl⟩
      rw [← hc] at hb
      have hci := HI.out c (by rw [hc]; exact List.getElem_mem hjl)
      have HT : Hid (c.v.s.size ≤ 500 → ∀ d ∈ cs.take (j + 1), d.v.s.size ≤ 500) := by
        intro h d hd
        rw [← List.take_append_getElem hjl, ← hc, List.mem_append, List.mem_singleton] at hd
        rcases hd with hd | rfl
        · exact HA.out d hd
        · exact h
      unfold maxLen at hci
      clear hc
      subst ha
      obtain ⟨cl, ck, cn, cc, cz⟩ := c
      obtain ⟨c0, c1, c2, c3, c4⟩ := hb
      dsimp only at c0 c1 c2 c3 c4 HT hci
      have HB2 := Lib.hid (HB.out.alloc HB.out.size (.cells #[.int .i64 cl, .int .i64 ck, .int .i64 cn, .int .i64 cc, .string cz] 38))
      by_cases h20 : j = 50
      · have q : decide ((j : Int) < 50) = false := by simp; omega
        have q2 : (50 : Int) ≤ (j : Int) := by omega
        clear h20 hj50
        go_wp2
        go_ret
        exact ⟨true, rfl, HB2.out, fun h => by cases h⟩
      · have q2 : (j : Int) < 50 := by omega
        by_cases h5 : cz.size ≤ 500
        · have hz : (cz.size : Int) ≤ 500 := by omega
          have HA2 := Lib.hid (HT.out h5)
          clear h5 HT HA
          go_wp2
          go_roundw
          case rel => exact ⟨j + 1, by omega, by go_num, by omega, HA2, HB2⟩
          case measure => simp [Lib.intOf]; omega
        · have hz : (500 : Int) < (cz.size : Int) := by omega
          clear h5 HT
          go_wp2
          go_ret
          exact ⟨true, rfl, HB2.out, fun h => by cases h⟩
    · have hjn : j = cs.length := by omega
      have HF : Hid (cs.length ≤ 50 ∧ ∀ c ∈ cs, c.v.s.size ≤ 500) := by
        refine ⟨by omega, ?_⟩
        have := HA.out
        rw [hjn, List.take_length] at this; exact this
      clear hjn HA
      go_wp2
      go_ret
      exact ⟨false, rfl, HB.out, fun _ => HF.out⟩


abbrev va : Vm.Cl := ⟨4, 0, 0, ⟨#[97]⟩⟩
theorem va_fill : Rm.fillB va = true := by
  have h : Lib.validD [97] = true := by rw [Lib.validD_cons _ _ (by decide)]; rfl
  have hr : Vm.rightB va = true := by
    unfold Vm.rightB
    simp only [Int.reduceEq, if_false, if_true, decide_true, Bool.true_and]
    rw [h]; rfl
  unfold Rm.fillB
  rw [hr]; rfl
theorem set_va : Rm.set 2 va [] = [⟨2, va⟩] := by
  unfold Rm.set
  rw [if_neg (by decide), Rm.ins, Rm.one, va_fill]; rfl
theorem right_va : Rm.right [⟨2, va⟩] = true := by
  unfold Rm.right
  rw [Rm.rgt, Rm.rgt, va_fill]; rfl
theorem put_va : Rm.put [⟨2, va⟩] = [1, 1, 1, 2, 1, 4, 1, 1, 97] := by decide +kernel
theorem par_va : Rm.cpar [1, 1, 1, 2, 1, 4, 1, 1, 97] = some [⟨2, va⟩] := by
  have h := Rm.parse_put right_va (fun c hc => by rw [List.mem_singleton] at hc; subst hc; exact ⟨by show Wm.inR 2; unfold Wm.inR; omega, by show Wm.inR 0; unfold Wm.inR; omega⟩) (by decide)
  rw [put_va] at h; exact h
theorem get_va2 : Rm.get 2 [⟨2, va⟩] = va := by rw [Rm.get, if_pos rfl]
theorem get_va3 : Rm.get 3 [⟨2, va⟩] = Vm.nil := by rw [Rm.get, if_neg (by decide)]; rfl
theorem set_vn : Rm.set 2 Vm.nil [⟨2, va⟩] = [] := by
  unfold Rm.set
  rw [if_neg (by decide), Rm.ins, if_neg (by decide), Rm.one, show Rm.fillB Vm.nil = false from rfl, Rm.rst, if_pos rfl]; rfl
theorem field_k (k n sc : Int) (s : ByteArray) (w : World) : (Instr.field 36 (.agg #[.int .i64 k, .int .i64 n, .int .i64 sc, .string s]) 0).run Tryd.prog w = .ok (.int .i64 k) w := by kernel_rfl
theorem field_s (k n sc : Int) (s : ByteArray) (w : World) : (Instr.field 36 (.agg #[.int .i64 k, .int .i64 n, .int .i64 sc, .string s]) 3).run Tryd.prog w = .ok (.string s) w := by kernel_rfl
theorem va_sz : (⟨#[97]⟩ : ByteArray).size = 1 := rfl
theorem mx1 : (1 : Nat) ≤ maxLen := by unfold maxLen; decide

set_option maxHeartbeats 4000000 in
set_option maxRecDepth 100000 in
theorem first11_true (w : World) (he : EnvV w) : Calls Tryd.prog 7 #[] w (Says true w) := by
  have hfk := field_k; have hfs := field_s
  have HE := Lib.hid he
  have HS1 := Lib.hid (row_set none 0 0 [] 2 va w he (.inl ⟨_, _, rfl, rfl⟩) (by decide) (by rw [va_sz]; exact mx1))
  rw [set_va] at HS1
  clear he
  go_enter Tryd.func7, Tryd.ntmps7
  go_wp2_with fail
  refine HS1.out.mono ?_
  rintro e w1 ⟨ra, rn, rc, rfl, hrn, hrs, hb⟩
  replace hrn : rn = 1 := hrn
  subst hrn
  have HB1 := Lib.hid hb
  have HE1 := Lib.hid (HE.out.keep hb)
  have HRS1 := Lib.hid hrs
  clear hb hrs HS1 HE
  have HP := Lib.hid (row_put ra 1 rc [⟨2, va⟩] w1 HE1.out HRS1.out (by decide) (fun c hc => by rw [List.mem_singleton] at hc; subst hc; exact ⟨by show Wm.inR 2; unfold Wm.inR; omega, by show Wm.inR 0; unfold Wm.inR; omega, by show (⟨#[97]⟩ : ByteArray).size ≤ maxLen; rw [va_sz]; exact mx1⟩))
  go_wp2_with fail
  refine HP.out.mono ?_
  rintro e w2 ⟨ba, bn, bc2, rfl, hbn, hby, hb⟩
  rw [right_va, if_pos rfl, put_va] at hbn hby
  rw [right_va, if_pos rfl]
  replace hbn : bn = 9 := hbn
  subst hbn
  have HB2 := Lib.hid (HB1.out.trans (hb.mono HB1.out.size))
  have HE2 := Lib.hid (HE1.out.keep hb)
  have HRS2 := Lib.hid (HRS1.out.keep hb)
  have HY2 := Lib.hid hby
  clear hb hby HP HB1 HE1 HRS1
  have HPA := Lib.hid (row_parse ba 9 bc2 _ w2 HE2.out HY2.out (by decide))
  rw [par_va] at HPA
  go_wp2_with fail
  refine HPA.out.mono ?_
  rintro e w3 ⟨xa, xn, xc, rfl, hxn, hxs, hb⟩
  replace hxn : xn = 1 := hxn
  replace hxs : Rs (.slice xa xn xc) [⟨2, va⟩] w3 := hxs
  subst hxn
  have HB3 := Lib.hid (HB2.out.trans (hb.mono HB2.out.size))
  have HE3 := Lib.hid (HE2.out.keep hb)
  have HRS3 := Lib.hid (HRS2.out.keep hb)
  have HXS3 := Lib.hid hxs
  have hcv := (HY2.out.keep hb).str
  rw [show bstr [1, 1, 1, 2, 1, 4, 1, 1, 97] = ⟨#[1, 1, 1, 2, 1, 4, 1, 1, 97]⟩ from rfl] at hcv
  have hso : (some [(⟨2, va⟩ : Rm.C)]).isSome = true := rfl
  rw [hso]
  clear hb hxs HPA HB2 HE2 HRS2 HY2 hso
  have HSM := Lib.hid (row_same xa ra 1 1 xc rc _ _ w3 HXS3.out HRS3.out mx1 mx1)
  have hdt : decide ([(⟨2, va⟩ : Rm.C)] = [⟨2, va⟩]) = true := decide_eq_true rfl
  rw [hdt] at HSM
  go_wp2_with fail
  refine HSM.out.mono ?_
  rintro e w4 ⟨rfl, hb⟩
  have HB4 := Lib.hid (HB3.out.trans (hb.mono HB3.out.size))
  have HE4 := Lib.hid (HE3.out.keep hb)
  have HRS4 := Lib.hid (HRS3.out.keep hb)
  have HXS4 := Lib.hid (HXS3.out.keep hb)
  clear hb hdt HSM HB3 HE3 HRS3 HXS3 hcv
  have HG2 := Lib.hid (row_get xa 1 xc _ 2 w4 HXS4.out mx1)
  rw [get_va2] at HG2
  go_wp2_with fail
  refine HG2.out.mono ?_
  rintro e w5 ⟨rfl, hb⟩
  have HB5 := Lib.hid (HB4.out.trans (hb.mono HB4.out.size))
  have HE5 := Lib.hid (HE4.out.keep hb)
  have HRS5 := Lib.hid (HRS4.out.keep hb)
  have HXS5 := Lib.hid (HXS4.out.keep hb)
  clear hb HG2 HB4 HE4 HRS4 HXS4
  have HG3 := Lib.hid (row_get xa 1 xc _ 3 w5 HXS5.out mx1)
  rw [get_va3] at HG3
  dsimp only [va]
  go_wp2_with fail
  refine HG3.out.mono ?_
  rintro e w6 ⟨rfl, hb⟩
  have HB6 := Lib.hid (HB5.out.trans (hb.mono HB5.out.size))
  have HE6 := Lib.hid (HE5.out.keep hb)
  have HRS6 := Lib.hid (HRS5.out.keep hb)
  clear hb HG3 HB5 HE5 HRS5 HXS5
  have HS2 := Lib.hid (row_set ra 1 rc _ 2 Vm.nil w6 HE6.out HRS6.out (by decide) (Nat.zero_le _))
  rw [set_vn] at HS2
  dsimp only [Vm.nil] at HS2 ⊢
  go_wp2_with fail
  refine HS2.out.mono ?_
  rintro e w7 ⟨ya, yn, yc2, rfl, hyn, -, hb⟩
  replace hyn : yn = 0 := hyn
  subst hyn
  have HB7 := Lib.hid (HB6.out.trans (hb.mono HB6.out.size))
  clear hb HS2 HB6 HE6 HRS6
  go_wp2
  go_ret
  exact Says.mk (by first | rfl | decide) HB7.out
end Go.Proofs.YtmipomglbccjbaaDoor
