/- first: what must be answered ahead of everything else. -/
import Derived.Test.YtgkjgaelclfffaaDoorDecA8
import Derived.Test.YtgkjgaelclfffaaDoorDecA10
import Derived.Test.YtgkjgaelclfffaaDoorDecP4
namespace Go.Proofs.YtgkjgaelclfffaaDoor
open Go.RowKit

theorem f_parse : Pm.parseM (⟨#[45, 49, 46, 53, 48]⟩ : ByteArray).data.toList = (-150, 2, true) := by decide +kernel
theorem f_resc : mulM (-25) 1 1 0 0 = (-3, 0) := by decide +kernel
theorem f_mul : mulM 15 1 15 1 1 = (23, 0) := by decide +kernel
theorem f_div : divM 1 0 3 0 2 = (33, 0) := by decide +kernel
theorem f_div0 : divM 1 0 0 0 0 = (0, 21) := by decide +kernel
theorem f_print : printM (-5) 2 = [45, 48, 46, 48, 53] := by
  have h : Lib.decDigits 5 = [53] := by rw [Lib.decDigits, dif_pos (by omega)]; rfl
  have hp : padD 5 2 = [48, 48, 53] := by unfold padD; rw [h]; rfl
  unfold printM
  rw [if_pos (by decide), if_pos (by decide)]
  show 45 :: dotD 5 2 = _
  unfold dotD
  rw [if_neg (by decide), hp]; rfl

set_option maxRecDepth 100000 in
set_option maxHeartbeats 1000000 in
theorem first_true (w : World) (he : Env w) : Calls Tryd.prog 12 #[] w fun e w' => e = .returned (.bool true) ∧ Below w.heap.size w w' := by
  have HE := Lib.hid he
  clear he
  go_enter Tryd.func12, Tryd.ntmps12
  go_wp2_with fail
  refine (dec_parse _ _ HE.out (by decide)).mono ?_
  rintro e w1 ⟨rfl, hb⟩
  rw [f_parse]
  have HB := Lib.hid hb; have HE1 := Lib.hid (HE.out.keep hb)
  clear hb HE
  go_wp2_with fail
  refine (dec_rescale _ _ _ _ (by unfold i64; omega)).mono ?_
  rintro e w2 ⟨rfl, hb⟩
  rw [f_resc]
  have HB2 := Lib.hid (HB.out.trans (hb.mono HB.out.size)); have HE2 := Lib.hid (HE1.out.keep hb)
  clear hb HE1 HB
  go_wp2_with fail
  refine (dec_mul _ _ _ _ _ _ (by unfold i64; omega) (by unfold i64; omega)).mono ?_
  rintro e w3 ⟨rfl, hb⟩
  rw [f_mul]
  have HB3 := Lib.hid (HB2.out.trans (hb.mono HB2.out.size)); have HE3 := Lib.hid (HE2.out.keep hb)
  clear hb HE2 HB2
  go_wp2_with fail
  refine (dec_div _ _ _ _ _ _ (by unfold i64; omega) (by unfold i64; omega)).mono ?_
  rintro e w4 ⟨rfl, hb⟩
  rw [f_div]
  have HB4 := Lib.hid (HB3.out.trans (hb.mono HB3.out.size)); have HE4 := Lib.hid (HE3.out.keep hb)
  clear hb HE3 HB3
  go_wp2_with fail
  refine (dec_div _ _ _ _ _ _ (by unfold i64; omega) (by unfold i64; omega)).mono ?_
  rintro e w5 ⟨rfl, hb⟩
  rw [f_div0]
  have HB5 := Lib.hid (HB4.out.trans (hb.mono HB4.out.size)); have HE5 := Lib.hid (HE4.out.keep hb)
  clear hb HE4 HB4
  go_wp2_with fail
  refine (dec_print _ _ _ HE5.out (by unfold i64; omega)).mono ?_
  rintro e w6 ⟨rfl, hb⟩
  rw [f_print]
  have HB6 := Lib.hid (HB5.out.trans (hb.mono HB5.out.size))
  clear hb HE5 HB5
  go_wp2
  go_ret
  refine ⟨?_, HB6.out⟩
  first | rfl | decide
end Go.Proofs.YtgkjgaelclfffaaDoor
