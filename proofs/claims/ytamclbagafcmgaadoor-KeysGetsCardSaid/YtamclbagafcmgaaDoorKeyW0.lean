/- The laws of layer 5: what must be answered ahead of everything else. -/
import Derived.Test.YtamclbagafcmgaaDoorKeyRef6
import Derived.Test.YtamclbagafcmgaaDoorKeyRef3
import Derived.Lib.SlBytesConst
import Derived.Lib.SmallJoins
namespace Go.Proofs.YtamclbagafcmgaaDoor
open Go.RowKit

theorem yt_mark (w : World) (l : List UInt8) (n : Nat) (C : Array Value) (fr : Nat × Nat) (h : C.toList = yc l) (hn : n = l.length) : Yt (.slice (some ⟨w.heap.size, 0, none⟩) n n) l (w.alloc (.cells C 5 fr)) := by
  subst hn
  refine .inr ⟨w.heap.size, 0, l.length, rfl, Nat.le_refl _, by simp, fun j hj => ?_⟩
  rw [Nat.zero_add, World.cell?_alloc_mark, ← Array.getElem?_toList, h, yc_get]
  simp [List.getD, hj]
theorem r_one : Vm.rightB ⟨4, 0, 0, ⟨#[97, 0]⟩⟩ = true := by
  have h : Lib.validD [97, 0] = true := by rw [Lib.validD_cons _ _ (by decide), Lib.validD_cons _ _ (by decide)]; rfl
  unfold Vm.rightB
  simp only [Int.reduceEq, if_false, if_true, decide_true, Bool.true_and]
  rw [h]; rfl
theorem g_one : Vm.get [4, 97, 0, 255, 0, 1, 0] = some [⟨4, 0, 0, ⟨#[97, 0]⟩⟩, Vm.nil] := by
  have h := Vm.get_put [⟨4, 0, 0, ⟨#[97, 0]⟩⟩, Vm.nil] (by
    intro c hc
    simp only [List.mem_cons, List.not_mem_nil, or_false] at hc
    rcases hc with rfl | rfl
    · exact ⟨r_one, Vm.i64_z⟩
    · exact ⟨rfl, Vm.i64_z⟩)
  have e : Vm.put [⟨4, 0, 0, ⟨#[97, 0]⟩⟩, Vm.nil] = [4, 97, 0, 255, 0, 1, 0] := by
    rw [Vm.put, Vm.put, Vm.put]
    unfold Vm.plain
    rw [r_one]
    decide +kernel
  rw [e] at h
  exact h
theorem g_two : Vm.get [4, 97, 0, 2] = none := by
  show Vm.getF 4 [4, 97, 0, 2] = none
  rw [Vm.getF]
  have : Vm.next [4, 97, 0, 2] = none := Vm.next_tn 4 (.inl rfl) _ (by decide +kernel)
  rw [this]
theorem p_one : Vm.put [⟨2, 1, 0, ⟨#[]⟩⟩] = [2, 128, 0, 0, 0, 0, 0, 0, 1] := by decide +kernel
theorem a_one : Vm.above [97, 255] = [98] := by decide +kernel

set_option maxHeartbeats 2000000 in
set_option maxRecDepth 100000 in
theorem first5_true (V : KeyCon) (w : World) (he : EnvV w) : Calls Tryd.prog 8 #[] w (Says true w) := by
  have HE := Lib.hid he
  clear he
  have kc := fun (w : World) (C : Array Value) (n c : Nat) => Lib.run_convert_bytes_const (P := Tryd.prog) w 25 5 C n c Tryd.underlying25 Tryd.underlying5
  go_enter Tryd.func8, Tryd.ntmps8
  go_wp2_with fail
  have hb0 : Below w.heap.size w (w.alloc (.cells #[.int .u8 4, .int .u8 97, .int .u8 0, .int .u8 255, .int .u8 0, .int .u8 1, .int .u8 0] 5 (7, 8))) := (Below.refl _ _).alloc (Nat.le_refl _) _
  refine (V.get _ _ _ [4, 97, 0, 255, 0, 1, 0] _ (HE.out.keep hb0) (yt_mark w _ 7 _ _ rfl rfl) (by decide)).mono ?_
  rintro e w1 ⟨a, n, cap, l, rfl, rfl, rfl, hv, hb⟩
  rw [g_one] at hv ⊢
  have HB1 := Lib.hid (hb0.trans (hb.mono hb0.size))
  have HV1 := Lib.hid hv
  clear hb hb0 hv
  dsimp only [Option.getD, Option.isSome, List.length]
  have HE1 := Lib.hid (HE.out.keep HB1.out)
  go_wp2_with fail
  have hb0 : Below w1.heap.size w1 (w1.alloc (.cells #[.int .u8 4, .int .u8 97, .int .u8 0, .int .u8 2] 5 (4, 5))) := (Below.refl _ _).alloc (Nat.le_refl _) _
  refine (V.get _ _ _ [4, 97, 0, 2] _ (HE1.out.keep hb0) (yt_mark w1 _ 4 _ _ rfl rfl) (by decide)).mono ?_
  rintro e w2 ⟨b, m, cap2, l2, rfl, rfl, rfl, -, hb⟩
  rw [g_two]
  have hb1 := hb0.trans (hb.mono hb0.size)
  have HB2 := Lib.hid (HB1.out.trans (hb1.mono HB1.out.size))
  have HV2 := Lib.hid (HV1.out.keep hb1)
  have HE2 := Lib.hid (HE1.out.keep hb1)
  clear hb hb0 hb1 HB1 HV1 HE1
  dsimp only [Option.getD, Option.isSome, List.length]
  go_wp2_with fail
  have hb0 : Below w2.heap.size w2 (w2.alloc (.cells #[.int .i64 2, .int .i64 1, .int .i64 0, .string ⟨#[]⟩] 29)) := (Below.refl _ _).alloc (Nat.le_refl _) _
  refine (V.put _ _ _ [⟨2, 1, 0, ⟨#[]⟩⟩] _ (HE2.out.keep hb0) (Vs.of_own (own_litv w2 ⟨2, 1, 0, ⟨#[]⟩⟩ 0 (Nat.zero_le _))) (by decide) (by intro c hc; simp at hc; subst hc; exact ⟨⟨by decide, by decide⟩, by decide⟩)).mono ?_
  rintro e w3 ⟨c, m3, cap3, rfl, hm3, hy, hb⟩
  rw [p_one] at hy hm3
  replace hm3 : m3 = 9 := hm3
  subst hm3
  have hb1 := hb0.trans (hb.mono hb0.size)
  have HB3 := Lib.hid (HB2.out.trans (hb1.mono HB2.out.size))
  have HV3 := Lib.hid (HV2.out.keep hb1)
  have HE3 := Lib.hid (HE2.out.keep hb1)
  have hcv := hy.str
  rw [show bstr [2, 128, 0, 0, 0, 0, 0, 0, 1] = ⟨#[2, 128, 0, 0, 0, 0, 0, 0, 1]⟩ from rfl] at hcv
  obtain ⟨g, off, ha, -, hg, hbx⟩ := HV3.out.at 0 (by decide)
  subst ha
  have c3 : w3.cell? ⟨g, off + 3, none⟩ = some (.string ⟨#[97, 0]⟩) := by
    have h := hbx.c3
    rw [Nat.zero_mul, Nat.add_zero] at h
    exact h
  clear hb hb0 hb1 HB2 HV2 HE2 hy HV3 hbx
  go_wp2_with fail
  have hb0 : Below w3.heap.size w3 (w3.alloc (.cells #[.int .u8 97, .int .u8 255] 5 (2, 3))) := (Below.refl _ _).alloc (Nat.le_refl _) _
  refine (V.above _ _ _ [97, 255] _ (HE3.out.keep hb0) (yt_mark w3 _ 2 _ _ rfl rfl) (by decide)).mono ?_
  rintro e w4 ⟨d, m4, cap4, rfl, hm4, hy, hb⟩
  rw [a_one] at hy hm4
  replace hm4 : m4 = 1 := hm4
  subst hm4
  have hb1 := hb0.trans (hb.mono hb0.size)
  have HB4 := Lib.hid (HB3.out.trans (hb1.mono HB3.out.size))
  have hcv := hy.str
  rw [show bstr [98] = ⟨#[98]⟩ from rfl] at hcv
  clear hb hb0 hb1 HB3 HE3 hy c3
  go_wp2
  go_ret
  exact Says.mk (by first | rfl | decide) HB4.out
end Go.Proofs.YtamclbagafcmgaaDoor
