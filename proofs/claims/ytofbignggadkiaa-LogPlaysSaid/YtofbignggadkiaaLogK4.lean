/- Package log: a frame's sector: frame.block. -/
import Derived.Test.YtofbignggadkiaaLogK3
namespace Go.Proofs.Ytofbignggadkiaa
open Go.RowKit

/-- a frame's sector, piece by piece -/
theorem fsec_fill (ep k : Nat) (last : Bool) (b : List UInt8) (hb : b.length ≤ 46) : ∃ S, splice (splice (splice (splice (splice (List.replicate 64 0) 0 (Lm.be 4 ep)) 4 (Lm.be 4 k)) 8 [if last then 1 else 0]) 9 [UInt8.ofNat b.length]) 10 b = S ∧ S.length = 64 ∧ S.take 56 ++ S.take 8 = Lm.fsec ep k last b := by
  refine ⟨_, rfl, ?_⟩
  have h1 := fillz [] (Lm.be 4 ep) 64 (by rw [Lm.be_length]; decide)
  have h2 := fillz (Lm.be 4 ep) (Lm.be 4 k) 60 (by rw [Lm.be_length]; decide)
  have h3 := fillz (Lm.be 4 ep ++ Lm.be 4 k) [if last then 1 else 0] 56 (by simp)
  have h4 := fillz (Lm.be 4 ep ++ Lm.be 4 k ++ [if last then 1 else 0]) [UInt8.ofNat b.length] 55 (by simp)
  have h5 := fillz (Lm.be 4 ep ++ Lm.be 4 k ++ [if last then 1 else 0] ++ [UInt8.ofNat b.length]) b 54 (by omega)
  simp only [List.length_append, Lm.be_length, List.length_nil, List.nil_append, List.length_cons, Nat.reduceAdd, Nat.reduceSub] at h1 h2 h3 h4 h5
  rw [h1, h2, h3, h4, h5]
  refine ⟨by simp [Lm.be_length]; omega, ?_⟩
  unfold Lm.fsec Lm.pad
  congr 1
  · rw [List.take_append, List.take_of_length_le (by simp [Lm.be_length]; omega), List.take_replicate]
    congr 2
    simp [Lm.be_length]; try omega
set_option maxHeartbeats 4000000 in
set_option maxRecDepth 100000 in
theorem log_fblock (ep k : Nat) (last : Bool) (a : Option Addr) (m c : Nat) (b : List UInt8) (w : World) (he : (ep : Int) ≤ 4294967295) (hk : (k : Int) ≤ 4294967295) (hb : b.length ≤ 46) (hy : Yt (.slice a m c) b w) :
    Calls Try.prog 55 #[.agg #[.int .i64 (ep : Int), .int .i64 (k : Int), .bool last, .slice a m c]] w fun e w' => e = .returned (.agg (yc (Lm.fsec ep k last b)).toArray) ∧ Below w.heap.size w w' := by
  have hm : m = b.length := by obtain ⟨_, _, e⟩ := hy.form; injection e
  have HM := Lib.hid hm; have HY := Lib.hid hy
  have hm32 : m ≤ 46 := by omega
  obtain ⟨z, Z, hz, hZ, hZs⟩ : ∃ (z : Value) (Z : List Value), (∀ w, (zeroValue 93).run Try.prog w = .ok z w) ∧ z.cells = Z.toArray ∧ Z = yc (List.replicate 64 0) := ⟨_, z64.toList, (zero_of_info infoLz).1, (Array.toArray_toList (xs := z64)).symm, by simp [z64, yc]⟩
  have hZl : Z.length = 64 := by rw [hZs, yc_length]; simp
  have HZ := Lib.hid hz; have HZ1 := Lib.hid hZ; have HZS := Lib.hid hZs; have HZL := Lib.hid hZl
  obtain ⟨V, hV⟩ : ∃ V : Array Value, V = #[.int .i64 (ep : Int), .int .i64 (k : Int), .bool last, .slice a m c] := ⟨_, rfl⟩
  have HV := Lib.hid hV
  clear hz hZ hZs hZl hm hy hb hV
  go_enter Try.func55, Try.ntmps55
  go_upto_region 2 with (first
    | (with_reducible refine wpList_alloc_of ?_ 93 ?_ z Z.toArray ?_ ?_ ?_
       · rfl
       · rfl
       · exact HZ.out
       · exact HZ1.out))
  obtain ⟨W0, hW0⟩ : ∃ W0, W0 = ((w.alloc (.cells #[.int .i64 (ep : Int), .int .i64 (k : Int), .bool last, .slice a m c] 99)).alloc (.cells Z.toArray 93)).alloc (.cells Z.toArray 93) := ⟨_, rfl⟩
  have H0 : Hid (Bw w w.heap.size (w.heap.size + 1) (w.heap.size + 2) V 99 Z.toArray Z W0) := by
    rw [hW0, HV.out]
    refine ⟨?_, ?_, ?_, (((Below.refl _ w).alloc (Nat.le_refl _) _).alloc (by simp) _).alloc (by simp; omega) _⟩
    · rw [Below.heap_alloc _ _ _ (by simp; omega), Below.heap_alloc _ _ _ (by simp), heap_alloc_new]
    · rw [Below.heap_alloc _ _ _ (by simp), show w.heap.size + 1 = (w.alloc (.cells #[.int .i64 (ep : Int), .int .i64 (k : Int), .bool last, .slice a m c] 99)).heap.size by simp, heap_alloc_new]
    · rw [show w.heap.size + 2 = ((w.alloc (.cells #[.int .i64 (ep : Int), .int .i64 (k : Int), .bool last, .slice a m c] 99)).alloc (.cells Z.toArray 93)).heap.size by simp, heap_alloc_new]
  have hs1 : (w.alloc (.cells #[.int .i64 (ep : Int), .int .i64 (k : Int), .bool last, .slice a m c] 99)).heap.size = w.heap.size + 1 := by simp
  have hs2 : ((w.alloc (.cells #[.int .i64 (ep : Int), .int .i64 (k : Int), .bool last, .slice a m c] 99)).alloc (.cells Z.toArray 93)).heap.size = w.heap.size + 2 := by simp
  rw [← hW0, hs1, hs2]
  clear hW0 hs1 hs2
  have c0 : W0.cell? ⟨w.heap.size, 0, none⟩ = some (.int .i64 (ep : Int)) := by rw [Lib.cell_of_heap H0.out.h, HV.out]; rfl
  go_upto_region 2 with (fail)
  go_region_with (go_at_call 61; refine (log_put (w.heap.size + 2) 0 4 64 ep Z 93 W0.drew H0.out.drew.g (by rw [HZL.out]; decide) (by decide) (by decide) (by omega)).mono ?_; rintro e w1 ⟨rfl, HG1, HO1⟩)
  have H1 := Lib.hid (H0.out.drew.put HG1 HO1 (by omega) (by omega) (by omega))
  rw [HZS.out, yc_splice] at H1
  clear HG1 HO1 H0 c0
  obtain ⟨S1, hS1⟩ : ∃ S1, S1 = splice (List.replicate 64 0) 0 (Lm.be 4 ep) := ⟨_, rfl⟩
  have hl1 : S1.length = 64 := by rw [hS1, splice_len _ _ _ (by simp [Lm.be_length])]; simp
  rw [← hS1] at H1
  have HS1 := Lib.hid hS1; have HL1 := Lib.hid hl1
  clear hS1 hl1
  have c1 : w1.cell? ⟨w.heap.size, 1, none⟩ = some (.int .i64 (k : Int)) := by rw [Lib.cell_of_heap H1.out.h, HV.out]; rfl
  go_upto_region 3 with (fail)
  go_region_with (go_at_call 61; refine (log_put (w.heap.size + 2) 4 4 60 k (yc S1) 93 w1.drew H1.out.drew.g (by rw [yc_length, HL1.out]; decide) (by decide) (by decide) (by omega)).mono ?_; rintro e w3 ⟨rfl, HG2, HO2⟩)
  have H3 := Lib.hid (H1.out.drew.put HG2 HO2 (by omega) (by omega) (by omega))
  rw [yc_splice] at H3
  clear HG2 HO2 H1 c1
  obtain ⟨S2, hS2⟩ : ∃ S2, S2 = splice S1 4 (Lm.be 4 k) := ⟨_, rfl⟩
  have hl2 : S2.length = 64 := by rw [hS2, splice_len _ _ _ (by rw [HL1.out]; simp [Lm.be_length])]; exact HL1.out
  rw [← hS2] at H3
  have HS2 := Lib.hid hS2; have HL2 := Lib.hid hl2
  clear hS2
  have l2 : w3.cell? ⟨w.heap.size, 2, none⟩ = some (.bool last) := by rw [Lib.cell_of_heap H3.out.h, HV.out]; rfl
  have g8 : w3.cell? ⟨w.heap.size + 2, 8, none⟩ = some (.int .u8 ((S2.getD 8 0).toNat : Int)) := by
    rw [Lib.cell_of_heap H3.out.g, List.getElem?_toArray, yc_get]; simp [List.getD, hl2]
  have f8 := Lib.frozen_of_heap H3.out.g 8
  have hgl := heap_lt H3.out.g
  cases last with
  | false =>
    obtain ⟨W3, hW3⟩ : ∃ W3, W3 = w3 := ⟨_, rfl⟩
    obtain ⟨S3, hS3⟩ : ∃ S3, S3 = splice S2 8 [if false then (1 : UInt8) else 0] := ⟨_, rfl⟩
    have H3b : Hid (Bw w w.heap.size (w.heap.size + 1) (w.heap.size + 2) V 99 (yc (List.replicate 64 0)).toArray (yc S3) W3) := by
      have e : S3 = S2 := by
        rw [hS3, HS2.out, HS1.out]
        have h1 := fillz [] (Lm.be 4 ep) 64 (by rw [Lm.be_length]; decide)
        have h2 := fillz (Lm.be 4 ep) (Lm.be 4 k) 60 (by rw [Lm.be_length]; decide)
        have h3 := fillz (Lm.be 4 ep ++ Lm.be 4 k) [if false then 1 else 0] 56 (by simp)
        simp only [List.length_append, Lm.be_length, List.length_nil, List.nil_append, List.length_cons, Nat.reduceAdd, Nat.reduceSub] at h1 h2 h3
        rw [h1, h2, h3, List.append_assoc (Lm.be 4 ep ++ Lm.be 4 k)]
        rfl
      rw [hW3, e]; exact H3.out
    go_upto_region 6 with (fail)
    rw [← hW3]
    have hl3 : S3.length = 64 := by rw [hS3, splice_len _ _ _ (by rw [HL2.out]; simp)]; exact HL2.out
    have HS3 := Lib.hid hS3; have HL3 := Lib.hid hl3
    clear hW3 H3 l2 g8 f8 hgl hS3
    have c3 : W3.cell? ⟨w.heap.size, 3, none⟩ = some (.slice a m c) := by rw [Lib.cell_of_heap H3b.out.h, HV.out]; rfl
    have g9 : W3.cell? ⟨w.heap.size + 2, 9, none⟩ = some (.int .u8 ((S3.getD 9 0).toNat : Int)) := by
      rw [Lib.cell_of_heap H3b.out.g, List.getElem?_toArray, yc_get]; simp [List.getD, hl3]
    have f9 := Lib.frozen_of_heap H3b.out.g 9
    have hgl := heap_lt H3b.out.g
    have hw8 : IntKind.u8.wrap (m : Int) = (m : Int) := by rw [IntKind.wrap_u8]; omega
    have hw9 : (m : Int) % 256 = (m : Int) := by omega
    clear hl3
    go_upto_region 7 with (fail)
    obtain ⟨x, hx⟩ : ∃ x : UInt8, x = UInt8.ofNat m := ⟨_, rfl⟩
    have hxm : (x.toNat : Int) = (m : Int) := by rw [hx, UInt8.toNat_ofNat']; omega
    obtain ⟨S4, hS4⟩ : ∃ S4, S4 = splice S3 9 [x] := ⟨_, rfl⟩
    have hl4 : S4.length = 64 := by rw [hS4, splice_len _ _ _ (by rw [HL3.out]; simp)]; exact HL3.out
    obtain ⟨W4, hW4⟩ : ∃ W4, W4 = W3.setCell ⟨w.heap.size + 2, 9, none⟩ (.int .u8 (m : Int)) := ⟨_, rfl⟩
    have H4 : Hid (Bw w w.heap.size (w.heap.size + 1) (w.heap.size + 2) V 99 (yc (List.replicate 64 0)).toArray (yc S4) W4) := by
      rw [hW4]
      refine H3b.out.put ?_ (Only.setCell (p := fun k => k = w.heap.size + 2) (Only.refl _ W3) (q := ⟨w.heap.size + 2, 9, none⟩) (.inl rfl) _) (by omega) (by omega) (by omega)
      rw [heap_setCell_same _ _ _ _ _ _ H3b.out.g, ← hxm, List.setIfInBounds_toArray, yc_set _ _ _ (by rw [HL3.out]; decide), hS4]
    rw [← hW4]
    have HS4 := Lib.hid hS4; have HL4 := Lib.hid hl4; have HX := Lib.hid hx
    clear hW4 H3b c3 g9 f9 hgl hw8 hw9 hS4 hl4 hx hxm
    have c4 : W4.cell? ⟨w.heap.size, 3, none⟩ = some (.slice a m c) := by rw [Lib.cell_of_heap H4.out.h, HV.out]; rfl
    have HY4 := Lib.hid (HY.out.keep (H4.out.drew.b))
    go_region_law (refine step_copy (by rfl) (.tmp 20) (.tmp 22) 39 39 (by rfl) 5 Try.underlying39 (by kernel_rfl) (some ⟨w.heap.size + 2, 10, none⟩) a 46 54 m c (by rfl) (by rfl) (w.heap.size + 2) 10 (yc S4) 93 H4.out.drew.g (yc b) (by rw [yc_length, ← HM.out]; exact (Nat.min_eq_left (by omega)).symm) (fun h0 => ⟨rfl, yt_pos HY4.out h0⟩) (by rw [yc_length, yc_length, HL4.out, ← HM.out]; omega) (yc_one b) ?_
                   intro w5 HG5 HO5)
    have H5 := Lib.hid (H4.out.drew.put HG5.out HO5.out (by omega) (by omega) (by omega))
    rw [yc_splice] at H5
    obtain ⟨S, hS, hSl, hSe⟩ := fsec_fill ep k false b (by rw [← HM.out]; exact hm32)
    rw [← HS1.out, ← HS2.out, ← HS3.out, ← HM.out, ← HX.out, ← HS4.out] at hS
    rw [hS] at H5
    have HSL := Lib.hid hSl
    obtain ⟨D, hD⟩ : ∃ D, D = yc (S.take 56 ++ S.take 8) := ⟨_, rfl⟩
    have hD1 : D.toArray.all (·.oneCell') = true := by rw [hD]; exact yc_all _
    have hDl : D.length = 64 := by rw [hD, yc_length]; simp; omega
    have HD := Lib.hid hD; have HD1 := Lib.hid hD1; have HDL := Lib.hid hDl
    have HF : Hid (D = yc (Lm.fsec ep k false b)) := by show _ = _; rw [hD, hSe]
    obtain ⟨A, hA⟩ : ∃ A, A = yc S := ⟨_, rfl⟩
    have hAl : A.length = 64 := by rw [hA, yc_length, hSl]
    rw [← hA] at H5
    have HA := Lib.hid hA; have HAL := Lib.hid hAl
    clear HG5 HO5 H4 c4 HY4 hS hSl hSe hD hD1 hDl hA hAl HS1 HS2 HS3 HS4 HL1 HL2 HL3 HL4 HX HZS HZL HZ1 HZ he hk
    go_wp2_with (first
      | (with_reducible refine wpList_load_row ?_ 93 (.tmp 3) ?_ (w.heap.size + 2) ?_ 93 A.toArray (0, 0) (.array 64 5) H5.out.g Try.underlying93 rfl ?_ ?_
         · rfl
         · rfl
         · rfl
         · rw [List.size_toArray, HAL.out]; exact infoL2))
    rw [HA.out]
    refine (log_doubled S w5 HSL.out).mono ?_
    rintro e w6 ⟨rfl, hb6⟩
    rw [← HD.out, ← HA.out]
    have HR6 : Hid (w6.heap[w.heap.size + 1]? = some (.cells (yc (List.replicate 64 0)).toArray 93 (0, 0))) := by
      show _ = _; rw [hb6.block _ (heap_lt H5.out.r)]; exact H5.out.r
    have HB6 := Lib.hid (H5.out.b.trans (hb6.mono H5.out.b.size))
    clear hb6 H5
    go_wp2_with (first
      | (refine wpList_store_row ?_ 93 (.tmp 2) (.tmp 25) ?_ (w.heap.size + 1) D.toArray ?_ ?_ 93 (yc (List.replicate 64 0)).toArray HR6.out ?_ ?_ HD1.out ?_
         · rfl
         · rfl
         · rfl
         · rfl
         · rw [List.size_toArray, HDL.out]; exact infoL2
         · exact HDL.out.symm))
    refine bodyPost_ret (v := .agg D.toArray) ?_ rfl ?_
    · exact results_cell_row rfl _ _ (w.heap.size + 1) 93 D.toArray (0, 0) (.array 64 5) rfl (setRow_heap w6 _ _ _ _ _ HR6.out) Try.underlying93 rfl (by rw [List.size_toArray, HDL.out]; exact infoL2)
    · exact ⟨by rw [HF.out], below_setRow HB6.out (by omega) _⟩
  | true =>
    obtain ⟨W3, hW3⟩ : ∃ W3, W3 = w3.setCell ⟨w.heap.size + 2, 8, none⟩ (.int .u8 1) := ⟨_, rfl⟩
    obtain ⟨S3, hS3⟩ : ∃ S3, S3 = splice S2 8 [if true then (1 : UInt8) else 0] := ⟨_, rfl⟩
    have H3b : Hid (Bw w w.heap.size (w.heap.size + 1) (w.heap.size + 2) V 99 (yc (List.replicate 64 0)).toArray (yc S3) W3) := by
      rw [hW3]
      refine H3.out.put ?_ (Only.setCell (p := fun k => k = w.heap.size + 2) (Only.refl _ w3) (q := ⟨w.heap.size + 2, 8, none⟩) (.inl rfl) _) (by omega) (by omega) (by omega)
      rw [heap_setCell_same _ _ _ _ _ _ H3.out.g, List.setIfInBounds_toArray, hS3, ← yc_set S2 8 _ (by rw [HL2.out]; decide)]
      rfl
    go_upto_region 6 with (fail)
    rw [← hW3]
    have hl3 : S3.length = 64 := by rw [hS3, splice_len _ _ _ (by rw [HL2.out]; simp)]; exact HL2.out
    have HS3 := Lib.hid hS3; have HL3 := Lib.hid hl3
    clear hW3 H3 l2 g8 f8 hgl hS3
    have c3 : W3.cell? ⟨w.heap.size, 3, none⟩ = some (.slice a m c) := by rw [Lib.cell_of_heap H3b.out.h, HV.out]; rfl
    have g9 : W3.cell? ⟨w.heap.size + 2, 9, none⟩ = some (.int .u8 ((S3.getD 9 0).toNat : Int)) := by
      rw [Lib.cell_of_heap H3b.out.g, List.getElem?_toArray, yc_get]; simp [List.getD, hl3]
    have f9 := Lib.frozen_of_heap H3b.out.g 9
    have hgl := heap_lt H3b.out.g
    have hw8 : IntKind.u8.wrap (m : Int) = (m : Int) := by rw [IntKind.wrap_u8]; omega
    have hw9 : (m : Int) % 256 = (m : Int) := by omega
    clear hl3
    go_upto_region 7 with (fail)
    obtain ⟨x, hx⟩ : ∃ x : UInt8, x = UInt8.ofNat m := ⟨_, rfl⟩
    have hxm : (x.toNat : Int) = (m : Int) := by rw [hx, UInt8.toNat_ofNat']; omega
    obtain ⟨S4, hS4⟩ : ∃ S4, S4 = splice S3 9 [x] := ⟨_, rfl⟩
    have hl4 : S4.length = 64 := by rw [hS4, splice_len _ _ _ (by rw [HL3.out]; simp)]; exact HL3.out
    obtain ⟨W4, hW4⟩ : ∃ W4, W4 = W3.setCell ⟨w.heap.size + 2, 9, none⟩ (.int .u8 (m : Int)) := ⟨_, rfl⟩
    have H4 : Hid (Bw w w.heap.size (w.heap.size + 1) (w.heap.size + 2) V 99 (yc (List.replicate 64 0)).toArray (yc S4) W4) := by
      rw [hW4]
      refine H3b.out.put ?_ (Only.setCell (p := fun k => k = w.heap.size + 2) (Only.refl _ W3) (q := ⟨w.heap.size + 2, 9, none⟩) (.inl rfl) _) (by omega) (by omega) (by omega)
      rw [heap_setCell_same _ _ _ _ _ _ H3b.out.g, ← hxm, List.setIfInBounds_toArray, yc_set _ _ _ (by rw [HL3.out]; decide), hS4]
    rw [← hW4]
    have HS4 := Lib.hid hS4; have HL4 := Lib.hid hl4; have HX := Lib.hid hx
    clear hW4 H3b c3 g9 f9 hgl hw8 hw9 hS4 hl4 hx hxm
    have c4 : W4.cell? ⟨w.heap.size, 3, none⟩ = some (.slice a m c) := by rw [Lib.cell_of_heap H4.out.h, HV.out]; rfl
    have HY4 := Lib.hid (HY.out.keep (H4.out.drew.b))
    go_region_law (refine step_copy (by rfl) (.tmp 20) (.tmp 22) 39 39 (by rfl) 5 Try.underlying39 (by kernel_rfl) (some ⟨w.heap.size + 2, 10, none⟩) a 46 54 m c (by rfl) (by rfl) (w.heap.size + 2) 10 (yc S4) 93 H4.out.drew.g (yc b) (by rw [yc_length, ← HM.out]; exact (Nat.min_eq_left (by omega)).symm) (fun h0 => ⟨rfl, yt_pos HY4.out h0⟩) (by rw [yc_length, yc_length, HL4.out, ← HM.out]; omega) (yc_one b) ?_
                   intro w5 HG5 HO5)
    have H5 := Lib.hid (H4.out.drew.put HG5.out HO5.out (by omega) (by omega) (by omega))
    rw [yc_splice] at H5
    obtain ⟨S, hS, hSl, hSe⟩ := fsec_fill ep k true b (by rw [← HM.out]; exact hm32)
    rw [← HS1.out, ← HS2.out, ← HS3.out, ← HM.out, ← HX.out, ← HS4.out] at hS
    rw [hS] at H5
    have HSL := Lib.hid hSl
    obtain ⟨D, hD⟩ : ∃ D, D = yc (S.take 56 ++ S.take 8) := ⟨_, rfl⟩
    have hD1 : D.toArray.all (·.oneCell') = true := by rw [hD]; exact yc_all _
    have hDl : D.length = 64 := by rw [hD, yc_length]; simp; omega
    have HD := Lib.hid hD; have HD1 := Lib.hid hD1; have HDL := Lib.hid hDl
    have HF : Hid (D = yc (Lm.fsec ep k true b)) := by show _ = _; rw [hD, hSe]
    obtain ⟨A, hA⟩ : ∃ A, A = yc S := ⟨_, rfl⟩
    have hAl : A.length = 64 := by rw [hA, yc_length, hSl]
    rw [← hA] at H5
    have HA := Lib.hid hA; have HAL := Lib.hid hAl
    clear HG5 HO5 H4 c4 HY4 hS hSl hSe hD hD1 hDl hA hAl HS1 HS2 HS3 HS4 HL1 HL2 HL3 HL4 HX HZS HZL HZ1 HZ he hk
    go_wp2_with (first
      | (with_reducible refine wpList_load_row ?_ 93 (.tmp 3) ?_ (w.heap.size + 2) ?_ 93 A.toArray (0, 0) (.array 64 5) H5.out.g Try.underlying93 rfl ?_ ?_
         · rfl
         · rfl
         · rfl
         · rw [List.size_toArray, HAL.out]; exact infoL2))
    rw [HA.out]
    refine (log_doubled S w5 HSL.out).mono ?_
    rintro e w6 ⟨rfl, hb6⟩
    rw [← HD.out, ← HA.out]
    have HR6 : Hid (w6.heap[w.heap.size + 1]? = some (.cells (yc (List.replicate 64 0)).toArray 93 (0, 0))) := by
      show _ = _; rw [hb6.block _ (heap_lt H5.out.r)]; exact H5.out.r
    have HB6 := Lib.hid (H5.out.b.trans (hb6.mono H5.out.b.size))
    clear hb6 H5
    go_wp2_with (first
      | (refine wpList_store_row ?_ 93 (.tmp 2) (.tmp 25) ?_ (w.heap.size + 1) D.toArray ?_ ?_ 93 (yc (List.replicate 64 0)).toArray HR6.out ?_ ?_ HD1.out ?_
         · rfl
         · rfl
         · rfl
         · rfl
         · rw [List.size_toArray, HDL.out]; exact infoL2
         · exact HDL.out.symm))
    refine bodyPost_ret (v := .agg D.toArray) ?_ rfl ?_
    · exact results_cell_row rfl _ _ (w.heap.size + 1) 93 D.toArray (0, 0) (.array 64 5) rfl (setRow_heap w6 _ _ _ _ _ HR6.out) Try.underlying93 rfl (by rw [List.size_toArray, HDL.out]; exact infoL2)
    · exact ⟨by rw [HF.out], below_setRow HB6.out (by omega) _⟩
end Go.Proofs.Ytofbignggadkiaa
