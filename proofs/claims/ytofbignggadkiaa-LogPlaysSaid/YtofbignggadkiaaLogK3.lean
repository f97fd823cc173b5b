/- Package log: a head's sector: head.block. -/
import Derived.Test.YtofbignggadkiaaLogKx
import Derived.Deep.RegionWith
namespace Go.Proofs.Ytofbignggadkiaa
open Go.RowKit

/-- what stands while a sector is made: what came in (block h), the result (block r), the sector (block g) -/
structure Bw (w : World) (h r g : Nat) (V : Array Value) (th : TypeId) (Z : Array Value) (cur : List Value) (W : World) : Prop where
  h : W.heap[h]? = some (.cells V th (0, 0))
  r : W.heap[r]? = some (.cells Z 93 (0, 0))
  g : W.heap[g]? = some (.cells cur.toArray 93 (0, 0))
  b : Below w.heap.size w W
theorem Bw.put {w : World} {h r g : Nat} {V : Array Value} {th : TypeId} {Z : Array Value} {cur cur' : List Value} {W W' : World} (H : Bw w h r g V th Z cur W) (hg : W'.heap[g]? = some (.cells cur'.toArray 93 (0, 0))) (ho : Only (fun k => k = g) W W') (h1 : h ≠ g) (h2 : r ≠ g) (h3 : w.heap.size ≤ g) : Bw w h r g V th Z cur' W' :=
  ⟨by rw [ho.block h (heap_lt H.h) h1]; exact H.h, by rw [ho.block r (heap_lt H.r) h2]; exact H.r, hg, below_only H.b ho h3 H.b.size⟩
theorem Bw.drew {w : World} {h r g : Nat} {V : Array Value} {th : TypeId} {Z : Array Value} {cur : List Value} {W : World} (H : Bw w h r g V th Z cur W) : Bw w h r g V th Z cur W.drew :=
  ⟨H.h, H.r, H.g, H.b.trans ((below_drew0 W).mono H.b.size)⟩
/-- what is written behind what stands, into noughts -/
theorem fillz (p q : List UInt8) (k : Nat) (_h : q.length ≤ k) : splice (p ++ List.replicate k 0) p.length q = (p ++ q) ++ List.replicate (k - q.length) 0 := by
  unfold splice
  rw [List.take_append_of_le_length (Nat.le_refl _), List.take_length, List.drop_append, List.drop_eq_nil_of_le (by omega), List.nil_append, show p.length + q.length - p.length = q.length by omega, List.drop_replicate, List.append_assoc]
theorem set_splice {α : Type} (L : List α) (k : Nat) (v : α) (h : k < L.length) : L.set k v = splice L k [v] := by
  unfold splice
  rw [List.set_eq_take_append_cons_drop, if_pos h]; rfl
theorem yc_set (l : List UInt8) (k : Nat) (x : UInt8) (h : k < l.length) : (yc l).set k (.int .u8 (x.toNat : Int)) = yc (splice l k [x]) := by
  rw [set_splice _ _ _ (by rw [yc_length]; exact h), ← yc_splice]; rfl
theorem splice_len (l q : List UInt8) (k : Nat) (h : k + q.length ≤ l.length) : (splice l k q).length = l.length := length_splice _ _ _ h
/-- a head's sector, piece by piece -/
theorem hsec_fill (n ep ba : Nat) (b : List UInt8) (hb : b.length ≤ 32) : ∃ S, splice (splice (splice (splice (splice (List.replicate 64 0) 0 (Lm.be 8 n)) 8 (Lm.be 4 ep)) 12 (Lm.be 4 ba)) 16 [UInt8.ofNat b.length]) 17 b = S ∧ S.length = 64 ∧ S.take 56 ++ S.take 8 = Lm.hsec ⟨n, ep, ba, b⟩ := by
  refine ⟨_, rfl, ?_⟩
  have h1 := fillz [] (Lm.be 8 n) 64 (by rw [Lm.be_length]; decide)
  have h2 := fillz (Lm.be 8 n) (Lm.be 4 ep) 56 (by rw [Lm.be_length]; decide)
  have h3 := fillz (Lm.be 8 n ++ Lm.be 4 ep) (Lm.be 4 ba) 52 (by rw [Lm.be_length]; decide)
  have h4 := fillz (Lm.be 8 n ++ Lm.be 4 ep ++ Lm.be 4 ba) [UInt8.ofNat b.length] 48 (by simp)
  have h5 := fillz (Lm.be 8 n ++ Lm.be 4 ep ++ Lm.be 4 ba ++ [UInt8.ofNat b.length]) b 47 (by omega)
  simp only [List.length_append, Lm.be_length, List.length_nil, List.nil_append, List.length_cons, Nat.reduceAdd, Nat.reduceSub] at h1 h2 h3 h4 h5
  rw [h1, h2, h3, h4, h5]
  refine ⟨by simp [Lm.be_length]; omega, ?_⟩
  unfold Lm.hsec Lm.pad
  congr 1
  · rw [List.take_append, List.take_of_length_le (by simp [Lm.be_length]; omega), List.take_replicate]
    congr 2
    simp [Lm.be_length]; try omega
theorem yt_pos {a : Option Addr} {m c : Nat} {b : List UInt8} {W : World} (h : Yt (.slice a m c) b W) (h0 : 0 < (yc b).length) : ∃ ad, a = some ad ∧ ∀ j v, (yc b)[j]? = some v → W.cell? (ad.add j) = some v := by
  rcases h with ⟨_, _, _, rfl⟩ | ⟨g, off, cap, e, hc, hg, hcell⟩
  · simp [yc] at h0
  · injection e with e1 e2 e3
    refine ⟨_, e1, fun j v hv => ?_⟩
    rw [yc_get] at hv
    have hj : j < b.length := by
      rcases Nat.lt_or_ge j b.length with h | h
      · exact h
      · rw [List.getElem?_eq_none h] at hv; cases hv
    rw [addr_add, hcell j hj]
    simpa [List.getD, hj] using hv
set_option maxHeartbeats 4000000 in
set_option maxRecDepth 100000 in
theorem log_hblock (n ep ba : Nat) (a : Option Addr) (m c : Nat) (b : List UInt8) (w : World) (hn : (n : Int) ≤ 9223372036854775807) (he : (ep : Int) ≤ 4294967295) (hba : (ba : Int) ≤ 4294967295) (hb : b.length ≤ 32) (hy : Yt (.slice a m c) b w) :
    Calls Try.prog 51 #[.agg #[.int .i64 (n : Int), .int .i64 (ep : Int), .int .i64 (ba : Int), .slice a m c]] w fun e w' => e = .returned (.agg (yc (Lm.hsec ⟨n, ep, ba, b⟩)).toArray) ∧ Below w.heap.size w w' := by
  have hm : m = b.length := by obtain ⟨_, _, e⟩ := hy.form; injection e
  have HM := Lib.hid hm; have HY := Lib.hid hy
  have hm32 : m ≤ 32 := by omega
  obtain ⟨z, Z, hz, hZ, hZs⟩ : ∃ (z : Value) (Z : List Value), (∀ w, (zeroValue 93).run Try.prog w = .ok z w) ∧ z.cells = Z.toArray ∧ Z = yc (List.replicate 64 0) := ⟨_, z64.toList, (zero_of_info infoLz).1, (Array.toArray_toList (xs := z64)).symm, by simp [z64, yc]⟩
  have hZl : Z.length = 64 := by rw [hZs, yc_length]; simp
  have HZ := Lib.hid hz; have HZ1 := Lib.hid hZ; have HZS := Lib.hid hZs; have HZL := Lib.hid hZl
  obtain ⟨V, hV⟩ : ∃ V : Array Value, V = #[.int .i64 (n : Int), .int .i64 (ep : Int), .int .i64 (ba : Int), .slice a m c] := ⟨_, rfl⟩
  have HV := Lib.hid hV
  clear hz hZ hZs hZl hm hy hb hV
  go_enter Try.func51, Try.ntmps51
  go_upto_region 2 with (first
    | (with_reducible refine wpList_alloc_of ?_ 93 ?_ z Z.toArray ?_ ?_ ?_
       · rfl
       · rfl
       · exact HZ.out
       · exact HZ1.out))
  obtain ⟨W0, hW0⟩ : ∃ W0, W0 = ((w.alloc (.cells #[.int .i64 (n : Int), .int .i64 (ep : Int), .int .i64 (ba : Int), .slice a m c] 74)).alloc (.cells Z.toArray 93)).alloc (.cells Z.toArray 93) := ⟨_, rfl⟩
  have H0 : Hid (Bw w w.heap.size (w.heap.size + 1) (w.heap.size + 2) V 74 Z.toArray Z W0) := by
    rw [hW0, HV.out]
    refine ⟨?_, ?_, ?_, (((Below.refl _ w).alloc (Nat.le_refl _) _).alloc (by simp) _).alloc (by simp; omega) _⟩
    · rw [Below.heap_alloc _ _ _ (by simp; omega), Below.heap_alloc _ _ _ (by simp), heap_alloc_new]
    · rw [Below.heap_alloc _ _ _ (by simp), show w.heap.size + 1 = (w.alloc (.cells #[.int .i64 (n : Int), .int .i64 (ep : Int), .int .i64 (ba : Int), .slice a m c] 74)).heap.size by simp, heap_alloc_new]
    · rw [show w.heap.size + 2 = ((w.alloc (.cells #[.int .i64 (n : Int), .int .i64 (ep : Int), .int .i64 (ba : Int), .slice a m c] 74)).alloc (.cells Z.toArray 93)).heap.size by simp, heap_alloc_new]
  have hs1 : (w.alloc (.cells #[.int .i64 (n : Int), .int .i64 (ep : Int), .int .i64 (ba : Int), .slice a m c] 74)).heap.size = w.heap.size + 1 := by simp
  have hs2 : ((w.alloc (.cells #[.int .i64 (n : Int), .int .i64 (ep : Int), .int .i64 (ba : Int), .slice a m c] 74)).alloc (.cells Z.toArray 93)).heap.size = w.heap.size + 2 := by simp
  rw [← hW0, hs1, hs2]
  clear hW0 hs1 hs2
  have c0 : W0.cell? ⟨w.heap.size, 0, none⟩ = some (.int .i64 (n : Int)) := by rw [Lib.cell_of_heap H0.out.h, HV.out]; rfl
  go_upto_region 2 with (fail)
  go_region_with (go_at_call 61; refine (log_put (w.heap.size + 2) 0 8 64 n Z 93 W0.drew H0.out.drew.g (by rw [HZL.out]; decide) (by decide) (by decide) hn).mono ?_; rintro e w1 ⟨rfl, HG1, HO1⟩)
  have H1 := Lib.hid (H0.out.drew.put HG1 HO1 (by omega) (by omega) (by omega))
  rw [HZS.out, yc_splice] at H1
  clear HG1 HO1 H0 c0
  obtain ⟨S1, hS1⟩ : ∃ S1, S1 = splice (List.replicate 64 0) 0 (Lm.be 8 n) := ⟨_, rfl⟩
  have hl1 : S1.length = 64 := by rw [hS1, splice_len _ _ _ (by simp [Lm.be_length])]; simp
  rw [← hS1] at H1
  have HS1 := Lib.hid hS1; have HL1 := Lib.hid hl1
  clear hS1 hl1
  have c1 : w1.cell? ⟨w.heap.size, 1, none⟩ = some (.int .i64 (ep : Int)) := by rw [Lib.cell_of_heap H1.out.h, HV.out]; rfl
  go_upto_region 3 with (fail)
  go_region_with (go_at_call 61; refine (log_put (w.heap.size + 2) 8 4 56 ep (yc S1) 93 w1.drew H1.out.drew.g (by rw [yc_length, HL1.out]; decide) (by decide) (by decide) (by omega)).mono ?_; rintro e w2 ⟨rfl, HG2, HO2⟩)
  have H2 := Lib.hid (H1.out.drew.put HG2 HO2 (by omega) (by omega) (by omega))
  rw [yc_splice] at H2
  clear HG2 HO2 H1 c1
  obtain ⟨S2, hS2⟩ : ∃ S2, S2 = splice S1 8 (Lm.be 4 ep) := ⟨_, rfl⟩
  have hl2 : S2.length = 64 := by rw [hS2, splice_len _ _ _ (by rw [HL1.out]; simp [Lm.be_length])]; exact HL1.out
  rw [← hS2] at H2
  have HS2 := Lib.hid hS2; have HL2 := Lib.hid hl2
  clear hS2 hl2
  have c2 : w2.cell? ⟨w.heap.size, 2, none⟩ = some (.int .i64 (ba : Int)) := by rw [Lib.cell_of_heap H2.out.h, HV.out]; rfl
  go_upto_region 4 with (fail)
  go_region_with (go_at_call 61; refine (log_put (w.heap.size + 2) 12 4 52 ba (yc S2) 93 w2.drew H2.out.drew.g (by rw [yc_length, HL2.out]; decide) (by decide) (by decide) (by omega)).mono ?_; rintro e w3 ⟨rfl, HG3, HO3⟩)
  have H3 := Lib.hid (H2.out.drew.put HG3 HO3 (by omega) (by omega) (by omega))
  rw [yc_splice] at H3
  clear HG3 HO3 H2 c2
  obtain ⟨S3, hS3⟩ : ∃ S3, S3 = splice S2 12 (Lm.be 4 ba) := ⟨_, rfl⟩
  have hl3 : S3.length = 64 := by rw [hS3, splice_len _ _ _ (by rw [HL2.out]; simp [Lm.be_length])]; exact HL2.out
  rw [← hS3] at H3
  have HS3 := Lib.hid hS3; have HL3 := Lib.hid hl3
  clear hS3
  have c3 : w3.cell? ⟨w.heap.size, 3, none⟩ = some (.slice a m c) := by rw [Lib.cell_of_heap H3.out.h, HV.out]; rfl
  have g16 : w3.cell? ⟨w.heap.size + 2, 16, none⟩ = some (.int .u8 ((S3.getD 16 0).toNat : Int)) := by
    rw [Lib.cell_of_heap H3.out.g, List.getElem?_toArray, yc_get]; simp [List.getD, hl3]
  have f16 := Lib.frozen_of_heap H3.out.g 16
  have hsz := H3.out.b.size
  have hgl := heap_lt H3.out.g
  have hw8 : IntKind.u8.wrap (m : Int) = (m : Int) := by rw [IntKind.wrap_u8]; omega
  have hw9 : (m : Int) % 256 = (m : Int) := by omega
  clear hl3
  go_upto_region 6 with (fail)
  obtain ⟨x, hx⟩ : ∃ x : UInt8, x = UInt8.ofNat m := ⟨_, rfl⟩
  have hxm : (x.toNat : Int) = (m : Int) := by rw [hx, UInt8.toNat_ofNat']; omega
  obtain ⟨S4, hS4⟩ : ∃ S4, S4 = splice S3 16 [x] := ⟨_, rfl⟩
  have hl4 : S4.length = 64 := by rw [hS4, splice_len _ _ _ (by rw [HL3.out]; simp)]; exact HL3.out
  obtain ⟨W4, hW4⟩ : ∃ W4, W4 = w3.setCell ⟨w.heap.size + 2, 16, none⟩ (.int .u8 (m : Int)) := ⟨_, rfl⟩
  have H4 : Hid (Bw w w.heap.size (w.heap.size + 1) (w.heap.size + 2) V 74 (yc (List.replicate 64 0)).toArray (yc S4) W4) := by
    rw [hW4]
    refine H3.out.put ?_ (Only.setCell (p := fun k => k = w.heap.size + 2) (Only.refl _ w3) (q := ⟨w.heap.size + 2, 16, none⟩) (.inl rfl) _) (by omega) (by omega) (by omega)
    rw [heap_setCell_same _ _ _ _ _ _ H3.out.g, ← hxm, List.setIfInBounds_toArray, yc_set _ _ _ (by rw [HL3.out]; decide), hS4]
  rw [← hW4]
  have HS4 := Lib.hid hS4; have HL4 := Lib.hid hl4; have HX := Lib.hid hx
  clear hW4 H3 c3 g16 f16 hsz hgl hw8 hw9 hS4 hl4 hx hxm
  have c4 : W4.cell? ⟨w.heap.size, 3, none⟩ = some (.slice a m c) := by rw [Lib.cell_of_heap H4.out.h, HV.out]; rfl
  have HY4 := Lib.hid (HY.out.keep (H4.out.drew.b))
  go_region_law (refine step_copy (by rfl) (.tmp 21) (.tmp 23) 39 39 (by rfl) 5 Try.underlying39 (by kernel_rfl) (some ⟨w.heap.size + 2, 17, none⟩) a 39 47 m c (by rfl) (by rfl) (w.heap.size + 2) 17 (yc S4) 93 H4.out.drew.g (yc b) (by rw [yc_length, ← HM.out]; exact (Nat.min_eq_left (by omega)).symm) (fun h0 => ⟨rfl, yt_pos HY4.out h0⟩) (by rw [yc_length, yc_length, HL4.out, ← HM.out]; omega) (yc_one b) ?_
                 intro w5 HG5 HO5)
  have H5 := Lib.hid (H4.out.drew.put HG5.out HO5.out (by omega) (by omega) (by omega))
  rw [yc_splice] at H5
  obtain ⟨S, hS, hSl, hSe⟩ := hsec_fill n ep ba b (by rw [← HM.out]; exact hm32)
  rw [← HS1.out, ← HS2.out, ← HS3.out, ← HM.out, ← HX.out, ← HS4.out] at hS
  rw [hS] at H5
  have HSL := Lib.hid hSl
  obtain ⟨D, hD⟩ : ∃ D, D = yc (S.take 56 ++ S.take 8) := ⟨_, rfl⟩
  have hD1 : D.toArray.all (·.oneCell') = true := by rw [hD]; exact yc_all _
  have hDl : D.length = 64 := by rw [hD, yc_length]; simp; omega
  have HD := Lib.hid hD; have HD1 := Lib.hid hD1; have HDL := Lib.hid hDl
  have HF : Hid (D = yc (Lm.hsec ⟨n, ep, ba, b⟩)) := by show _ = _; rw [hD, hSe]
  obtain ⟨A, hA⟩ : ∃ A, A = yc S := ⟨_, rfl⟩
  have hAl : A.length = 64 := by rw [hA, yc_length, hSl]
  rw [← hA] at H5
  have HA := Lib.hid hA; have HAL := Lib.hid hAl
  clear HG5 HO5 H4 c4 HY4 hS hSl hSe hD hD1 hDl hA hAl HS1 HS2 HS3 HS4 HL1 HL2 HL3 HL4 HX HZS HZL HZ1 HZ hn he hba
  go_wp2_with (first
    | (with_reducible refine wpList_load_row ?_ 93 (.tmp 3) ?_ (w.heap.size + 2) ?_ 93 A.toArray (0, 0) (.array 64 5) H5.out.g Try.underlying93 rfl ?_ ?_
       · rfl
       · rfl
       · rfl
       · rw [List.size_toArray, HAL.out]; exact infoL2))
  rw [HA.out]
  refine (log_doubled S w5 HSL.out).mono ?_
  rintro e w6 ⟨rfl, hb6⟩
  rw [← HD.out, ← HA.out]
  have HR6 : Hid (w6.heap[w.heap.size + 1]? = some (.cells (yc (List.replicate 64 0)).toArray 93 (0, 0))) := by
    show _ = _; rw [hb6.block _ (heap_lt H5.out.r)]; exact H5.out.r
  have HB6 := Lib.hid (H5.out.b.trans (hb6.mono H5.out.b.size))
  clear hb6 H5
  go_wp2_with (first
    | (refine wpList_store_row ?_ 93 (.tmp 2) (.tmp 26) ?_ (w.heap.size + 1) D.toArray ?_ ?_ 93 (yc (List.replicate 64 0)).toArray HR6.out ?_ ?_ HD1.out ?_
       · rfl
       · rfl
       · rfl
       · rfl
       · rw [List.size_toArray, HDL.out]; exact infoL2
       · exact HDL.out.symm))
  refine bodyPost_ret (v := .agg D.toArray) ?_ rfl ?_
  · exact results_cell_row rfl _ _ (w.heap.size + 1) 93 D.toArray (0, 0) (.array 64 5) rfl (setRow_heap w6 _ _ _ _ _ HR6.out) Try.underlying93 rfl (by rw [List.size_toArray, HDL.out]; exact infoL2)
  · exact ⟨by rw [HF.out], below_setRow HB6.out (by omega) _⟩
end Go.Proofs.Ytofbignggadkiaa
