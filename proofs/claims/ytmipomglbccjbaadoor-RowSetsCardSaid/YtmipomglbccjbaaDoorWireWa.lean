/- Writer.Number appends the encoding of its argument. -/
import Derived.Test.YtmipomglbccjbaaDoorWireW1
import Derived.Deep.RegionHeld3
import Derived.BigRegion
import Derived.Test.YtmipomglbccjbaaDoorKitAppend
import Derived.Outline
namespace Go.Proofs.YtmipomglbccjbaaDoor
open Go.RowKit

theorem not64 (m : Nat) (h : m ≤ 9223372036854775807) : bits .xor .u64 IntKind.u64.max (IntKind.u64.wrap (-1 - (m : Int))) = (m : Int) := by
  have e : IntKind.u64.wrap (-1 - (m : Int)) = ((18446744073709551615 - m : Nat) : Int) := by
    rw [IntKind.wrap_u64]; omega
  have e2 : IntKind.u64.max = ((18446744073709551615 : Nat) : Int) := by decide
  rw [e, e2, bits_xor_u64_nat _ _ (by omega) (by omega)]
  have e3 : (18446744073709551615 ^^^ (18446744073709551615 - m)) = m := by
    have h1 := BitVec.allOnes_xor (x := BitVec.ofNat 64 (18446744073709551615 - m))
    have h2 := congrArg BitVec.toNat h1
    rw [BitVec.toNat_xor, BitVec.toNat_allOnes, BitVec.toNat_not, BitVec.toNat_ofNat] at h2
    rw [Nat.mod_eq_of_lt (by omega)] at h2
    have h3 : (2 ^ 64 - 1 : Nat) = 18446744073709551615 := by decide
    rw [h3] at h2
    omega
  rw [e3]
theorem len64n (m : Nat) (w : World) (h : m ≤ 9223372036854775807) :
    Calls Tryd.prog 43 #[.int .u64 (m : Int)] w fun e w' => ∃ L : Nat, e = .returned (.int .i64 L) ∧ w = w' ∧ Hid ((L + 7) / 8 = Wm.nb m) ∧ L ≤ 64 :=
  (len64 m w (by omega) (by omega)).mono fun e w' ⟨he, hw⟩ => ⟨Lib.bitLen m, by rw [he]; simp, hw, rfl, Lib.bitLen_le m 64 (by omega) (by omega)⟩
/-- the header byte -/
theorem or_hdr (k : Nat) (h : k ≤ 8) : bits .or .u8 128 (k : Int) = ((128 + k : Nat) : Int) ∧ bits .or .u8 0 (k : Int) = (k : Int) := by
  have : ∀ k : Fin 9, bits .or .u8 128 ((k.val : Nat) : Int) = ((128 + k.val : Nat) : Int) ∧ bits .or .u8 0 ((k.val : Nat) : Int) = (k.val : Int) := by decide +kernel
  exact this ⟨k, by omega⟩
theorem grown_undrew {w w' : World} {r : Option Nat} (h : w.drew.grownBy w' r) : w.grownBy w' r := ⟨h.os, h.tape, h.output, h.size, h.block⟩
theorem Wr.far {b : Nat} {v : Value} {bs : List UInt8} {w w2 : World} {c : Obj} (h : Wr b v bs w) (hg : (w.alloc c).grownBy w2 v.ownBlock) : w2.cell? ⟨b, 0, none⟩ = some v ∧ w2.frozen? ⟨b, 0, none⟩ = false := by
  have hl := h.lt
  refine ⟨?_, ?_⟩
  · rw [hg.cell_far _ (by simp; omega) (fun e => h.ne e.symm)]
    exact (Below.cell ((Below.refl _ w).alloc (Nat.le_refl _) _) (p := ⟨b, 0, none⟩) hl).trans h.cell
  · rw [hg.frozen_far _ (by simp; omega) (fun e => h.ne e.symm)]
    exact (Below.frozen ((Below.refl _ w).alloc (Nat.le_refl _) _) (p := ⟨b, 0, none⟩) hl).trans h.frozen
/-- a byte appended to the writer, and the new slice stored -/
theorem Wrote.step {b : Nat} {v v1 : Value} {bs : List UInt8} {x : UInt8} {w wr w1 : World} {g cap : Nat} (hw : Wr b v1 bs wr) (hf : Frs v v1 w.heap.size) (ho : Only (fun k => k = b ∨ v.ownBlock = some k) w wr) (c : Obj)
    (hown : w1.ownsRow 0 5 1 (.slice (some ⟨g, 0, none⟩) (bs.length + 1) cap) (bs.length + 1) (bc bs ++ [.int .u8 x.toNat]))
    (hgrow : (wr.alloc c).grownBy w1 v1.ownBlock) (hat : v1.ownBlock = some g ∨ g = wr.heap.size + 1) :
    Wrote b v (bs ++ [x]) w (w1.setCell ⟨b, 0, none⟩ (.slice (some ⟨g, 0, none⟩) (bs.length + 1) cap)) := by
  have hb1 : w1.heap[b]? = some (.cells #[v1] 46 (0, 0)) := by
    rw [hgrow.block b (by have := hw.lt; simp; omega) (fun e => hw.ne e.symm), Below.heap_alloc _ _ _ hw.lt]; exact hw.blk
  have hv1 : ∀ k, v1.ownBlock = some k → (k = b ∨ v.ownBlock = some k) ∨ w.heap.size ≤ k := by
    intro k hk
    rcases hf with e | ⟨g', e, hg⟩
    · left; right; rw [← e]; exact hk
    · right; rw [e] at hk; simp at hk; omega
  refine ⟨_, Wr.put (bs := bs ++ [x]) hb1 (by simpa [bc_append, bc] using hown), ?_, ?_⟩
  · rcases hat with e | e
    · rcases hf with e' | ⟨g', e', hg⟩
      · exact .inl (by rw [← e', e]; rfl)
      · exact .inr ⟨g, rfl, by rw [e] at e'; simp at e'; omega⟩
    · exact .inr ⟨g, rfl, by have := ho.size; omega⟩
  · exact ((ho.alloc c).grown hgrow hv1).setCell (.inl (.inl rfl)) _
set_option maxHeartbeats 1000000 in
set_option maxRecDepth 100000 in
theorem number_pos (b : Nat) (v : Value) (bs : List UInt8) (m : Nat) (w : World) (h : Wr b v bs w) (hbig : bs.length ≤ 1099511627776) (h1 : (m : Int) ≤ 9223372036854775807) :
    Calls Tryd.prog 23 #[.pointer (some ⟨b, 0, none⟩), .int .i64 (m : Int)] w fun e w' => e = .returned (.tuple #[]) ∧ Wrote b v (bs ++ Wm.enc m) w w' := by
  obtain ⟨i0, hi0, hz0, hz1, hz2⟩ := info_parts info5
  have HI0 := Lib.hid hi0; have HZ0 := Lib.hid hz0; have HZ1 := Lib.hid hz1; have HZ2 := Lib.hid hz2
  clear hi0 hz0 hz1 hz2
  have hcell := h.cell
  have hfr := h.frozen
  have HW := Lib.hid h
  have hsz := h.lt
  clear h
  have hneg : decide ((m : Int) < 0) = false := by simp
  go_enter Tryd.func23, Tryd.ntmps23
  go_wp2_with fail
  refine (len64n m _ (by omega)).mono ?_
  rintro e w' ⟨L, rfl, rfl, hL, hL64⟩
  obtain ⟨k, hk⟩ : ∃ k : Nat, k = (L + 7) / 8 := ⟨_, rfl⟩
  have hk8 : k ≤ 8 := by omega
  have hkk : ((L : Int) + 7) / 8 = (k : Int) := by omega
  have HK : Hid (k = Wm.nb m) := by rw [hk]; exact hL
  clear hk hL
  have hor := (or_hdr k hk8).2
  have hbyte : ((UInt8.ofNat k).toNat : Int) = (k : Int) := by simp [UInt8.toNat_ofNat']; omega
  have HB := Lib.hid hbyte
  clear hbyte
  go_wp2_with (at_builtin; refine wpList_append_lies _ rfl (.tmp 24) (.tmp 29) 25 rfl 0 5 i0 (.int .u8 0) 1 1 Tryd.underlying25 HI0.out HZ0.out HZ1.out HZ2.out rfl (by decide) v bs.length (bc bs) rfl (HW.out.own.alloc _) ⟨w.heap.size, 0, none⟩ 1 1 [.int .u8 k] rfl rfl (World.news_of_block (cs := #[.int .u8 k]) (t := 5) (fr := (0, 0)) (heap_alloc_new w _)) (by simp [Value.oneCell']) (by omega) ?qa ?qb (Nat.zero_le _) (w.heap.size + 1) (by simp) ?_)
  case qa => unfold maxLen; omega
  case qb => omega
  intro g cap w1 hown hgrow hat hlt
  obtain ⟨hc1, hf1⟩ := HW.out.far hgrow
  have hst : Hid (Wrote b v (bs ++ [UInt8.ofNat k]) w (w1.setCell ⟨b, 0, none⟩ (.slice (some ⟨g, 0, none⟩) (bs.length + 1) cap))) :=
    Wrote.step HW.out (Frs.refl _ _) (Only.refl _ _) _ (by rw [HB.out]; exact hown) hgrow hat
  clear hown hgrow hat hlt
  go_wp2
  go_loopw [7] (fun l wr => ∃ j : Nat, j ≤ k ∧ l = .int .i64 (j : Int) ∧ Hid (Wrote b v (bs ++ (UInt8.ofNat k :: (Wm.be k m).take (k - j))) w wr)) (fun l _ => (intOf l).toNat)
  case atStart => exact ⟨k, Nat.le_refl _, rfl, by simpa using hst⟩
  case round =>
    obtain ⟨j, hj, rfl, HR⟩ := hrel
    clear hcell hfr hc1 hf1 hst
    cases j with
    | zero =>
      go_wp2
      go_end0
      refine ⟨rfl, ?_⟩
      have hr := HR.out
      rw [Nat.sub_zero, List.take_of_length_le (by rw [Wm.be_length]; exact Nat.le_refl _)] at hr
      have he : Wm.enc (m : Int) = UInt8.ofNat k :: Wm.be k m := by
        have e1 : Wm.mag (m : Int) = m := by unfold Wm.mag; rw [if_neg (by omega)]; simp
        have e2 : ¬ ((m : Int) < 0) := by omega
        simp only [Wm.enc, Wm.hdr, e1, e2, if_false, ← HK.out, Nat.zero_add]
      rw [he]
      exact hr
    | succ i =>
      obtain ⟨v1, hw1, hf1, ho1⟩ := HR.out
      have hcell := hw1.cell
      have hfr := hw1.frozen
      have hsz1 := hw1.lt
      have HW1 := Lib.hid hw1
      clear hw1 HR
      have hpos : (0 : Int) ≤ 8 * (i : Int) := by omega
      have hshift : (8 * (i : Int)).toNat = 8 * i := by omega
      have hi7 : i ≤ 7 := by omega
      go_wp2
      have hmin : min (8 * i) 64 = 8 * i := by omega
      have hw1 : IntKind.i64.wrap (i : Int) = (i : Int) := IntWalk.i64_in _ (by omega)
      have hw2 : IntKind.i64.wrap (8 * (i : Int)) = 8 * (i : Int) := IntWalk.i64_in _ (by omega)
      obtain ⟨x, hx⟩ : ∃ x : UInt8, UInt8.ofNat (m / 256 ^ i) = x := ⟨_, rfl⟩
      have hq : (m : Int) / 2 ^ (8 * i) % 256 = (x.toNat : Int) := by rw [← hx, ← Wm.byte_shift m i hi7, hmin]
      have hq2 : IntKind.u8.wrap ((m : Int) / 2 ^ (8 * i)) = (x.toNat : Int) := by rw [← hq]; simp [IntKind.wrap, IntKind.bits, IntKind.signed]
      have HX := Lib.hid hx
      have hlen : (bs ++ (UInt8.ofNat k :: (Wm.be k m).take (k - (i + 1)))).length ≤ 1099511627776 + 9 := by simp [Wm.be_length]; omega
      clear hx hmin
      generalize hbs : bs ++ (UInt8.ofNat k :: (Wm.be k m).take (k - (i + 1))) = bs1 at HW1 hlen
      have HBS := Lib.hid hbs
      clear hbs
      go_region_law ((refine step_append_lies _ (by rfl) _ _ _ (by rfl) 0 5 i0 (.int .u8 0) 1 1 Tryd.underlying25 HI0.out HZ0.out HZ1.out HZ2.out rfl (by decide) v1 bs1.length (bc bs1) (by rfl) ((HW1.out.own.alloc _).drew) ⟨wr.heap.size, 0, none⟩ 1 1 [.int .u8 x.toNat] (by rfl) (by rfl) (World.news_of_block (cs := #[.int .u8 x.toNat]) (t := 5) (fr := (0, 0)) (heap_alloc_new wr _)) (by simp [Value.oneCell']) (by omega) (by unfold maxLen; omega) (by omega) (Nat.zero_le _) (wr.heap.size + 1) (by simp) ?_; intro g2 cap2 w2 hown2 hgrow2 hat2 hlt2; obtain ⟨hc2, hf2⟩ := HW1.out.far (grown_undrew hgrow2)))
      all_goals
        have hst : Hid (Wrote b v (bs1 ++ [x]) w (w2.setCell ⟨b, 0, none⟩ (.slice (some ⟨g2, 0, none⟩) (bs1.length + 1) cap2))) :=
          Wrote.step HW1.out hf1 ho1 _ hown2 (grown_undrew hgrow2) hat2
        have hfin0 : bs1 ++ [x] = bs ++ (UInt8.ofNat k :: (Wm.be k m).take (k - i)) := by
          rw [← HBS.out, Wm.be_take_succ k m i (by omega), HX.out]; simp
        have hfin := Lib.hid hfin0
        clear hfin0
        clear hown2 hgrow2 hat2 hlt2 hq hq2 hw1 hw2 hc2 hf2
        go_wp2
        go_roundw
        case rel => exact ⟨i, by omega, by go_num, by rw [← hfin.out]; exact hst⟩
        case measure => simp [intOf]
set_option maxHeartbeats 1000000 in
set_option maxRecDepth 100000 in
theorem number_neg (b : Nat) (v : Value) (bs : List UInt8) (m : Nat) (w : World) (h : Wr b v bs w) (hbig : bs.length ≤ 1099511627776) (h1 : (m : Int) ≤ 9223372036854775807) :
    Calls Tryd.prog 23 #[.pointer (some ⟨b, 0, none⟩), .int .i64 (-1 - (m : Int))] w fun e w' => e = .returned (.tuple #[]) ∧ Wrote b v (bs ++ Wm.enc (-1 - (m : Int))) w w' := by
  obtain ⟨i0, hi0, hz0, hz1, hz2⟩ := info_parts info5
  have HI0 := Lib.hid hi0; have HZ0 := Lib.hid hz0; have HZ1 := Lib.hid hz1; have HZ2 := Lib.hid hz2
  clear hi0 hz0 hz1 hz2
  have hcell := h.cell
  have hfr := h.frozen
  have HW := Lib.hid h
  have hsz := h.lt
  clear h
  have hneg : decide (-1 - (m : Int) < 0) = true := by simp; omega
  have hsg : IntKind.u64.signed = false := rfl
  have hnot := not64 m (by omega)
  go_enter Tryd.func23, Tryd.ntmps23
  go_wp2_with fail
  refine (len64n m _ (by omega)).mono ?_
  rintro e w' ⟨L, rfl, rfl, hL, hL64⟩
  obtain ⟨k, hk⟩ : ∃ k : Nat, k = (L + 7) / 8 := ⟨_, rfl⟩
  have hk8 : k ≤ 8 := by omega
  have hkk : ((L : Int) + 7) / 8 = (k : Int) := by omega
  have HK : Hid (k = Wm.nb m) := by rw [hk]; exact hL
  clear hk hL
  have hor := (or_hdr k hk8).1
  have hbyte : ((UInt8.ofNat (128 + k)).toNat : Int) = ((128 + k : Nat) : Int) := by simp [UInt8.toNat_ofNat']; omega
  have HB := Lib.hid hbyte
  clear hbyte
  go_wp2_with (at_builtin; refine wpList_append_lies _ rfl (.tmp 24) (.tmp 29) 25 rfl 0 5 i0 (.int .u8 0) 1 1 Tryd.underlying25 HI0.out HZ0.out HZ1.out HZ2.out rfl (by decide) v bs.length (bc bs) rfl (HW.out.own.alloc _) ⟨w.heap.size, 0, none⟩ 1 1 [.int .u8 ((128 + k : Nat) : Int)] rfl rfl (World.news_of_block (cs := #[.int .u8 ((128 + k : Nat) : Int)]) (t := 5) (fr := (0, 0)) (heap_alloc_new w _)) (by simp [Value.oneCell']) (by omega) ?qa ?qb (Nat.zero_le _) (w.heap.size + 1) (by simp) ?_)
  case qa => unfold maxLen; omega
  case qb => omega
  intro g cap w1 hown hgrow hat hlt
  obtain ⟨hc1, hf1⟩ := HW.out.far hgrow
  have hst : Hid (Wrote b v (bs ++ [UInt8.ofNat (128 + k)]) w (w1.setCell ⟨b, 0, none⟩ (.slice (some ⟨g, 0, none⟩) (bs.length + 1) cap))) :=
    Wrote.step HW.out (Frs.refl _ _) (Only.refl _ _) _ (by rw [HB.out]; exact hown) hgrow hat
  clear hown hgrow hat hlt
  go_wp2
  go_loopw [7] (fun l wr => ∃ j : Nat, j ≤ k ∧ l = .int .i64 (j : Int) ∧ Hid (Wrote b v (bs ++ (UInt8.ofNat (128 + k) :: (Wm.be k m).take (k - j))) w wr)) (fun l _ => (intOf l).toNat)
  case atStart => exact ⟨k, Nat.le_refl _, rfl, by simpa using hst⟩
  case round =>
    obtain ⟨j, hj, rfl, HR⟩ := hrel
    clear hcell hfr hc1 hf1 hst
    cases j with
    | zero =>
      go_wp2
      go_end0
      refine ⟨rfl, ?_⟩
      have hr := HR.out
      rw [Nat.sub_zero, List.take_of_length_le (by rw [Wm.be_length]; exact Nat.le_refl _)] at hr
      have he : Wm.enc (-1 - (m : Int)) = UInt8.ofNat (128 + k) :: Wm.be k m := by
        have e2 : (-1 - (m : Int) < 0) := by omega
        have e1 : Wm.mag (-1 - (m : Int)) = m := by unfold Wm.mag; rw [if_pos e2]; omega
        simp only [Wm.enc, Wm.hdr, e1, e2, if_true, ← HK.out]
      rw [he]
      exact hr
    | succ i =>
      obtain ⟨v1, hw1, hf1, ho1⟩ := HR.out
      have hcell := hw1.cell
      have hfr := hw1.frozen
      have hsz1 := hw1.lt
      have HW1 := Lib.hid hw1
      clear hw1 HR
      have hpos : (0 : Int) ≤ 8 * (i : Int) := by omega
      have hshift : (8 * (i : Int)).toNat = 8 * i := by omega
      have hi7 : i ≤ 7 := by omega
      go_wp2
      have hmin : min (8 * i) 64 = 8 * i := by omega
      have hw1 : IntKind.i64.wrap (i : Int) = (i : Int) := IntWalk.i64_in _ (by omega)
      have hw2 : IntKind.i64.wrap (8 * (i : Int)) = 8 * (i : Int) := IntWalk.i64_in _ (by omega)
      obtain ⟨x, hx⟩ : ∃ x : UInt8, UInt8.ofNat (m / 256 ^ i) = x := ⟨_, rfl⟩
      have hq : (m : Int) / 2 ^ (8 * i) % 256 = (x.toNat : Int) := by rw [← hx, ← Wm.byte_shift m i hi7, hmin]
      have hq2 : IntKind.u8.wrap ((m : Int) / 2 ^ (8 * i)) = (x.toNat : Int) := by rw [← hq]; simp [IntKind.wrap, IntKind.bits, IntKind.signed]
      have HX := Lib.hid hx
      have hlen : (bs ++ (UInt8.ofNat (128 + k) :: (Wm.be k m).take (k - (i + 1)))).length ≤ 1099511627776 + 9 := by simp [Wm.be_length]; omega
      clear hx hmin
      generalize hbs : bs ++ (UInt8.ofNat (128 + k) :: (Wm.be k m).take (k - (i + 1))) = bs1 at HW1 hlen
      have HBS := Lib.hid hbs
      clear hbs
      go_region_law ((refine step_append_lies _ (by rfl) _ _ _ (by rfl) 0 5 i0 (.int .u8 0) 1 1 Tryd.underlying25 HI0.out HZ0.out HZ1.out HZ2.out rfl (by decide) v1 bs1.length (bc bs1) (by rfl) ((HW1.out.own.alloc _).drew) ⟨wr.heap.size, 0, none⟩ 1 1 [.int .u8 x.toNat] (by rfl) (by rfl) (World.news_of_block (cs := #[.int .u8 x.toNat]) (t := 5) (fr := (0, 0)) (heap_alloc_new wr _)) (by simp [Value.oneCell']) (by omega) (by unfold maxLen; omega) (by omega) (Nat.zero_le _) (wr.heap.size + 1) (by simp) ?_; intro g2 cap2 w2 hown2 hgrow2 hat2 hlt2; obtain ⟨hc2, hf2⟩ := HW1.out.far (grown_undrew hgrow2)))
      all_goals
        have hst : Hid (Wrote b v (bs1 ++ [x]) w (w2.setCell ⟨b, 0, none⟩ (.slice (some ⟨g2, 0, none⟩) (bs1.length + 1) cap2))) :=
          Wrote.step HW1.out hf1 ho1 _ hown2 (grown_undrew hgrow2) hat2
        have hfin0 : bs1 ++ [x] = bs ++ (UInt8.ofNat (128 + k) :: (Wm.be k m).take (k - i)) := by
          rw [← HBS.out, Wm.be_take_succ k m i (by omega), HX.out]; simp
        have hfin := Lib.hid hfin0
        clear hfin0
        clear hown2 hgrow2 hat2 hlt2 hq hq2 hw1 hw2 hc2 hf2
        go_wp2
        go_roundw
        case rel => exact ⟨i, by omega, by go_num, by rw [← hfin.out]; exact hst⟩
        case measure => simp [intOf]
theorem number_w (b : Nat) (v : Value) (bs : List UInt8) (n : Int) (w : World) (h : Wr b v bs w) (hbig : bs.length ≤ 1099511627776) (hn : Wm.inR n) :
    Calls Tryd.prog 23 #[.pointer (some ⟨b, 0, none⟩), .int .i64 n] w fun e w' => e = .returned (.tuple #[]) ∧ Wrote b v (bs ++ Wm.enc n) w w' := by
  unfold Wm.inR at hn
  by_cases h0 : n < 0
  · obtain ⟨m, rfl⟩ : ∃ m : Nat, n = -1 - (m : Int) := ⟨(-1 - n).toNat, by omega⟩
    exact number_neg b v bs m w h hbig (by omega)
  · obtain ⟨m, rfl⟩ : ∃ m : Nat, n = (m : Int) := ⟨n.toNat, by omega⟩
    exact number_pos b v bs m w h hbig (by omega)
end Go.Proofs.YtmipomglbccjbaaDoor
/- The other calls of a Writer: Text, Flag, Raw, Bytes; and Read. -/
namespace Go.Proofs.YtmipomglbccjbaaDoor
open Go.RowKit

/-- bytes appended to the writer, and the new slice stored -/
theorem Wrote.app {b : Nat} {v v1 v2 : Value} {bs l : List UInt8} {w wr w1 : World} (hw : Wr b v1 bs wr) (hf : Frs v v1 w.heap.size) (ho : Only (fun k => k = b ∨ v.ownBlock = some k) w wr)
    (hown : w1.ownsRow 0 5 1 v2 (bs.length + l.length) (bc bs ++ bc l))
    (hgrow : wr.grownBy w1 v1.ownBlock) (hat : v2.ownBlock = v1.ownBlock ∨ v2.ownBlock = some wr.heap.size) :
    Wrote b v (bs ++ l) w (w1.setCell ⟨b, 0, none⟩ v2) := by
  have hb1 : w1.heap[b]? = some (.cells #[v1] 46 (0, 0)) := by
    rw [hgrow.block b hw.lt (fun e => hw.ne e.symm)]; exact hw.blk
  have hv1 : ∀ k, v1.ownBlock = some k → (k = b ∨ v.ownBlock = some k) ∨ w.heap.size ≤ k := by
    intro k hk
    rcases hf with e | ⟨g', e, hg⟩
    · left; right; rw [← e]; exact hk
    · right; rw [e] at hk; simp at hk; omega
  refine ⟨_, Wr.put (bs := bs ++ l) hb1 (by rw [bc_append, List.length_append]; exact hown), ?_, ?_⟩
  · rcases hat with e | e
    · unfold Frs at *; rw [e]; exact hf
    · exact .inr ⟨_, e, ho.size⟩
  · exact (ho.grown hgrow hv1).setCell (.inl (.inl rfl)) _
theorem Wr.far' {b : Nat} {v : Value} {bs : List UInt8} {w w2 : World} (h : Wr b v bs w) (hg : w.grownBy w2 v.ownBlock) : w2.cell? ⟨b, 0, none⟩ = some v ∧ w2.frozen? ⟨b, 0, none⟩ = false := by
  have hl := h.lt
  refine ⟨?_, ?_⟩
  · rw [hg.cell_far _ hl (fun e => h.ne e.symm)]; exact h.cell
  · rw [hg.frozen_far _ hl (fun e => h.ne e.symm)]; exact h.frozen
set_option maxHeartbeats 1000000 in
set_option maxRecDepth 100000 in
theorem text_w (b : Nat) (v : Value) (bs : List UInt8) (s : ByteArray) (w : World) (h : Wr b v bs w) (hbig : bs.length ≤ 1000000000000) (hs : s.size ≤ 1000000000) :
    Calls Tryd.prog 45 #[.pointer (some ⟨b, 0, none⟩), .string s] w fun e w' => e = .returned (.tuple #[]) ∧ Wrote b v (bs ++ Wm.enc s.size ++ s.data.toList) w w' := by
  obtain ⟨i0, hi0, hz0, hz1, hz2⟩ := info_parts info5
  have HI0 := Lib.hid hi0; have HZ0 := Lib.hid hz0; have HZ1 := Lib.hid hz1; have HZ2 := Lib.hid hz2
  clear hi0 hz0 hz1 hz2
  have HW := Lib.hid h
  clear h
  have hsl : s.data.toList.length = s.size := by rw [Array.length_toList]; rfl
  have HSL := Lib.hid hsl
  clear hsl
  have hr : Wm.inR (s.size : Int) := by unfold Wm.inR; omega
  have hel := Wm.enc_length_le _ hr
  go_enter Tryd.func45, Tryd.ntmps45
  go_wp2_with fail
  refine (number_w b v bs s.size _ HW.out (by omega) hr).mono ?_
  rintro e w1 ⟨rfl, v1, hw1, hf1, ho1⟩
  have hcell := hw1.cell
  have hfr := hw1.frozen
  have HW1 := Lib.hid hw1
  clear hw1
  have hl1 : (bs ++ Wm.enc s.size).length ≤ 1000000000009 := by simp; omega
  generalize hb1 : bs ++ Wm.enc s.size = bs1 at HW1 hl1
  have HB1 := Lib.hid hb1
  clear hb1
  go_wp2_with (at_builtin; refine wpList_append_src _ rfl (.tmp 14) (.tmp 15) 25 9 rfl 0 5 i0 (.int .u8 0) 1 1 Tryd.underlying25 HI0.out HZ0.out HZ1.out HZ2.out rfl v1 bs1.length (bc bs1) rfl HW1.out.own (.string s) s.size (bc s.data.toList) rfl (Src.ofString w1 Tryd.underlying9 s) ?qa ?qb (Nat.zero_le _) ?_)
  case qa => unfold maxLen; omega
  case qb => omega
  intro v2 w2 hown hgrow hat
  obtain ⟨hc2, hf2⟩ := HW1.out.far' hgrow
  have hst : Hid (Wrote b v (bs1 ++ s.data.toList) w (w2.setCell ⟨b, 0, none⟩ v2)) := Wrote.app HW1.out hf1 ho1 (by rw [HSL.out]; exact hown) hgrow hat
  obtain ⟨la, ln, lc, hv2⟩ : ∃ a n c, v2 = Value.slice a n c := by
    rcases hown.2 with ⟨e, _⟩ | ⟨g, cap, cur, e, _⟩
    · exact ⟨_, _, _, e⟩
    · exact ⟨_, _, _, e⟩
  clear hown hgrow hat
  rw [hv2] at hst ⊢
  go_wp2
  go_end0
  exact ⟨rfl, by rw [HB1.out]; exact hst.out⟩
theorem Byt.form {v : Value} {l : List UInt8} {w : World} (h : Byt v l w) : ∃ a c, v = .slice a l.length c := by
  rcases h with ⟨rfl, rfl⟩ | ⟨g, off, cap, cs, t, fr, rfl, _⟩
  · exact ⟨_, _, rfl⟩
  · exact ⟨_, _, rfl⟩
theorem flag_w (b : Nat) (v : Value) (bs : List UInt8) (f : Bool) (w : World) (h : Wr b v bs w) (hbig : bs.length ≤ 1000000000000) :
    Calls Tryd.prog 44 #[.pointer (some ⟨b, 0, none⟩), .bool f] w fun e w' => e = .returned (.tuple #[]) ∧ Wrote b v (bs ++ Wm.enc (if f then 1 else 0)) w w' := by
  have HW := Lib.hid h
  clear h
  cases f
  · go_enter Tryd.func44, Tryd.ntmps44
    go_wp2_with fail
    refine (number_w b v bs 0 _ HW.out (by omega) (by unfold Wm.inR; omega)).mono ?_
    rintro e w1 ⟨rfl, hw⟩
    have H := Lib.hid hw
    clear hw
    go_wp2
    go_end0
    exact ⟨rfl, H.out⟩
  · go_enter Tryd.func44, Tryd.ntmps44
    go_wp2_with fail
    refine (number_w b v bs 1 _ HW.out (by omega) (by unfold Wm.inR; omega)).mono ?_
    rintro e w1 ⟨rfl, hw⟩
    have H := Lib.hid hw
    clear hw
    go_wp2
    go_end0
    exact ⟨rfl, H.out⟩
set_option maxHeartbeats 400000 in
theorem bytes_w (b : Nat) (v : Value) (bs : List UInt8) (w : World) (h : Wr b v bs w) (hbig : bs.length ≤ 1000000000000) :
    Calls Tryd.prog 25 #[.pointer (some ⟨b, 0, none⟩)] w (Cloned bs w) := by
  have hcell := h.cell
  have HB := Lib.hid (Byt.of_own h.own)
  clear h
  go_enter Tryd.func25, Tryd.ntmps25
  go_wp2_with fail
  refine (clone_any v bs _ HB.out (by omega)).mono ?_
  rintro e w1 ⟨v1, rfl, ho, hb⟩
  have HO := Lib.hid ho; have HB1 := Lib.hid hb
  clear ho hb
  go_wp2
  go_ret
  exact ⟨_, rfl, HO.out, HB1.out⟩
/-- A READER: block b holds it; st: what it has not consumed, none: it is bad. -/
structure Rd (b : Nat) (sv : Value) (st : Option (List UInt8)) (w : World) : Prop where
  blk : w.heap[b]? = some (.cells #[sv, .bool st.isNone] 76 (0, 0))
  byt : Byt sv (st.getD []) w
end Go.Proofs.YtmipomglbccjbaaDoor
