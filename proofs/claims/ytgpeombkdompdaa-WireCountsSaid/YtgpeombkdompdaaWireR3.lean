/- The calls of a Reader that consume: between, Number, Count, Text, Flag. -/
import Derived.Test.YtgpeombkdompdaaWireR2
import Derived.Outline
namespace Go.Proofs.Ytgpeombkdompdaa
open Go.RowKit

/-- what a reader in the state st answers for a number from lo to hi, and its state behind -/
def btw (lo hi : Int) (st : Option (List UInt8)) : Int × Option (List UInt8) :=
  match st with
  | none => (0, none)
  | some l => match Wm.dec l with
    | none => (0, none)
    | some (n, k) => if n < lo ∨ hi < n then (0, none) else (n, some (l.drop k))

/-- s[k:] of bytes in memory -/
theorem Byt.from_ {sv : Value} {l : List UInt8} {w : World} (h : Byt sv l w) (k : Nat) (hk : k ≤ l.length) :
    ∃ a c b d, sv = .slice a l.length c ∧ Byt (.slice b (l.length - k) d) (l.drop k) w ∧ (Value.slice b (l.length - k) d).ownBlock = sv.ownBlock ∧
      ∀ w', (Instr.slice 24 (.slice a l.length c) (some (.int .i64 (k : Int))) none none).run Try.prog w' = .ok (.slice b (l.length - k) d) w' := by
  have hs : ∀ w' : World, (sizeOf (Try.prog.elem 24)).run Try.prog w' = .ok 1 w' := fun w' => by kernel_rfl
  have hr : ∀ (a : Option Addr) (c : Nat) (w' : World), (Instr.slice 24 (.slice a l.length c) (some (.int .i64 (k : Int))) none none).run Try.prog w' = .ok (sliced a k l.length c 1) w' := fun a c w' => by
    rw [run_slice_l w' 24 a l.length c (by kernel_rfl) .i64 k (by omega) (by omega), hs]
    simp
  rcases h with ⟨rfl, rfl⟩ | ⟨g, off, cap, cs, t, fr, rfl, hc, hg, ht, hoff, hmax, hcell⟩
  · simp only [List.length_nil] at hk
    obtain rfl : k = 0 := by omega
    exact ⟨none, 0, none, 0, rfl, .inl ⟨rfl, rfl⟩, rfl, fun w' => by rw [hr]; simp [sliced]⟩
  · by_cases hck : cap = k
    · subst hck
      have hl : l.length = cap := by omega
      have hd : l.drop cap = [] := List.drop_eq_nil_of_le (by omega)
      refine ⟨some ⟨g, off, none⟩, cap, some ⟨g, off, none⟩, 0, rfl, ?_, rfl, fun w' => by rw [hr]; simp [sliced]⟩
      rw [hd]
      have e0 : l.length - cap = 0 := by omega
      rw [e0]
      exact .inr ⟨g, off, 0, cs, t, fr, rfl, Nat.le_refl _, hg, ht, by omega, hmax, fun j hj => by simp at hj⟩
    · refine ⟨some ⟨g, off, none⟩, cap, some ⟨g, off + k, none⟩, cap - k, rfl, ?_, rfl, fun w' => ?_⟩
      · refine .inr ⟨g, off + k, cap - k, cs, t, fr, by rw [List.length_drop], by rw [List.length_drop]; omega, hg, ht, by omega, hmax, fun j hj => ?_⟩
        rw [List.length_drop] at hj
        rw [show off + k + j = off + (k + j) by omega, hcell (k + j) (by omega)]
        simp [List.getD]
      · rw [hr]
        have hadd : (⟨g, off, none⟩ : Addr).add (k * 1) = ⟨g, off + k, none⟩ := by rw [Nat.mul_one]; unfold Addr.add; split <;> simp_all
        simp only [sliced, if_neg hck, Option.map_some, hadd]

set_option maxHeartbeats 1000000 in
theorem between_r (b : Nat) (sv : Value) (st : Option (List UInt8)) (lo hi : Int) (w : World) (h : Rd b sv st w) (hl : (st.getD []).length ≤ 1000000000000) :
    Calls Try.prog 28 #[.pointer (some ⟨b, 0, none⟩), .int .i64 lo, .int .i64 hi] w fun e w' => e = .returned (.int .i64 (btw lo hi st).1) ∧ Red b sv (btw lo hi st).2 w w' := by
  have HR := Lib.hid h
  have hc0 := h.cell0
  have hf0 := h.frozen 0
  clear h
  cases st with
  | none =>
    go_enter Try.func28, Try.ntmps28
    go_wp2_with fail
    refine (ok_r b _ none _ HR.out).mono ?_
    rintro e w1 ⟨rfl, rfl⟩
    simp only [Option.isSome_none]
    go_wp2
    go_ret
    exact ⟨rfl, Red.refl HR.out⟩
  | some l =>
    simp only [Option.getD_some] at hl
    rcases hd : Wm.dec l with _ | ⟨n, k⟩
    · have hdv : dv l = (0, 0) := by unfold dv; rw [hd]; rfl
      have hb : Hid (btw lo hi (some l) = (0, none)) := by show btw lo hi (some l) = (0, none); unfold btw; simp [hd]
      have HDV := Lib.hid hdv
      clear hdv hd
      go_enter Try.func28, Try.ntmps28
      go_wp2_with fail
      refine (ok_r b _ (some l) _ HR.out).mono ?_
      rintro e w1 ⟨rfl, rfl⟩
      simp only [Option.isSome_some]
      go_wp2_with fail
      refine (decode_any sv l _ HR.out.byt hl).mono ?_
      rintro e w1 ⟨rfl, rfl⟩
      rw [HDV.out]
      go_wp2_with fail
      refine (fail_r b sv _ _ HR.out).mono ?_
      rintro e w1 ⟨rfl, hr⟩
      have HR1 := Lib.hid hr
      clear hr
      go_wp2
      go_ret
      rw [hb.out]
      exact ⟨rfl, HR1.out⟩
    · obtain ⟨hin, hk1, hk9, hkl⟩ := Wm.dec_some hd
      have hdv : dv l = (n, k) := by unfold dv; rw [hd]; rfl
      have HDV := Lib.hid hdv
      have hk0 : ((k : Int) == 0) = false := by simp; omega
      by_cases hbad : n < lo ∨ hi < n
      · have hb : Hid (btw lo hi (some l) = (0, none)) := by show btw lo hi (some l) = (0, none); unfold btw; simp [hd, hbad]
        clear hdv hd
        have hbi : decide (n < lo) = true ∨ (decide (n < lo) = false ∧ decide (hi < n) = true) := by
          by_cases hx : n < lo
          · left; simpa using hx
          · right; exact ⟨by simpa using hx, by simp; omega⟩
        rcases hbi with hbi | ⟨hbi, hbi2⟩
        all_goals
          go_enter Try.func28, Try.ntmps28
          go_wp2_with fail
          refine (ok_r b _ (some l) _ HR.out).mono ?_
          rintro e w1 ⟨rfl, rfl⟩
          simp only [Option.isSome_some]
          go_wp2_with fail
          refine (decode_any sv l _ HR.out.byt hl).mono ?_
          rintro e w1 ⟨rfl, rfl⟩
          rw [HDV.out]
          go_wp2_with fail
          refine (fail_r b sv _ _ HR.out).mono ?_
          rintro e w1 ⟨rfl, hr⟩
          have HR1 := Lib.hid hr
          clear hr
          go_wp2
          go_ret
          rw [hb.out]
          exact ⟨rfl, HR1.out⟩
      · have hb : Hid (btw lo hi (some l) = (n, some (l.drop k))) := by show btw lo hi (some l) = (n, some (l.drop k)); unfold btw; simp [hd, hbad]
        clear hdv hd
        have hbi : decide (n < lo) = false := by simp; omega
        have hbi2 : decide (hi < n) = false := by simp; omega
        obtain ⟨a, c, a2, c2, hsv, hbyt, hown, hrun⟩ := HR.out.byt.from_ k hkl
        subst hsv
        have HBY := Lib.hid hbyt
        have HOW := Lib.hid hown
        clear hbyt hown
        simp only [Option.getD_some] at hrun
        go_enter Try.func28, Try.ntmps28
        go_wp2_with fail
        refine (ok_r b _ (some l) _ HR.out).mono ?_
        rintro e w1 ⟨rfl, rfl⟩
        simp only [Option.isSome_some]
        go_wp2_with fail
        refine (decode_any _ l _ HR.out.byt hl).mono ?_
        rintro e w1 ⟨rfl, rfl⟩
        rw [HDV.out]
        go_wp2
        go_ret
        rw [hb.out]
        refine ⟨rfl, _, ⟨setCell_blk HR.out.blk _, ?_⟩, .inr HOW.out, ?_⟩
        · exact HBY.out.keep (p := fun k => k = b) ((Only.refl (fun k => k = b) _).setCell (q := ⟨b, 0, none⟩) (.inl rfl) _) (fun g hg e => HR.out.ne (HOW.out.symm.trans (by rw [← e]; exact hg)))
        · exact (Only.refl (fun k => k = b) _).setCell (q := ⟨b, 0, none⟩) (.inl rfl) _

theorem number_r (b : Nat) (sv : Value) (st : Option (List UInt8)) (w : World) (h : Rd b sv st w) (hl : (st.getD []).length ≤ 1000000000000) :
    Calls Try.prog 22 #[.pointer (some ⟨b, 0, none⟩)] w fun e w' => e = .returned (.int .i64 (btw (-9223372036854775808) 9223372036854775807 st).1) ∧ Red b sv (btw (-9223372036854775808) 9223372036854775807 st).2 w w' := by
  have HR := Lib.hid h
  clear h
  go_enter Try.func22, Try.ntmps22
  go_wp2_with fail
  refine (between_r b sv st _ _ _ HR.out hl).mono ?_
  rintro e w1 ⟨rfl, hr⟩
  have HR1 := Lib.hid hr
  clear hr
  go_wp2
  go_ret
  exact ⟨rfl, HR1.out⟩

theorem count_r (b : Nat) (sv : Value) (st : Option (List UInt8)) (most : Int) (w : World) (h : Rd b sv st w) (hl : (st.getD []).length ≤ 1000000000000) :
    Calls Try.prog 18 #[.pointer (some ⟨b, 0, none⟩), .int .i64 most] w fun e w' => e = .returned (.int .i64 (btw 0 most st).1) ∧ Red b sv (btw 0 most st).2 w w' := by
  have HR := Lib.hid h
  clear h
  go_enter Try.func18, Try.ntmps18
  go_wp2_with fail
  refine (between_r b sv st _ _ _ HR.out hl).mono ?_
  rintro e w1 ⟨rfl, hr⟩
  have HR1 := Lib.hid hr
  clear hr
  go_wp2
  go_ret
  exact ⟨rfl, HR1.out⟩

theorem flag_r (b : Nat) (sv : Value) (st : Option (List UInt8)) (w : World) (h : Rd b sv st w) (hl : (st.getD []).length ≤ 1000000000000) :
    Calls Try.prog 21 #[.pointer (some ⟨b, 0, none⟩)] w fun e w' => e = .returned (.bool ((btw 0 1 st).1 == 1)) ∧ Red b sv (btw 0 1 st).2 w w' := by
  have HR := Lib.hid h
  clear h
  go_enter Try.func21, Try.ntmps21
  go_wp2_with fail
  refine (count_r b sv st _ _ HR.out hl).mono ?_
  rintro e w1 ⟨rfl, hr⟩
  have HR1 := Lib.hid hr
  clear hr
  go_wp2
  go_ret
  exact ⟨rfl, HR1.out⟩

/-- bytes as a string -/
def bstr (l : List UInt8) : ByteArray := ⟨l.toArray⟩
theorem bstr_size (l : List UInt8) : (bstr l).size = l.length := by simp [bstr, ByteArray.size]
theorem bstr_data (l : List UInt8) : (bstr l).data.toList = l := rfl
theorem bstr_of (s : ByteArray) : bstr s.data.toList = s := rfl

theorem Byt.str {v : Value} {l : List UInt8} {w : World} (h : Byt v l w) : (convert 24 9 v).run Try.prog w = .ok (.string (bstr l)) w := by
  rcases h with ⟨rfl, rfl⟩ | ⟨g, off, cap, cs, t, fr, rfl, _, hg, _, _, _, hc⟩
  · exact run_convert_bytes_nil w 24 5 Try.underlying24 Try.underlying5 0 0 9 Try.underlying9
  · rw [run_convert_bytes_arg w 24 5 Try.underlying24 Try.underlying5 g off l.length cap (l.map fun b => (b.toNat : Int)) (by simp) ?_ 9 Try.underlying9]
    · have : strOfNums (l.map fun b => (b.toNat : Int)) = bstr l := by
        unfold strOfNums bstr
        congr 2
        rw [List.map_map]
        conv => rhs; rw [← List.map_id l]
        apply List.map_congr_left
        intro a _
        simp
      rw [this]
    · intro i hi
      rw [Lib.cell_of_heap hg, hc i hi]
      simp [List.getD, hi]

/-- s[:k] of bytes in memory -/
theorem Byt.upto {sv : Value} {l : List UInt8} {w : World} (h : Byt sv l w) (k : Nat) (hk : k ≤ l.length) :
    ∃ a c b d, sv = .slice a l.length c ∧ Byt (.slice b k d) (l.take k) w ∧ (Value.slice b k d).ownBlock = sv.ownBlock ∧
      ∀ w', (Instr.slice 24 (.slice a l.length c) none (some (.int .i64 (k : Int))) none).run Try.prog w' = .ok (.slice b k d) w' := by
  have hs : ∀ w' : World, (sizeOf (Try.prog.elem 24)).run Try.prog w' = .ok 1 w' := fun w' => by kernel_rfl
  rcases h with ⟨rfl, rfl⟩ | ⟨g, off, cap, cs, t, fr, rfl, hc, hg, ht, hoff, hmax, hcell⟩
  · simp only [List.length_nil] at hk
    obtain rfl : k = 0 := by omega
    exact ⟨none, 0, none, 0, rfl, .inl ⟨rfl, rfl⟩, rfl, fun w' => by rw [run_slice_h w' 24 none _ 0 (by kernel_rfl) .i64 _ (by omega) (by omega), hs]; simp [sliced]⟩
  · refine ⟨some ⟨g, off, none⟩, cap, some ⟨g, off, none⟩, cap, rfl, ?_, rfl, fun w' => ?_⟩
    · refine .inr ⟨g, off, cap, cs, t, fr, by rw [List.length_take, Nat.min_eq_left hk], by rw [List.length_take]; omega, hg, ht, by omega, hmax, fun j hj => ?_⟩
      rw [List.length_take] at hj
      rw [hcell j (by omega)]
      simp [List.getD, show j < k by omega]
    · rw [run_slice_h w' 24 _ _ cap (by kernel_rfl) .i64 _ (by omega) (by omega), hs]
      have hadd : (⟨g, off, none⟩ : Addr).add 0 = ⟨g, off, none⟩ := by unfold Addr.add; split <;> simp_all
      simp [sliced, hadd]

/-- what a reader answers for a string -/
def rt2 (n : Int) : Option (List UInt8) → List UInt8 × Option (List UInt8)
  | none => ([], none)
  | some l => if (l.length : Int) < n then ([], none) else (l.take n.toNat, some (l.drop n.toNat))
def rtext (st : Option (List UInt8)) : List UInt8 × Option (List UInt8) := rt2 (btw 0 9223372036854775807 st).1 (btw 0 9223372036854775807 st).2

theorem btw_none {lo hi : Int} {st : Option (List UInt8)} (h : (btw lo hi st).2 = none) : (btw lo hi st).1 = 0 := by
  unfold btw at *
  split at h
  · rfl
  · split at h
    · rfl
    · split at h
      · simp_all
      · cases h
theorem btw_le {lo hi : Int} {st : Option (List UInt8)} : ((btw lo hi st).2.getD []).length ≤ (st.getD []).length := by
  unfold btw
  split
  · simp
  · split
    · simp
    · split
      · simp
      · simp
theorem btw_in {lo hi : Int} {st : Option (List UInt8)} {l : List UInt8} (h : (btw lo hi st).2 = some l) : lo ≤ (btw lo hi st).1 ∧ (btw lo hi st).1 ≤ hi := by
  unfold btw at *
  split at h
  · cases h
  · split at h
    · cases h
    · split at h
      · cases h
      · rename_i hh
        rw [if_neg hh]
        simp only
        omega

/-- a number that was written is read again -/
theorem btw_enc (n lo hi : Int) (r : List UInt8) (hn : Wm.inR n) : btw lo hi (some (Wm.enc n ++ r)) = if n < lo ∨ hi < n then (0, none) else (n, some r) := by
  have h := Wm.dec_enc n hn r
  simp only [btw, h]
  simp
/-- a string that was written is read again -/
theorem rtext_enc (l r : List UInt8) (hs : l.length ≤ 1000000000) : rtext (some (Wm.enc (l.length : Nat) ++ (l ++ r))) = (l, some r) := by
  have hb : btw 0 9223372036854775807 (some (Wm.enc (l.length : Nat) ++ (l ++ r))) = ((l.length : Int), some (l ++ r)) := by
    rw [btw_enc _ _ _ _ (by unfold Wm.inR; omega), if_neg (by omega)]
  unfold rtext
  rw [hb]
  simp only [rt2]
  rw [if_neg (by simp; omega)]
  simp
theorem rtext_none : rtext none = ([], none) := rfl
theorem btw_bad (lo hi : Int) : btw lo hi none = (0, none) := rfl

theorem Red.trans {b : Nat} {sv sv' : Value} {st' : Option (List UInt8)} {w w1 w2 : World} (hs : sv'.ownBlock = none ∨ sv'.ownBlock = sv.ownBlock) (ho : Only (fun k => k = b) w w1) (h : Red b sv' st' w1 w2) : Red b sv st' w w2 := by
  obtain ⟨sv2, h1, h2, h3⟩ := h
  refine ⟨sv2, h1, ?_, ho.trans h3⟩
  rcases h2 with e | e
  · exact .inl e
  · rw [e]; exact hs

set_option maxHeartbeats 1000000 in
theorem text_r (b : Nat) (sv : Value) (st : Option (List UInt8)) (w : World) (h : Rd b sv st w) (hl : (st.getD []).length ≤ 1000000000000) :
    Calls Try.prog 20 #[.pointer (some ⟨b, 0, none⟩)] w fun e w' => e = .returned (.string (bstr (rtext st).1)) ∧ Red b sv (rtext st).2 w w' := by
  have HR := Lib.hid h
  clear h
  go_enter Try.func20, Try.ntmps20
  go_wp2_with fail
  refine (count_r b sv st _ _ HR.out hl).mono ?_
  rintro e w1 ⟨rfl, sv1, hr1, hs1, ho1⟩
  have hl1 := Nat.le_trans (btw_le (lo := 0) (hi := 9223372036854775807) (st := st)) hl
  have hn0 := btw_none (lo := 0) (hi := 9223372036854775807) (st := st)
  have hin := fun l => btw_in (lo := 0) (hi := 9223372036854775807) (st := st) (l := l)
  generalize hq : btw 0 9223372036854775807 st = q at *
  obtain ⟨n, st1⟩ := q
  simp only at *
  have HRT : Hid (rtext st = rt2 n st1) := by
    show rtext st = _
    unfold rtext
    rw [hq]
  have HR1 := Lib.hid hr1
  clear hq hr1
  cases st1 with
  | none =>
    obtain rfl : n = 0 := hn0 rfl
    clear hn0 hin
    go_wp2_with fail
    refine (left_r b _ none _ HR1.out).mono ?_
    rintro e w2 ⟨rfl, rfl⟩
    simp only [Option.getD_none, List.length_nil]
    go_wp2_with fail
    refine (ok_r b _ none _ HR1.out).mono ?_
    rintro e w2 ⟨rfl, rfl⟩
    simp only [Option.isSome_none]
    go_wp2
    go_ret
    rw [HRT.out]
    exact ⟨rfl, sv1, HR1.out, hs1, ho1⟩
  | some l =>
    obtain ⟨hn1, hn2⟩ := hin l rfl
    clear hn0 hin
    simp only [Option.getD_some] at hl1
    obtain ⟨m, rfl⟩ : ∃ m : Nat, n = (m : Int) := ⟨n.toNat, by omega⟩
    by_cases hlt : l.length < m
    · have hd : decide (l.length < m) = true := by simpa using hlt
      go_wp2_with fail
      refine (left_r b _ _ _ HR1.out).mono ?_
      rintro e w2 ⟨rfl, rfl⟩
      simp only [Option.getD_some]
      go_wp2_with fail
      refine (fail_r b _ _ _ HR1.out).mono ?_
      rintro e w2 ⟨rfl, hr2⟩
      obtain ⟨sv2, hrd2, hs2, ho2⟩ := Red.trans hs1 ho1 hr2
      have HR2 := Lib.hid hrd2
      clear hrd2 hr2
      go_wp2_with fail
      refine (ok_r b _ none _ HR2.out).mono ?_
      rintro e w3 ⟨rfl, rfl⟩
      simp only [Option.isSome_none]
      go_wp2
      go_ret
      rw [HRT.out]
      simp only [rt2]
      rw [if_pos (by omega)]
      exact ⟨rfl, sv2, HR2.out, hs2, ho2⟩
    · have hd : decide (l.length < m) = false := by simpa using hlt
      go_wp2_with fail
      refine (left_r b _ _ _ HR1.out).mono ?_
      rintro e w2 ⟨rfl, rfl⟩
      simp only [Option.getD_some]
      go_wp2_with fail
      refine (ok_r b _ _ _ HR1.out).mono ?_
      rintro e w2 ⟨rfl, rfl⟩
      simp only [Option.isSome_some]
      have hc0 := HR1.out.cell0
      have hf0 := HR1.out.frozen 0
      obtain ⟨a, c, a2, c2, hsv, hbyt, hown, hrun⟩ := HR1.out.byt.from_ m (by simpa using hlt)
      obtain ⟨a', c', a3, c3, hsv3, hbyt3, hown3, hrun3⟩ := HR1.out.byt.upto m (by simpa using hlt)
      simp only [Option.getD_some] at hsv hbyt hown hrun hsv3 hbyt3 hown3 hrun3
      subst hsv
      simp only [Value.slice.injEq, true_and] at hsv3
      obtain ⟨rfl, rfl⟩ := hsv3
      have hstr := hbyt3.str
      have HBY := Lib.hid hbyt
      have HOW := Lib.hid hown
      clear hbyt hown hbyt3 hown3
      go_wp2
      go_ret
      rw [HRT.out]
      simp only [rt2]
      rw [if_neg (by omega)]
      refine ⟨by simp, Red.trans hs1 ho1 ⟨_, ⟨setCell_blk HR1.out.blk _, ?_⟩, .inr HOW.out, ?_⟩⟩
      · exact HBY.out.keep (p := fun k => k = b) ((Only.refl (fun k => k = b) _).setCell (q := ⟨b, 0, none⟩) (.inl rfl) _) (fun g hg e => HR1.out.ne (HOW.out.symm.trans (by rw [← e]; exact hg)))
      · exact (Only.refl (fun k => k = b) _).setCell (q := ⟨b, 0, none⟩) (.inl rfl) _

end Go.Proofs.Ytgpeombkdompdaa
