/- The reference of layer 1: its Number and Text give the encoding. -/
import Derived.Test.YtgpeombkdompdaaWireSeq
namespace Go.Proofs.Ytgpeombkdompdaa
open Go.RowKit

theorem own_lit (w : World) (x : Value) (B : Nat) (hB : B ≤ w.heap.size) : (w.alloc (.cells #[x] 5)).ownsRow B 5 1 (.slice (some ⟨w.heap.size, 0, none⟩) 1 1) 1 [x] :=
  ⟨rfl, .inr ⟨w.heap.size, 1, #[x], rfl, hB, heap_alloc_new w _, Nat.le_refl _, by unfold maxLen; decide, rfl, rfl⟩⟩

theorem src_own {w : World} {B : Nat} {v : Value} {k : Nat} {l : List UInt8} (h : w.ownsRow B 5 1 v k (bc l)) (hl : l.length = k) (o : Obj) : Src Try.prog 1 24 v k (bc l) (w.alloc o) := by
  have h2 := (Byt.of_own (h.alloc o)).src
  rw [hl] at h2
  exact h2

set_option maxHeartbeats 2000000 in
set_option maxRecDepth 100000 in
theorem ref_number (n : Int) (w : World) (hn : Wm.inR n) : Calls Try.prog 11 #[.int .i64 n] w (Cloned (Wm.enc n) w) := by
  obtain ⟨i0, hi0, hz0, hz1, hz2⟩ := info_parts info5
  have HI0 := Lib.hid hi0; have HZ0 := Lib.hid hz0; have HZ1 := Lib.hid hz1; have HZ2 := Lib.hid hz2
  clear hi0 hz0 hz1 hz2
  have hml := Wm.mag_lt n hn
  have hmb := Wm.mag_back n
  have hen : Wm.enc n = Wm.hdr n :: Wm.be (Wm.nb (Wm.mag n)) (Wm.mag n) := rfl
  have hhd := Wm.hdr_toNat n hn
  have HEN := Lib.hid hen
  have HHD := Lib.hid hhd
  clear hen hhd
  generalize Wm.mag n = m at *
  unfold Wm.inR at hn
  obtain ⟨hb, hbh⟩ : ∃ hb : Nat, Hid (((Wm.hdr n).toNat = hb + Wm.nb m) ∧ (hb = 0 ∨ hb = 128)) := ⟨_, HHD.out, by split; exact .inr rfl; exact .inl rfl⟩
  have hcase : (decide (n < 0) = true ∧ -1 - n = (m : Int) ∧ hb = 128) ∨ (decide (n < 0) = false ∧ n = (m : Int) ∧ hb = 0) := by
    have h1 := HHD.out
    have h2 := hbh.out.1
    by_cases h : n < 0
    · left; rw [if_pos h] at h1 hmb; exact ⟨by simpa using h, by omega, by omega⟩
    · right; rw [if_neg h] at h1 hmb; exact ⟨by simpa using h, by omega, by omega⟩
  clear hmb HHD
  rcases hcase with ⟨hd, hmn, rfl⟩ | ⟨hd, hmn, rfl⟩
  · go_enter Try.func11, Try.ntmps11
    go_wp2
    go_loopw [0, 4] (fun q d wr => ∃ (k : Nat) (a : Option Addr) (c : Nat), q = .int .i64 ((m / 256 ^ k : Nat) : Int) ∧ d = .slice a k c ∧ Hid (k = 0 ∨ 256 ^ (k - 1) ≤ m) ∧ Hid (wr.ownsRow w.heap.size 5 1 (.slice a k c) k (bc (Wm.be k m))) ∧ Hid (Below w.heap.size w wr)) (fun q _ _ => (intOf q).toNat)
    case atStart => exact ⟨0, none, 0, by simp, rfl, .inl rfl, World.ownsRow_nil _ _ _ _, Below.refl _ _⟩
    case round =>
      obtain ⟨k, a, c, rfl, rfl, HK, HO, HB⟩ := hrel
      have hk8 : k ≤ 8 := by
        rcases Nat.lt_or_ge 8 k with h | h
        · rcases HK.out with e | e
          · omega
          · have : 256 ^ 8 ≤ 256 ^ (k - 1) := Nat.pow_le_pow_right (by omega) (by omega)
            omega
        · exact h
      obtain ⟨qq, hqq⟩ : ∃ qq : Nat, m / 256 ^ k = qq := ⟨_, rfl⟩
      have hqm : qq ≤ 9223372036854775807 := by have := Nat.div_le_self m (256 ^ k); omega
      have hsz := HB.out.size
      rcases Nat.eq_zero_or_pos qq with hz | hp
      · subst hz
        rw [hqq]
        have hnb : Wm.nb m = k := Wm.nb_unique m k (by omega) (by rw [Nat.div_eq_zero_iff] at hqq; rcases hqq with h | h; (have : 0 < 256 ^ k := Nat.pow_pos (by omega)); omega; exact h) HK.out
        have hfin : Hid (Wm.enc n = Wm.hdr n :: Wm.be k m) := by show _ = _; rw [HEN.out, hnb]
        have hhk : Hid (((Wm.hdr n).toNat : Int) = ((128 + k : Nat) : Int)) := by show _ = _; rw [hbh.out.1, hnb]
        clear hqq hnb HEN
        go_wp2_with (at_builtin; refine wpList_append_src _ rfl (.tmp 24) (.tmp 25) 24 24 rfl w.heap.size 5 i0 (.int .u8 0) 1 1 Try.underlying24 HI0.out HZ0.out HZ1.out HZ2.out rfl _ 1 [.int .u8 ((128 + k : Nat) : Int)] rfl (own_lit wr _ _ hsz) (.slice a k c) k (bc (Wm.be k m)) rfl ?qs ?qa ?qb ?qc ?_)
        case qs => exact src_own HO.out (Wm.be_length _ _) _
        case qa => unfold maxLen; omega
        case qb => omega
        case qc => simp; omega
        intro v2 w2 hown hgrow hat
        go_wp2
        go_ret
        refine ⟨v2, rfl, ?_, ?_⟩
        · rw [hfin.out]
          have e : bc (Wm.hdr n :: Wm.be k m) = [.int .u8 ((128 + k : Nat) : Int)] ++ bc (Wm.be k m) := by rw [← hhk.out]; rfl
          rw [e, List.length_cons, Wm.be_length, Nat.add_comm k 1]
          exact hown
        · exact (HB.out.alloc hsz _).grown hgrow (by simp; omega) (by intro k' hk'; simp [Value.ownBlock] at hk'; omega)
      · rw [hqq]
        have hx : ((qq : Int) % 256) = ((UInt8.ofNat qq).toNat : Int) := by rw [UInt8.toNat_ofNat']; omega
        have hpi : (0 : Int) < (qq : Int) := by omega
        have hbe : Wm.be (k + 1) m = UInt8.ofNat qq :: Wm.be k m := by rw [Wm.be, hqq]
        have hnx : m / 256 ^ (k + 1) = qq / 256 := by rw [Nat.pow_succ, ← Nat.div_div_eq_div_mul, hqq]
        have hge : 256 ^ k ≤ m := by
          have : 0 < m / 256 ^ k := by omega
          exact (Nat.div_pos_iff.1 this).2
        have HBE := Lib.hid hbe
        have HNX := Lib.hid hnx
        clear hqq hbe hnx
        generalize UInt8.ofNat qq = x at *
        go_wp2_with (at_builtin; refine wpList_append_src _ rfl (.tmp 14) (.tmp 15) 24 24 rfl w.heap.size 5 i0 (.int .u8 0) 1 1 Try.underlying24 HI0.out HZ0.out HZ1.out HZ2.out rfl _ 1 [.int .u8 x.toNat] rfl (own_lit wr _ _ hsz) (.slice a k c) k (bc (Wm.be k m)) rfl ?qs2 ?qa2 ?qb2 ?qc2 ?_)
        case qs2 => exact src_own HO.out (Wm.be_length _ _) _
        case qa2 => unfold maxLen; omega
        case qb2 => omega
        case qc2 => simp; omega
        intro v2 w2 hown hgrow hat
        have hbel := (HB.out.alloc hsz _).grown hgrow (by simp; omega) (by intro k' hk'; simp [Value.ownBlock] at hk'; omega)
        have hown2 : w2.ownsRow w.heap.size 5 1 v2 (k + 1) (bc (Wm.be (k + 1) m)) := by
          rw [HBE.out, Nat.add_comm k 1]; exact hown
        obtain ⟨a2, c2, hv2⟩ : ∃ a2 c2, v2 = .slice a2 (k + 1) c2 := by
          obtain ⟨a2, c2, e⟩ := (Byt.of_own hown2).form
          rw [Wm.be_length] at e; exact ⟨a2, c2, e⟩
        rw [hv2] at hown2 ⊢
        have HO2 := Lib.hid hown2
        have HB2 := Lib.hid hbel
        clear hown hgrow hat hbel hown2 hv2
        go_wp2
        go_roundw
        case rel => exact ⟨k + 1, a2, c2, by rw [HNX.out]; go_num, rfl, .inr hge, HO2, HB2⟩
        case measure => simp [intOf]; omega
  · go_enter Try.func11, Try.ntmps11
    go_wp2
    go_loopw [0, 4] (fun q d wr => ∃ (k : Nat) (a : Option Addr) (c : Nat), q = .int .i64 ((m / 256 ^ k : Nat) : Int) ∧ d = .slice a k c ∧ Hid (k = 0 ∨ 256 ^ (k - 1) ≤ m) ∧ Hid (wr.ownsRow w.heap.size 5 1 (.slice a k c) k (bc (Wm.be k m))) ∧ Hid (Below w.heap.size w wr)) (fun q _ _ => (intOf q).toNat)
    case atStart => exact ⟨0, none, 0, by simp, rfl, .inl rfl, World.ownsRow_nil _ _ _ _, Below.refl _ _⟩
    case round =>
      obtain ⟨k, a, c, rfl, rfl, HK, HO, HB⟩ := hrel
      have hk8 : k ≤ 8 := by
        rcases Nat.lt_or_ge 8 k with h | h
        · rcases HK.out with e | e
          · omega
          · have : 256 ^ 8 ≤ 256 ^ (k - 1) := Nat.pow_le_pow_right (by omega) (by omega)
            omega
        · exact h
      obtain ⟨qq, hqq⟩ : ∃ qq : Nat, m / 256 ^ k = qq := ⟨_, rfl⟩
      have hqm : qq ≤ 9223372036854775807 := by have := Nat.div_le_self m (256 ^ k); omega
      have hsz := HB.out.size
      rcases Nat.eq_zero_or_pos qq with hz | hp
      · subst hz
        rw [hqq]
        have hnb : Wm.nb m = k := Wm.nb_unique m k (by omega) (by rw [Nat.div_eq_zero_iff] at hqq; rcases hqq with h | h; (have : 0 < 256 ^ k := Nat.pow_pos (by omega)); omega; exact h) HK.out
        have hfin : Hid (Wm.enc n = Wm.hdr n :: Wm.be k m) := by show _ = _; rw [HEN.out, hnb]
        have hhk : Hid (((Wm.hdr n).toNat : Int) = (k : Int)) := by show _ = _; rw [hbh.out.1, hnb, Nat.zero_add]
        clear hqq hnb HEN
        go_wp2_with (at_builtin; refine wpList_append_src _ rfl (.tmp 24) (.tmp 25) 24 24 rfl w.heap.size 5 i0 (.int .u8 0) 1 1 Try.underlying24 HI0.out HZ0.out HZ1.out HZ2.out rfl _ 1 [.int .u8 (k : Int)] rfl (own_lit wr _ _ hsz) (.slice a k c) k (bc (Wm.be k m)) rfl ?qs3 ?qa3 ?qb3 ?qc3 ?_)
        case qs3 => exact src_own HO.out (Wm.be_length _ _) _
        case qa3 => unfold maxLen; omega
        case qb3 => omega
        case qc3 => simp; omega
        intro v2 w2 hown hgrow hat
        go_wp2
        go_ret
        refine ⟨v2, rfl, ?_, ?_⟩
        · rw [hfin.out]
          have e : bc (Wm.hdr n :: Wm.be k m) = [.int .u8 (k : Int)] ++ bc (Wm.be k m) := by rw [← hhk.out]; rfl
          rw [e, List.length_cons, Wm.be_length, Nat.add_comm k 1]
          exact hown
        · exact (HB.out.alloc hsz _).grown hgrow (by simp; omega) (by intro k' hk'; simp [Value.ownBlock] at hk'; omega)
      · rw [hqq]
        have hx : ((qq : Int) % 256) = ((UInt8.ofNat qq).toNat : Int) := by rw [UInt8.toNat_ofNat']; omega
        have hpi : (0 : Int) < (qq : Int) := by omega
        have hbe : Wm.be (k + 1) m = UInt8.ofNat qq :: Wm.be k m := by rw [Wm.be, hqq]
        have hnx : m / 256 ^ (k + 1) = qq / 256 := by rw [Nat.pow_succ, ← Nat.div_div_eq_div_mul, hqq]
        have hge : 256 ^ k ≤ m := by
          have : 0 < m / 256 ^ k := by omega
          exact (Nat.div_pos_iff.1 this).2
        have HBE := Lib.hid hbe
        have HNX := Lib.hid hnx
        clear hqq hbe hnx
        generalize UInt8.ofNat qq = x at *
        go_wp2_with (at_builtin; refine wpList_append_src _ rfl (.tmp 14) (.tmp 15) 24 24 rfl w.heap.size 5 i0 (.int .u8 0) 1 1 Try.underlying24 HI0.out HZ0.out HZ1.out HZ2.out rfl _ 1 [.int .u8 x.toNat] rfl (own_lit wr _ _ hsz) (.slice a k c) k (bc (Wm.be k m)) rfl ?qs4 ?qa4 ?qb4 ?qc4 ?_)
        case qs4 => exact src_own HO.out (Wm.be_length _ _) _
        case qa4 => unfold maxLen; omega
        case qb4 => omega
        case qc4 => simp; omega
        intro v2 w2 hown hgrow hat
        have hbel := (HB.out.alloc hsz _).grown hgrow (by simp; omega) (by intro k' hk'; simp [Value.ownBlock] at hk'; omega)
        have hown2 : w2.ownsRow w.heap.size 5 1 v2 (k + 1) (bc (Wm.be (k + 1) m)) := by
          rw [HBE.out, Nat.add_comm k 1]; exact hown
        obtain ⟨a2, c2, hv2⟩ : ∃ a2 c2, v2 = .slice a2 (k + 1) c2 := by
          obtain ⟨a2, c2, e⟩ := (Byt.of_own hown2).form
          rw [Wm.be_length] at e; exact ⟨a2, c2, e⟩
        rw [hv2] at hown2 ⊢
        have HO2 := Lib.hid hown2
        have HB2 := Lib.hid hbel
        clear hown hgrow hat hbel hown2 hv2
        go_wp2
        go_roundw
        case rel => exact ⟨k + 1, a2, c2, by rw [HNX.out]; go_num, rfl, .inr hge, HO2, HB2⟩
        case measure => simp [intOf]; omega

set_option maxHeartbeats 1000000 in
set_option maxRecDepth 100000 in
theorem ref_text (s : ByteArray) (w : World) (hs : s.size ≤ 1000000000) : Calls Try.prog 14 #[.string s] w (Cloned (tx s) w) := by
  obtain ⟨i0, hi0, hz0, hz1, hz2⟩ := info_parts info5
  have HI0 := Lib.hid hi0; have HZ0 := Lib.hid hz0; have HZ1 := Lib.hid hz1; have HZ2 := Lib.hid hz2
  clear hi0 hz0 hz1 hz2
  have hin : Wm.inR (s.size : Nat) := by unfold Wm.inR; omega
  have hel := Wm.enc_length_le (s.size : Nat) hin
  have hdl := dataLen s
  have HDL := Lib.hid hdl
  clear hdl
  go_enter Try.func14, Try.ntmps14
  go_wp2_with fail
  refine (ref_number (s.size : Nat) _ hin).mono ?_
  rintro e w1 ⟨v, rfl, ho, hb⟩
  have HO := Lib.hid ho
  have HB := Lib.hid hb
  have hsz := hb.size
  clear ho hb
  go_wp2_with (at_builtin; refine wpList_append_src _ rfl (.tmp 5) (.tmp 6) 24 9 rfl w.heap.size 5 i0 (.int .u8 0) 1 1 Try.underlying24 HI0.out HZ0.out HZ1.out HZ2.out rfl v (Wm.enc (s.size : Nat)).length (bc (Wm.enc (s.size : Nat))) rfl HO.out (.string s) s.size (bc s.data.toList) rfl (Src.ofString w1 Try.underlying9 s) ?qa ?qb hsz ?_)
  case qa => unfold maxLen; omega
  case qb => omega
  intro v2 w2 hown hgrow hat
  have hbel := HB.out.grown hgrow hsz (fun k hk => (HO.out.lt k hk).1)
  have HB2 := Lib.hid hbel
  have HO2 : Hid (w2.ownsRow w.heap.size 5 1 v2 (tx s).length (bc (tx s))) := by
    show World.ownsRow _ _ _ _ _ _ _
    rw [tx, bc_append, List.length_append, HDL.out]; exact hown
  clear hown hgrow hat hbel
  go_wp2
  go_ret
  exact ⟨v2, rfl, HO2.out, HB2.out⟩

/-! ### A nil Writer -/
theorem number_wnil (n : Int) (w : World) : Calls Try.prog 9 #[.pointer none, .int .i64 n] w fun e w' => e = .returned (.tuple #[]) ∧ w = w' := by
  go_enter Try.func9, Try.ntmps9
  go_wp2
  refine bodyPost_ret (results_none rfl _ _ _) rfl ?_
  exact ⟨rfl, rfl⟩
theorem text_wnil (s : ByteArray) (w : World) : Calls Try.prog 13 #[.pointer none, .string s] w fun e w' => e = .returned (.tuple #[]) ∧ w = w' := by
  go_enter Try.func13, Try.ntmps13
  go_wp2
  refine bodyPost_ret (results_none rfl _ _ _) rfl ?_
  exact ⟨rfl, rfl⟩
theorem raw_wnil (v : Value) (w : World) : Calls Try.prog 12 #[.pointer none, v] w fun e w' => e = .returned (.tuple #[]) ∧ w = w' := by
  go_enter Try.func12, Try.ntmps12
  go_wp2
  refine bodyPost_ret (results_none rfl _ _ _) rfl ?_
  exact ⟨rfl, rfl⟩
theorem flag_wnil (w : World) : Calls Try.prog 10 #[.pointer none, .bool true] w fun e w' => e = .returned (.tuple #[]) ∧ w = w' := by
  go_enter Try.func10, Try.ntmps10
  go_wp2_with fail
  refine (number_wnil 1 _).mono ?_
  rintro e w1 ⟨rfl, rfl⟩
  go_wp2
  go_end0
  exact ⟨rfl, rfl⟩
theorem bytes_wnil (w : World) : Calls Try.prog 15 #[.pointer none] w fun e w' => e = .returned (.slice none 0 0) ∧ w = w' := by
  go_enter Try.func15, Try.ntmps15
  go_wp2
  go_ret
  exact ⟨rfl, rfl⟩

theorem bstr_append (a b : List UInt8) : bstr a ++ bstr b = bstr (a ++ b) := by
  apply ByteArray.ext
  simp [bstr]

theorem flag_B {B b : Nat} {bs : List UInt8} {W w : World} (f : Bool) (h : WrB B b bs W w) (hbig : bs.length ≤ 1000000000000) :
    Calls Try.prog 10 #[.pointer (some ⟨b, 0, none⟩), .bool f] w fun e w' => e = .returned (.tuple #[]) ∧ WrB B b (bs ++ Wm.enc (if f then 1 else 0)) W w' := by
  obtain ⟨v, h1, h2⟩ := h.ex
  exact (flag_w b v bs f w h1 hbig).mono fun e w' ⟨he, hw⟩ => ⟨he, WrB.step h.le h2 h.bel h.base hw⟩

end Go.Proofs.Ytgpeombkdompdaa
