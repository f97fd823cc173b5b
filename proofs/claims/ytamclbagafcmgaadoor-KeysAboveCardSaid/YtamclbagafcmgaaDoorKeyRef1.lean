/- The reference of layer 5: power, bytes8, Above. -/
import Derived.Test.YtamclbagafcmgaaDoorKeyMath
import Derived.Test.YtamclbagafcmgaaDoorValB
import Derived.Test.YtamclbagafcmgaaDoorValR9
import Derived.Test.YtamclbagafcmgaaDoorValR11
import Derived.Test.YtamclbagafcmgaaDoorValR13
import Derived.Test.YtamclbagafcmgaaDoorDecA1
import Derived.BigRegion
import Derived.Laws.OwnMore
namespace Go.Proofs.YtamclbagafcmgaaDoor
open Go.RowKit

theorem ref5_power (k : Nat) (w : World) (hk : k ≤ 7) : Calls Tryd.prog 46 #[.int .i64 (k : Int)] w fun e w' => e = .returned (.int .u64 ((256 ^ k : Nat) : Int)) ∧ w = w' := by
  go_enter Tryd.func46, Tryd.ntmps46
  go_wp2
  go_loop [3, 4] (fun a i => ∃ j p : Nat, j ≤ k ∧ i = .int .i64 (j : Int) ∧ a = .int .u64 (p : Int) ∧ Hid (p = 256 ^ j)) (fun _ i => k - (Lib.intOf i).toNat)
  case atStart => exact ⟨0, 1, Nat.zero_le _, rfl, rfl, rfl⟩
  case round =>
    obtain ⟨j, p, hj, rfl, rfl, HP⟩ := hrel
    by_cases hlt : j < k
    · have hp : (p : Int) ≤ 281474976710656 := by
        have := Nat.pow_le_pow_right (n := 256) (by omega) (show j ≤ 6 by omega)
        rw [← HP.out] at this
        omega
      go_wp2
      go_round
      case rel => exact ⟨j + 1, p * 256, by omega, by go_num, by go_num, by show p * 256 = 256 ^ (j + 1); rw [Nat.pow_succ, HP.out]⟩
      case measure => simp [Lib.intOf]; omega
    · go_wp2
      go_ret
      exact ⟨ret_u64 (by rw [HP.out, show j = k by omega]; simp), rfl⟩

theorem Yt.set0 {g cap : Nat} {x x' : UInt8} {r : List UInt8} {w : World} (h : ∀ j, j < r.length + 1 → w.cell? ⟨g, j, none⟩ = some (Value.int .u8 ((x :: r).getD j 0).toNat)) (hg : g < w.heap.size) (hc : r.length + 1 ≤ cap) :
    Yt (.slice (some ⟨g, 0, none⟩) (r.length + 1) cap) (x' :: r) (w.setCell ⟨g, 0, none⟩ (.int .u8 x'.toNat)) := by
  refine .inr ⟨g, 0, cap, rfl, hc, by simpa using hg, fun j hj => ?_⟩
  rw [Nat.zero_add]
  cases j with
  | zero => exact World.cell?_setCell_same _ _ _ (h 0 (by omega))
  | succ j =>
    rw [World.cell?_setCell_other (h := ad_ne (.inr (by omega)))]
    rw [h (j + 1) (by simpa using hj)]
    rfl

def W64 (U : Nat) : Prop := U < 18446744073709551616
/-- the eight bytes of a word, the highest bit inverted in the first -/
def flip8 (U : Nat) : List UInt8 := (UInt8.ofNat (U / 256 ^ 7) ^^^ 128) :: Wm.be 7 U
theorem num8_flip8 (n : Int) (hn : i64 n) (U : Nat) (hU : (U : Int) = n % 18446744073709551616) : Vm.num8 n = flip8 U := Vm.num8_flip n hn U hU

theorem xor128 (x : UInt8) : bits .xor .u8 (x.toNat : Int) 128 = ((x.toNat ^^^ 128 : Nat) : Int) := by
  have h : ∀ q : Fin 256, bits .xor .u8 (q.val : Int) 128 = ((q.val ^^^ 128 : Nat) : Int) := by decide +kernel
  exact h ⟨x.toNat, x.toNat_lt⟩

set_option maxHeartbeats 1000000 in
set_option maxRecDepth 100000 in
theorem ref5_bytes8 (n : Int) (w : World) (hn : i64 n) : Calls Tryd.prog 37 #[.int .i64 n] w (Str (Vm.num8 n) w) := by
  obtain ⟨i0, hi0, hz0, hz1, hz2⟩ := info_parts info5y
  have HI0 := Lib.hid hi0; have HZ0 := Lib.hid hz0; have HZ1 := Lib.hid hz1; have HZ2 := Lib.hid hz2
  clear hi0 hz0 hz1 hz2
  obtain ⟨U, hU⟩ : ∃ U : Nat, (U : Int) = n % 18446744073709551616 := ⟨(n % 18446744073709551616).toNat, by omega⟩
  have hU64 : (U : Int) < 18446744073709551616 := by omega
  have hw : IntKind.u64.wrap n = (U : Int) := by rw [IntKind.wrap_u64, hU]
  have HF := Lib.hid (num8_flip8 n hn U hU)
  have HW := Lib.hid hw
  have HU : Hid (W64 U) := by show U < 18446744073709551616; omega
  clear hn hU hw hU64
  go_enter Tryd.func37, Tryd.ntmps37
  go_wp2
  go_loopw [3, 4] (fun bv iv wr => ∃ (j : Nat) (aa : Option Addr) (cc : Nat), j ≤ 8 ∧ iv = .int .i64 (j : Int) ∧ bv = .slice aa j cc ∧ Hid (wr.ownsRow w.heap.size 5 1 (.slice aa j cc) j (yc (Wm.be j U))) ∧ Hid (Below w.heap.size w wr)) (fun _ iv _ => 8 - (Lib.intOf iv).toNat)
  case atStart => exact ⟨0, none, 0, by omega, rfl, rfl, World.ownsRow_nil _ _ _ _, Below.refl _ _⟩
  case round =>
    obtain ⟨j, aa, cc, hj, rfl, rfl, HO, HB⟩ := hrel
    have hsz := HB.out.size
    by_cases hj8 : j < 8
    · obtain ⟨p, hp⟩ : ∃ p, p = 256 ^ j := ⟨_, rfl⟩
      have HP : Hid (∀ W, Calls Tryd.prog 46 #[.int .i64 (j : Int)] W fun e w' => e = .returned (.int .u64 (p : Int)) ∧ W = w') := by
        intro W; rw [hp]; exact ref5_power j W (by omega)
      have hp0 : 0 < p := by rw [hp]; exact Nat.pow_pos (by omega)
      obtain ⟨q, hq⟩ : ∃ q, q = U / p := ⟨_, rfl⟩
      obtain ⟨c, hc⟩ : ∃ c : UInt8, c = UInt8.ofNat q := ⟨_, rfl⟩
      have HBE : Hid (Wm.be (j + 1) U = [c] ++ Wm.be j U) := by
        show _ = _
        rw [Wm.be, hc, hq, hp]; rfl
      have hqw : IntKind.u64.wrap ((U : Int) / (p : Int)) = (q : Int) := by
        have hle := Nat.div_le_self U p
        rw [IntKind.wrap_u64, hq]
        have := HU.out
        unfold W64 at this
        omega
      have htm : ((q : Nat) : Int).tmod 256 = (c.toNat : Int) := by
        rw [Int.tmod_eq_emod_of_nonneg (by omega), hc, UInt8.toNat_ofNat']; omega
      have hcm : (c.toNat : Int) % 256 = (c.toNat : Int) := by have := c.toNat_lt; omega
      have hsrc : Src Tryd.prog 1 25 (.slice aa j cc) j (yc (Wm.be j U)) (wr.alloc (.cells #[.int .u8 (c.toNat : Int)] 5)) := by
        have h := ((Yt.of_own HO.out).keep ((Below.refl _ _).alloc (Nat.le_refl _) (.cells #[.int .u8 (c.toNat : Int)] 5))).src
        rw [Wm.be_length] at h
        exact h
      have HSRC := Lib.hid hsrc
      have hpi : (0 : Int) < (p : Int) := by omega
      have HPI := Lib.hid hpi
      clear hp hc hp0 hpi hq hsrc
      have HQW := Lib.hid hqw; have HTM := Lib.hid htm; have HCM := Lib.hid hcm
      clear hqw htm hcm
      go_wp2_with fail
      refine (HP.out _).mono ?_
      rintro e w1 ⟨rfl, rfl⟩
      rw [HW.out]
      have hpi := HPI.out
      have hpne : ((p : Int) == 0) = false := by rw [beq_eq_false_iff_ne]; omega
      have hqw := HQW.out; have htm := HTM.out; have hcm := HCM.out
      go_wp2_with (at_builtin; go_loud (refine wpList_append_src _ rfl (.tmp 16) (.tmp 17) 25 25 rfl w.heap.size 5 i0 (.int .u8 0) 1 1 Tryd.underlying25 HI0.out HZ0.out HZ1.out HZ2.out rfl (.slice (some ⟨wr.heap.size, 0, none⟩) 1 1) 1 (yc [c]) rfl (own_lity wr c w.heap.size hsz) _ j (yc (Wm.be j U)) rfl HSRC.out ?qa ?qb ?qc ?_))
      case qa => unfold maxLen; omega
      case qb => omega
      case qc => simp; omega
      intro v2 w2 hown hgrow hat
      have hbel := (HB.out.alloc hsz _).grown hgrow (by simp; omega) (fun i hi => ((own_lity wr c w.heap.size hsz).lt i hi).1)
      have hown2 : w2.ownsRow w.heap.size 5 1 v2 (j + 1) (yc (Wm.be (j + 1) U)) := by rw [HBE.out, yc_append, Nat.add_comm]; exact hown
      obtain ⟨a2, c2, hv2⟩ : ∃ a2 c2, v2 = .slice a2 (j + 1) c2 := by
        obtain ⟨a2, c2, e⟩ := (Yt.of_own hown2).form
        rw [Wm.be_length] at e; exact ⟨a2, c2, e⟩
      rw [hv2] at hown2 ⊢
      have HO2 := Lib.hid hown2
      have HB2 := Lib.hid hbel
      clear hown hgrow hat hbel hown2 hv2 hqw htm hcm hpi hpne
      go_wp2
      go_roundw
      case rel => exact ⟨j + 1, a2, c2, by omega, by go_num, rfl, HO2, HB2⟩
      case measure => simp [Lib.intOf]; omega
    · have hj8' : j = 8 := by omega
      subst hj8'
      obtain ⟨x, hx⟩ : ∃ x : UInt8, x = UInt8.ofNat (U / 256 ^ 7) := ⟨_, rfl⟩
      have hbe : Wm.be 8 U = x :: Wm.be 7 U := by rw [Wm.be, hx]
      have HFL : Hid (Vm.num8 n = (x ^^^ 128) :: Wm.be 7 U) := by show _ = _; rw [HF.out, hx]; rfl
      have hyt := Yt.of_own HO.out
      rw [hbe] at hyt
      have hlen : (x :: Wm.be 7 U).length = 8 := by rw [List.length_cons, Wm.be_length]
      obtain ⟨g, cap, hv, hgw, hgb, hcell, hcap⟩ : ∃ g cap, Value.slice aa 8 cc = .slice (some ⟨g, 0, none⟩) 8 cap ∧ g < wr.heap.size ∧ w.heap.size ≤ g ∧ (∀ j, j < 8 → wr.cell? ⟨g, j, none⟩ = some (Value.int .u8 ((x :: Wm.be 7 U).getD j 0).toNat)) ∧ 8 ≤ cap := by
        rcases HO.out.2 with ⟨hv, h0⟩ | ⟨g, cap, cur, hv, hB, hg, hc, hm, hs, ht⟩
        · exact absurd h0 (by decide)
        · rcases hyt with ⟨a, c, hv2, h0⟩ | ⟨g2, off, cap2, hv2, hc2, hg2, hcl⟩
          · cases h0
          · rw [hlen] at hv2 hcl
            rw [hv] at hv2
            injection hv2 with e1 e2 e3
            injection e1 with e1
            injection e1 with e1 e4
            subst e1; subst e4; subst e3
            exact ⟨g, cap, hv, hg2, hB, fun j hj => by have := hcl j hj; rwa [Nat.zero_add] at this, hc⟩
      injection hv with e1 e2 e3
      subst e1; subst e3
      have hfz := HO.out.frozenAt 0
      have hc0 := hcell 0 (by omega)
      rw [show (x :: Wm.be 7 U).getD 0 0 = x from rfl] at hc0
      have hset : Yt (.slice (some ⟨g, 0, none⟩) 8 cc) ((x ^^^ 128) :: Wm.be 7 U) (wr.setCell ⟨g, 0, none⟩ (.int .u8 ((x ^^^ 128).toNat : Int))) := by
        have h := Yt.set0 (x' := x ^^^ 128) (r := Wm.be 7 U) (cap := cc) (by rw [Wm.be_length]; exact hcell) hgw (by rw [Wm.be_length]; exact hcap)
        rw [Wm.be_length] at h
        exact h
      have hstr := Yt.str hset
      have HB2 := Lib.hid (HB.out.setCell (p := ⟨g, 0, none⟩) hgb (.int .u8 ((x ^^^ 128).toNat : Int)))
      have hx1 : (x ^^^ 128).toNat = x.toNat ^^^ 128 := by rw [UInt8.toNat_xor]; rfl
      rw [hx1] at hstr HB2
      have hxor := xor128 x
      clear hset hcell hyt hx hbe hlen HO HF HW HU hgb hx1
      go_wp2
      go_ret
      exact ⟨by rw [HFL.out]; rfl, HB2.out⟩

theorem above_empty : Vm.above [] = [] := rfl
theorem take_last (s : ByteArray) (n : Nat) (h0 : 0 < n) (h : n ≤ s.size) : s.data.toList.take n = s.data.toList.take (n - 1) ++ [s[n - 1]'(by omega)] := by
  have := take_next s (n - 1) (by omega)
  rw [show n - 1 + 1 = n by omega] at this
  exact this
theorem ext_take (s : ByteArray) (n : Nat) : s.extract 0 n = bstr (s.data.toList.take n) := by
  have h := bstr_extract s.data.toList 0 n
  rw [show bstr s.data.toList = s from rfl] at h
  rw [h, List.drop_zero, Nat.sub_zero]

set_option maxHeartbeats 1000000 in
set_option maxRecDepth 100000 in
theorem ref5_above (s : ByteArray) (w : World) (hz : s.size ≤ 1000000) : Calls Tryd.prog 22 #[.string s] w (Str (Vm.above s.data.toList) w) := by
  obtain ⟨R, hR⟩ : ∃ R, R = Vm.above s.data.toList := ⟨_, rfl⟩
  rw [← hR]
  have HR0 := Lib.hid hR
  clear hR
  go_enter Tryd.func22, Tryd.ntmps22
  go_wp2
  go_loop [3] (fun nv => ∃ n : Nat, n ≤ s.size ∧ nv = .int .i64 (n : Int) ∧ Hid (R = Vm.above (s.data.toList.take n))) (fun nv => (Lib.intOf nv).toNat)
  case atStart => exact ⟨s.size, Nat.le_refl _, rfl, by rw [HR0.out, take_all]; rfl⟩
  case round =>
    obtain ⟨n, hn, rfl, HR⟩ := hrel
    clear HR0
    by_cases h0 : n = 0
    · subst h0
      have HE : Hid (R = []) := by show _ = _; rw [HR.out, List.take_zero]; rfl
      clear HR
      go_wp2
      go_ret
      exact ⟨by rw [HE.out]; rfl, Below.refl _ _⟩
    have hix : IntKind.i64.wrap ((n : Int) - 1) = ((n - 1 : Nat) : Int) := by rw [IntWalk.i64_in _ (by omega)]; omega
    have hlt : n - 1 < s.size := by omega
    have hn0 : (0 : Int) < (n : Int) := by omega
    have q0 : ((n : Int) == 0) = false := by rw [beq_eq_false_iff_ne]; omega
    obtain ⟨c, hc⟩ : ∃ c, s[n - 1] = c := ⟨_, rfl⟩
    have htk := take_last s n (by omega) hn
    rw [hc] at htk
    have hci : s[n - 1].toNat = c.toNat := by rw [hc]
    by_cases h255 : c = 255
    · have q : ((c.toNat : Int) == 255) = true := by rw [h255]; rfl
      have HR2 : Hid (R = Vm.above (s.data.toList.take (n - 1))) := by show _ = _; rw [HR.out, htk, h255, Vm.above_255]
      clear HR htk hc h255
      go_wp2
      go_round
      case rel => exact ⟨n - 1, by omega, by go_num, HR2⟩
      case measure => simp [Lib.intOf]; omega
    · have q : ((c.toNat : Int) == 255) = false := by
        rw [beq_eq_false_iff_ne]; intro e; exact h255 (UInt8.toNat_inj.1 (by show c.toNat = 255; omega))
      have HR2 : Hid (bstr (s.data.toList.take (n - 1)) ++ bstr [c + 1] = bstr R) := by show _ = _; rw [HR.out, htk, Vm.above_inc c h255, bstr_append]
      have hext := ext_take s (n - 1)
      have hsz1 : (bstr (s.data.toList.take (n - 1))).size ≤ 1000000 := by rw [bstr_size]; simp; omega
      clear HR htk hc h255
      have hx1 : ((c + 1).toNat : Int) = ((c.toNat : Int) + 1) % 256 := by rw [UInt8.toNat_add]; show (((c.toNat + 1) % 256 : Nat) : Int) = _; omega
      have hcv : (convert 25 9 (.slice (some ⟨w.heap.size, 0, none⟩) 1 1)).run Tryd.prog (w.alloc (.cells #[.int .u8 (((c.toNat : Int) + 1) % 256)] 5)).drew = .ok (.string (bstr [c + 1])) (w.alloc (.cells #[.int .u8 (((c.toNat : Int) + 1) % 256)] 5)).drew := by
        rw [← hx1]
        exact Yt.str ((Yt.of_own (own_lity w (c + 1) 0 (Nat.zero_le _))).keep ⟨rfl, rfl, rfl, Nat.le_refl _, fun _ _ => rfl⟩)
      have hn1 : n ≤ s.size + 1 := by omega
      have hsz2 : (bstr [c + 1]).size = 1 := bstr_size _
      clear hx1
      go_wp2_with fail
      go_region
      go_wp2
      go_ret
      exact ⟨ret_str HR2.out, ((Below.refl _ _).alloc (Nat.le_refl _) _).trans ⟨rfl, rfl, rfl, Nat.le_refl _, fun _ _ => rfl⟩⟩
end Go.Proofs.YtamclbagafcmgaaDoor
