/- Package keys: appendNumber, appendString. -/
import Derived.Test.YtamclbagafcmgaaDoorKeyCa
import Derived.Test.YtamclbagafcmgaaDoorKeyRef1
import Derived.Test.YtamclbagafcmgaaDoorKeyCb
import Derived.Deep.RegionLaw
import Derived.Laws.BitsAllLaws
namespace Go.Proofs.YtamclbagafcmgaaDoor
open Go.RowKit

/-- what a function that adds bytes to an owned row leaves -/
def App (B : Nat) (l : List UInt8) (w : World) (e : Ending) (w' : World) : Prop :=
  ∃ a n c, e = .returned (.slice a n c) ∧ n = l.length ∧ w'.ownsRow B 5 1 (.slice a n c) n (yc l) ∧ Below B w w'
theorem own_form {w : World} {B : Nat} {v : Value} {l : List UInt8} {n : Nat} (h : w.ownsRow B 5 1 v n (yc l)) : ∃ a c, v = .slice a n c := by
  have hn : n = l.length := by have h1 := h.1; rw [yc_length] at h1; omega
  obtain ⟨a, c, e⟩ := (Yt.of_own h).form
  exact ⟨a, c, by rw [e, hn]⟩
theorem own_len {w : World} {B : Nat} {v : Value} {l : List UInt8} {n : Nat} (h : w.ownsRow B 5 1 v n (yc l)) : n = l.length := by
  have h1 := h.1; rw [yc_length] at h1; omega

/-- a word's byte j from the top -/
theorem be_get (U j : Nat) (h : j < 8) : (Wm.be 8 U)[j]? = some (UInt8.ofNat (U / 256 ^ (7 - j))) := by
  have h1 : ∀ k j, j < k → (Wm.be k U)[j]? = some (UInt8.ofNat (U / 256 ^ (k - 1 - j))) := by
    intro k
    induction k with
    | zero => intro j hj; omega
    | succ k ih =>
      intro j hj
      rw [Wm.be]
      cases j with
      | zero => simp
      | succ j => rw [List.getElem?_cons_succ, ih j (by omega)]; congr 4; omega
  exact h1 8 j h
theorem be_take (U j : Nat) (h : j < 8) : (Wm.be 8 U).take (j + 1) = (Wm.be 8 U).take j ++ [UInt8.ofNat (U / 256 ^ (7 - j))] := by
  have hl : j < (Wm.be 8 U).length := by rw [Wm.be_length]; exact h
  have hg := be_get U j h
  rw [List.getElem?_eq_getElem hl] at hg
  rw [← List.take_append_getElem hl, Option.some.inj hg]

set_option maxHeartbeats 2000000 in
set_option maxRecDepth 100000 in
theorem key_appendNumber (B : Nat) (a : Option Addr) (n c : Nat) (xs : List UInt8) (k : Int) (w : World) (hk : i64 k) (hown : w.ownsRow B 5 1 (.slice a n c) n (yc xs)) (hB : B ≤ w.heap.size) (hl : xs.length ≤ 1000000) :
    Calls Tryd.prog 32 #[.slice a n c, .int .i64 k] w (App B (xs ++ Vm.num8 k) w) := by
  obtain ⟨i0, hi0, hz0, hz1, hz2⟩ := info_parts info5y
  have HI0 := Lib.hid hi0; have HZ0 := Lib.hid hz0; have HZ1 := Lib.hid hz1; have HZ2 := Lib.hid hz2
  clear hi0 hz0 hz1 hz2
  obtain ⟨U, hU⟩ : ∃ U : Nat, (U : Int) = k + 9223372036854775808 := ⟨(k + 9223372036854775808).toNat, by unfold i64 at hk; omega⟩
  have hN8 : Vm.num8 k = Wm.be 8 U := by unfold Vm.num8; congr 1; omega
  have hx : bits .xor .u64 (IntKind.u64.wrap k) 9223372036854775808 = (U : Int) := by
    rw [IntKind.wrap_u64, xor_top _ (by omega) (by omega)]
    unfold i64 at hk
    omega
  have hUb : U < 18446744073709551616 := by unfold i64 at hk; omega
  have HN8 := Lib.hid hN8
  have HUB : Hid (W64 U) := hUb
  have hnl := own_len hown
  have HN := Lib.hid hnl
  have hn : n ≤ 1000000 := by omega
  have HO := Lib.hid hown
  clear hU hN8 hk hUb hown hnl hl
  go_enter Tryd.func32, Tryd.ntmps32
  go_wp2_with fail
  go_loopw [0, 6] (fun bv iv wr => ∃ (j : Nat) (aa : Option Addr) (cc : Nat), j ≤ 8 ∧ iv = .int .i64 (8 - (j : Int)) ∧ bv = .slice aa (n + j) cc ∧ Hid (wr.ownsRow B 5 1 (.slice aa (n + j) cc) (n + j) (yc (xs ++ (Wm.be 8 U).take j))) ∧ Hid (Below B w wr)) (fun _ iv _ => (Lib.intOf iv).toNat)
  case atStart => exact ⟨0, a, c, by omega, by first | rfl | go_num, rfl, by rw [List.take_zero, List.append_nil]; exact HO.out, Below.refl _ _⟩
  case round =>
    obtain ⟨j, aa, cc, hj, rfl, rfl, HO2, HB⟩ := hrel
    have hsz := HB.out.size
    obtain ⟨m, hm⟩ : ∃ m, m = n + j := ⟨_, rfl⟩
    rw [← hm] at HO2 ⊢
    have HM := Lib.hid hm
    have hmb : m ≤ 1000008 := by omega
    obtain ⟨ys, hys⟩ : ∃ ys, ys = xs ++ (Wm.be 8 U).take j := ⟨_, rfl⟩
    rw [← hys] at HO2
    have HYS := Lib.hid hys
    clear hm hys
    rcases (show j = 0 ∨ j = 1 ∨ j = 2 ∨ j = 3 ∨ j = 4 ∨ j = 5 ∨ j = 6 ∨ j = 7 ∨ j = 8 by omega) with rfl | rfl | rfl | rfl | rfl | rfl | rfl | rfl | rfl
    · obtain ⟨x, hx'⟩ : ∃ x : UInt8, x = UInt8.ofNat (U / 256 ^ (7 - 0)) := ⟨_, rfl⟩
      have hb : (U : Int) / 72057594037927936 % 256 = (x.toNat : Int) := by
        rw [hx', UInt8.toNat_ofNat']
        show (U : Int) / 72057594037927936 % 256 = ((U / 72057594037927936 % 256 : Nat) : Int)
        omega
      have HT : Hid (xs ++ (Wm.be 8 U).take (0 + 1) = ys ++ [x]) := by
        show _ = _
        rw [be_take U 0 (by omega), HYS.out, ← hx', List.append_assoc]
      clear hx'
      go_wp2_with (at_builtin; refine wpList_append_src _ rfl (.tmp 14) (.tmp 21) 25 25 rfl B 5 i0 (.int .u8 0) 1 1 Tryd.underlying25 HI0.out HZ0.out HZ1.out HZ2.out rfl (.slice aa m cc) m (yc ys) rfl (HO2.out.alloc _) _ 1 (yc [x]) rfl (lit_srcy wr x) ?qa ?qb ?qc ?_)
      case qa => unfold maxLen; omega
      case qb => omega
      case qc => simp; omega
      intro v2 w2 hown hgrow hat
      rw [← yc_append, ← HT.out] at hown
      obtain ⟨a2, c2, rfl⟩ := own_form hown
      have HO3 : Hid (w2.ownsRow B 5 1 (.slice a2 (n + (0 + 1)) c2) (n + (0 + 1)) (yc (xs ++ (Wm.be 8 U).take (0 + 1)))) := by
        rw [show n + (0 + 1) = m + 1 by have := HM.out; omega]; exact hown
      have HB3 := Lib.hid ((HB.out.alloc (show B ≤ wr.heap.size by omega) (.cells #[.int .u8 (x.toNat : Int)] 5)).grown hgrow (by simp; omega) (fun i hi => (HO2.out.lt i hi).1))
      clear hown hgrow hat hb
      go_wp2
      go_roundw
      case rel => exact ⟨0 + 1, a2, c2, by omega, by first | rfl | go_num, by rw [show m + 1 = n + (0 + 1) by have := HM.out; omega], HO3, HB3⟩
      case measure => simp [Lib.intOf]
    · obtain ⟨x, hx'⟩ : ∃ x : UInt8, x = UInt8.ofNat (U / 256 ^ (7 - 1)) := ⟨_, rfl⟩
      have hb : (U : Int) / 281474976710656 % 256 = (x.toNat : Int) := by
        rw [hx', UInt8.toNat_ofNat']
        show (U : Int) / 281474976710656 % 256 = ((U / 281474976710656 % 256 : Nat) : Int)
        omega
      have HT : Hid (xs ++ (Wm.be 8 U).take (1 + 1) = ys ++ [x]) := by
        show _ = _
        rw [be_take U 1 (by omega), HYS.out, ← hx', List.append_assoc]
      clear hx'
      go_wp2_with (at_builtin; refine wpList_append_src _ rfl (.tmp 14) (.tmp 21) 25 25 rfl B 5 i0 (.int .u8 0) 1 1 Tryd.underlying25 HI0.out HZ0.out HZ1.out HZ2.out rfl (.slice aa m cc) m (yc ys) rfl (HO2.out.alloc _) _ 1 (yc [x]) rfl (lit_srcy wr x) ?qa ?qb ?qc ?_)
      case qa => unfold maxLen; omega
      case qb => omega
      case qc => simp; omega
      intro v2 w2 hown hgrow hat
      rw [← yc_append, ← HT.out] at hown
      obtain ⟨a2, c2, rfl⟩ := own_form hown
      have HO3 : Hid (w2.ownsRow B 5 1 (.slice a2 (n + (1 + 1)) c2) (n + (1 + 1)) (yc (xs ++ (Wm.be 8 U).take (1 + 1)))) := by
        rw [show n + (1 + 1) = m + 1 by have := HM.out; omega]; exact hown
      have HB3 := Lib.hid ((HB.out.alloc (show B ≤ wr.heap.size by omega) (.cells #[.int .u8 (x.toNat : Int)] 5)).grown hgrow (by simp; omega) (fun i hi => (HO2.out.lt i hi).1))
      clear hown hgrow hat hb
      go_wp2
      go_roundw
      case rel => exact ⟨1 + 1, a2, c2, by omega, by first | rfl | go_num, by rw [show m + 1 = n + (1 + 1) by have := HM.out; omega], HO3, HB3⟩
      case measure => simp [Lib.intOf]
    · obtain ⟨x, hx'⟩ : ∃ x : UInt8, x = UInt8.ofNat (U / 256 ^ (7 - 2)) := ⟨_, rfl⟩
      have hb : (U : Int) / 1099511627776 % 256 = (x.toNat : Int) := by
        rw [hx', UInt8.toNat_ofNat']
        show (U : Int) / 1099511627776 % 256 = ((U / 1099511627776 % 256 : Nat) : Int)
        omega
      have HT : Hid (xs ++ (Wm.be 8 U).take (2 + 1) = ys ++ [x]) := by
        show _ = _
        rw [be_take U 2 (by omega), HYS.out, ← hx', List.append_assoc]
      clear hx'
      go_wp2_with (at_builtin; refine wpList_append_src _ rfl (.tmp 14) (.tmp 21) 25 25 rfl B 5 i0 (.int .u8 0) 1 1 Tryd.underlying25 HI0.out HZ0.out HZ1.out HZ2.out rfl (.slice aa m cc) m (yc ys) rfl (HO2.out.alloc _) _ 1 (yc [x]) rfl (lit_srcy wr x) ?qa ?qb ?qc ?_)
      case qa => unfold maxLen; omega
      case qb => omega
      case qc => simp; omega
      intro v2 w2 hown hgrow hat
      rw [← yc_append, ← HT.out] at hown
      obtain ⟨a2, c2, rfl⟩ := own_form hown
      have HO3 : Hid (w2.ownsRow B 5 1 (.slice a2 (n + (2 + 1)) c2) (n + (2 + 1)) (yc (xs ++ (Wm.be 8 U).take (2 + 1)))) := by
        rw [show n + (2 + 1) = m + 1 by have := HM.out; omega]; exact hown
      have HB3 := Lib.hid ((HB.out.alloc (show B ≤ wr.heap.size by omega) (.cells #[.int .u8 (x.toNat : Int)] 5)).grown hgrow (by simp; omega) (fun i hi => (HO2.out.lt i hi).1))
      clear hown hgrow hat hb
      go_wp2
      go_roundw
      case rel => exact ⟨2 + 1, a2, c2, by omega, by first | rfl | go_num, by rw [show m + 1 = n + (2 + 1) by have := HM.out; omega], HO3, HB3⟩
      case measure => simp [Lib.intOf]
    · obtain ⟨x, hx'⟩ : ∃ x : UInt8, x = UInt8.ofNat (U / 256 ^ (7 - 3)) := ⟨_, rfl⟩
      have hb : (U : Int) / 4294967296 % 256 = (x.toNat : Int) := by
        rw [hx', UInt8.toNat_ofNat']
        show (U : Int) / 4294967296 % 256 = ((U / 4294967296 % 256 : Nat) : Int)
        omega
      have HT : Hid (xs ++ (Wm.be 8 U).take (3 + 1) = ys ++ [x]) := by
        show _ = _
        rw [be_take U 3 (by omega), HYS.out, ← hx', List.append_assoc]
      clear hx'
      go_wp2_with (at_builtin; refine wpList_append_src _ rfl (.tmp 14) (.tmp 21) 25 25 rfl B 5 i0 (.int .u8 0) 1 1 Tryd.underlying25 HI0.out HZ0.out HZ1.out HZ2.out rfl (.slice aa m cc) m (yc ys) rfl (HO2.out.alloc _) _ 1 (yc [x]) rfl (lit_srcy wr x) ?qa ?qb ?qc ?_)
      case qa => unfold maxLen; omega
      case qb => omega
      case qc => simp; omega
      intro v2 w2 hown hgrow hat
      rw [← yc_append, ← HT.out] at hown
      obtain ⟨a2, c2, rfl⟩ := own_form hown
      have HO3 : Hid (w2.ownsRow B 5 1 (.slice a2 (n + (3 + 1)) c2) (n + (3 + 1)) (yc (xs ++ (Wm.be 8 U).take (3 + 1)))) := by
        rw [show n + (3 + 1) = m + 1 by have := HM.out; omega]; exact hown
      have HB3 := Lib.hid ((HB.out.alloc (show B ≤ wr.heap.size by omega) (.cells #[.int .u8 (x.toNat : Int)] 5)).grown hgrow (by simp; omega) (fun i hi => (HO2.out.lt i hi).1))
      clear hown hgrow hat hb
      go_wp2
      go_roundw
      case rel => exact ⟨3 + 1, a2, c2, by omega, by first | rfl | go_num, by rw [show m + 1 = n + (3 + 1) by have := HM.out; omega], HO3, HB3⟩
      case measure => simp [Lib.intOf]
    · obtain ⟨x, hx'⟩ : ∃ x : UInt8, x = UInt8.ofNat (U / 256 ^ (7 - 4)) := ⟨_, rfl⟩
      have hb : (U : Int) / 16777216 % 256 = (x.toNat : Int) := by
        rw [hx', UInt8.toNat_ofNat']
        show (U : Int) / 16777216 % 256 = ((U / 16777216 % 256 : Nat) : Int)
        omega
      have HT : Hid (xs ++ (Wm.be 8 U).take (4 + 1) = ys ++ [x]) := by
        show _ = _
        rw [be_take U 4 (by omega), HYS.out, ← hx', List.append_assoc]
      clear hx'
      go_wp2_with (at_builtin; refine wpList_append_src _ rfl (.tmp 14) (.tmp 21) 25 25 rfl B 5 i0 (.int .u8 0) 1 1 Tryd.underlying25 HI0.out HZ0.out HZ1.out HZ2.out rfl (.slice aa m cc) m (yc ys) rfl (HO2.out.alloc _) _ 1 (yc [x]) rfl (lit_srcy wr x) ?qa ?qb ?qc ?_)
      case qa => unfold maxLen; omega
      case qb => omega
      case qc => simp; omega
      intro v2 w2 hown hgrow hat
      rw [← yc_append, ← HT.out] at hown
      obtain ⟨a2, c2, rfl⟩ := own_form hown
      have HO3 : Hid (w2.ownsRow B 5 1 (.slice a2 (n + (4 + 1)) c2) (n + (4 + 1)) (yc (xs ++ (Wm.be 8 U).take (4 + 1)))) := by
        rw [show n + (4 + 1) = m + 1 by have := HM.out; omega]; exact hown
      have HB3 := Lib.hid ((HB.out.alloc (show B ≤ wr.heap.size by omega) (.cells #[.int .u8 (x.toNat : Int)] 5)).grown hgrow (by simp; omega) (fun i hi => (HO2.out.lt i hi).1))
      clear hown hgrow hat hb
      go_wp2
      go_roundw
      case rel => exact ⟨4 + 1, a2, c2, by omega, by first | rfl | go_num, by rw [show m + 1 = n + (4 + 1) by have := HM.out; omega], HO3, HB3⟩
      case measure => simp [Lib.intOf]
    · obtain ⟨x, hx'⟩ : ∃ x : UInt8, x = UInt8.ofNat (U / 256 ^ (7 - 5)) := ⟨_, rfl⟩
      have hb : (U : Int) / 65536 % 256 = (x.toNat : Int) := by
        rw [hx', UInt8.toNat_ofNat']
        show (U : Int) / 65536 % 256 = ((U / 65536 % 256 : Nat) : Int)
        omega
      have HT : Hid (xs ++ (Wm.be 8 U).take (5 + 1) = ys ++ [x]) := by
        show _ = _
        rw [be_take U 5 (by omega), HYS.out, ← hx', List.append_assoc]
      clear hx'
      go_wp2_with (at_builtin; refine wpList_append_src _ rfl (.tmp 14) (.tmp 21) 25 25 rfl B 5 i0 (.int .u8 0) 1 1 Tryd.underlying25 HI0.out HZ0.out HZ1.out HZ2.out rfl (.slice aa m cc) m (yc ys) rfl (HO2.out.alloc _) _ 1 (yc [x]) rfl (lit_srcy wr x) ?qa ?qb ?qc ?_)
      case qa => unfold maxLen; omega
      case qb => omega
      case qc => simp; omega
      intro v2 w2 hown hgrow hat
      rw [← yc_append, ← HT.out] at hown
      obtain ⟨a2, c2, rfl⟩ := own_form hown
      have HO3 : Hid (w2.ownsRow B 5 1 (.slice a2 (n + (5 + 1)) c2) (n + (5 + 1)) (yc (xs ++ (Wm.be 8 U).take (5 + 1)))) := by
        rw [show n + (5 + 1) = m + 1 by have := HM.out; omega]; exact hown
      have HB3 := Lib.hid ((HB.out.alloc (show B ≤ wr.heap.size by omega) (.cells #[.int .u8 (x.toNat : Int)] 5)).grown hgrow (by simp; omega) (fun i hi => (HO2.out.lt i hi).1))
      clear hown hgrow hat hb
      go_wp2
      go_roundw
      case rel => exact ⟨5 + 1, a2, c2, by omega, by first | rfl | go_num, by rw [show m + 1 = n + (5 + 1) by have := HM.out; omega], HO3, HB3⟩
      case measure => simp [Lib.intOf]
    · obtain ⟨x, hx'⟩ : ∃ x : UInt8, x = UInt8.ofNat (U / 256 ^ (7 - 6)) := ⟨_, rfl⟩
      have hb : (U : Int) / 256 % 256 = (x.toNat : Int) := by
        rw [hx', UInt8.toNat_ofNat']
        show (U : Int) / 256 % 256 = ((U / 256 % 256 : Nat) : Int)
        omega
      have HT : Hid (xs ++ (Wm.be 8 U).take (6 + 1) = ys ++ [x]) := by
        show _ = _
        rw [be_take U 6 (by omega), HYS.out, ← hx', List.append_assoc]
      clear hx'
      go_wp2_with (at_builtin; refine wpList_append_src _ rfl (.tmp 14) (.tmp 21) 25 25 rfl B 5 i0 (.int .u8 0) 1 1 Tryd.underlying25 HI0.out HZ0.out HZ1.out HZ2.out rfl (.slice aa m cc) m (yc ys) rfl (HO2.out.alloc _) _ 1 (yc [x]) rfl (lit_srcy wr x) ?qa ?qb ?qc ?_)
      case qa => unfold maxLen; omega
      case qb => omega
      case qc => simp; omega
      intro v2 w2 hown hgrow hat
      rw [← yc_append, ← HT.out] at hown
      obtain ⟨a2, c2, rfl⟩ := own_form hown
      have HO3 : Hid (w2.ownsRow B 5 1 (.slice a2 (n + (6 + 1)) c2) (n + (6 + 1)) (yc (xs ++ (Wm.be 8 U).take (6 + 1)))) := by
        rw [show n + (6 + 1) = m + 1 by have := HM.out; omega]; exact hown
      have HB3 := Lib.hid ((HB.out.alloc (show B ≤ wr.heap.size by omega) (.cells #[.int .u8 (x.toNat : Int)] 5)).grown hgrow (by simp; omega) (fun i hi => (HO2.out.lt i hi).1))
      clear hown hgrow hat hb
      go_wp2
      go_roundw
      case rel => exact ⟨6 + 1, a2, c2, by omega, by first | rfl | go_num, by rw [show m + 1 = n + (6 + 1) by have := HM.out; omega], HO3, HB3⟩
      case measure => simp [Lib.intOf]
    · obtain ⟨x, hx'⟩ : ∃ x : UInt8, x = UInt8.ofNat (U / 256 ^ (7 - 7)) := ⟨_, rfl⟩
      have hb : (U : Int) / 1 % 256 = (x.toNat : Int) := by
        rw [hx', UInt8.toNat_ofNat']
        show (U : Int) / 1 % 256 = ((U / 1 % 256 : Nat) : Int)
        omega
      have hb2 : (U : Int) % 256 = (x.toNat : Int) := by rw [← hb, Int.ediv_one]
      have HT : Hid (xs ++ (Wm.be 8 U).take (7 + 1) = ys ++ [x]) := by
        show _ = _
        rw [be_take U 7 (by omega), HYS.out, ← hx', List.append_assoc]
      clear hx'
      go_wp2_with (at_builtin; refine wpList_append_src _ rfl (.tmp 14) (.tmp 21) 25 25 rfl B 5 i0 (.int .u8 0) 1 1 Tryd.underlying25 HI0.out HZ0.out HZ1.out HZ2.out rfl (.slice aa m cc) m (yc ys) rfl (HO2.out.alloc _) _ 1 (yc [x]) rfl (lit_srcy wr x) ?qa ?qb ?qc ?_)
      case qa => unfold maxLen; omega
      case qb => omega
      case qc => simp; omega
      intro v2 w2 hown hgrow hat
      rw [← yc_append, ← HT.out] at hown
      obtain ⟨a2, c2, rfl⟩ := own_form hown
      have HO3 : Hid (w2.ownsRow B 5 1 (.slice a2 (n + (7 + 1)) c2) (n + (7 + 1)) (yc (xs ++ (Wm.be 8 U).take (7 + 1)))) := by
        rw [show n + (7 + 1) = m + 1 by have := HM.out; omega]; exact hown
      have HB3 := Lib.hid ((HB.out.alloc (show B ≤ wr.heap.size by omega) (.cells #[.int .u8 (x.toNat : Int)] 5)).grown hgrow (by simp; omega) (fun i hi => (HO2.out.lt i hi).1))
      clear hown hgrow hat hb hb2
      go_wp2
      go_roundw
      case rel => exact ⟨7 + 1, a2, c2, by omega, by first | rfl | go_num, by rw [show m + 1 = n + (7 + 1) by have := HM.out; omega], HO3, HB3⟩
      case measure => simp [Lib.intOf]
    · have HF : Hid (ys = xs ++ Vm.num8 k) := by
        show _ = _
        rw [HYS.out, HN8.out, List.take_of_length_le (by rw [Wm.be_length]; omega)]
      go_wp2
      go_ret
      refine ⟨aa, m, cc, rfl, ?_, ?_, HB.out⟩
      · rw [← HF.out]; exact own_len HO2.out
      · rw [← HF.out]; exact HO2.out

theorem esc_take (s : ByteArray) (j : Nat) (hj : j < s.size) : Vm.esc0 (s.data.toList.take (j + 1)) = Vm.esc0 (s.data.toList.take j) ++ (if s[j] = 0 then [0, 255] else [s[j]]) := by
  have h : ∀ l r : List UInt8, Vm.esc0 (l ++ r) = Vm.esc0 l ++ Vm.esc0 r := by
    intro l r
    induction l with
    | nil => rfl
    | cons c l ih =>
      show Vm.esc0 (c :: (l ++ r)) = _
      rw [Vm.esc0, Vm.esc0, ih]
      split <;> rfl
  rw [take_next s j hj, h]
  congr 1
/-- two bytes written out -/
theorem own_lity2 (w : World) (x y : UInt8) (B : Nat) (hB : B ≤ w.heap.size) : (w.alloc (.cells #[.int .u8 (x.toNat : Int), .int .u8 (y.toNat : Int)] 5)).ownsRow B 5 1 (.slice (some ⟨w.heap.size, 0, none⟩) 2 2) 2 (yc [x, y]) :=
  ⟨rfl, .inr ⟨w.heap.size, 2, #[.int .u8 (x.toNat : Int), .int .u8 (y.toNat : Int)], rfl, hB, heap_alloc_new w _, Nat.le_refl _, by unfold maxLen; decide, rfl, rfl⟩⟩
theorem lit_srcy2 (w : World) (x y : UInt8) : Src Tryd.prog 1 25 (.slice (some ⟨w.heap.size, 0, none⟩) 2 2) 2 (yc [x, y]) (w.alloc (.cells #[.int .u8 (x.toNat : Int), .int .u8 (y.toNat : Int)] 5)) :=
  (Yt.of_own (own_lity2 w x y 0 (Nat.zero_le _))).src

set_option maxHeartbeats 2000000 in
set_option maxRecDepth 100000 in
theorem key_appendString (B : Nat) (a : Option Addr) (n c : Nat) (xs : List UInt8) (s : ByteArray) (w : World) (hown : w.ownsRow B 5 1 (.slice a n c) n (yc xs)) (hB : B ≤ w.heap.size) (hl : xs.length ≤ 1000000) (hs : s.size ≤ 1000000) :
    Calls Tryd.prog 33 #[.slice a n c, .string s] w (App B (xs ++ (Vm.esc0 s.data.toList ++ [0, 1])) w) := by
  obtain ⟨i0, hi0, hz0, hz1, hz2⟩ := info_parts info5y
  have HI0 := Lib.hid hi0; have HZ0 := Lib.hid hz0; have HZ1 := Lib.hid hz1; have HZ2 := Lib.hid hz2
  clear hi0 hz0 hz1 hz2
  have hn : n ≤ 1000000 := by have := own_len hown; omega
  have HO := Lib.hid hown
  clear hown hl
  go_enter Tryd.func33, Tryd.ntmps33
  go_wp2_with fail
  go_loopw [0, 8] (fun bv iv wr => ∃ (j m : Nat) (ys : List UInt8) (aa : Option Addr) (cc : Nat), j ≤ s.size ∧ iv = .int .i64 (j : Int) ∧ bv = .slice aa m cc ∧ m ≤ 1000000 + 2 * j ∧ Hid (ys = xs ++ Vm.esc0 (s.data.toList.take j)) ∧ Hid (wr.ownsRow B 5 1 (.slice aa m cc) m (yc ys)) ∧ Hid (Below B w wr)) (fun _ iv _ => s.size - (Lib.intOf iv).toNat)
  case atStart => exact ⟨0, n, xs, a, c, Nat.zero_le _, rfl, rfl, by omega, by show _ = _; rw [List.take_zero]; exact (List.append_nil _).symm, HO.out, Below.refl _ _⟩
  case round =>
    obtain ⟨j, m, ys, aa, cc, hj, rfl, rfl, hm, HYS, HO2, HB⟩ := hrel
    have hsz := HB.out.size
    by_cases hlt : j < s.size
    · obtain ⟨x, hx⟩ : ∃ x, s[j] = x := ⟨_, rfl⟩
      have hxi : s[j].toNat = x.toNat := by rw [hx]
      have het := esc_take s j hlt
      rw [hx] at het
      have HET := Lib.hid het
      clear hx het
      go_wp2_with (at_builtin; refine wpList_append_src _ rfl (.tmp 11) (.tmp 15) 25 25 rfl B 5 i0 (.int .u8 0) 1 1 Tryd.underlying25 HI0.out HZ0.out HZ1.out HZ2.out rfl (.slice aa m cc) m (yc ys) rfl (HO2.out.alloc _) _ 1 (yc [x]) rfl (lit_srcy wr x) ?qa ?qb ?qc ?_)
      case qa => unfold maxLen; omega
      case qb => omega
      case qc => simp; omega
      intro v2 w2 hown hgrow hat
      rw [← yc_append] at hown
      obtain ⟨a2, c2, rfl⟩ := own_form hown
      have HO3 := Lib.hid hown
      have HB3 := Lib.hid ((HB.out.alloc (show B ≤ wr.heap.size by omega) (.cells #[.int .u8 (x.toNat : Int)] 5)).grown hgrow (by simp; omega) (fun i hi => (HO2.out.lt i hi).1))
      have hsz3 := HB3.out.size
      clear hown hgrow hat HB HO2 hsz
      by_cases h0 : x = 0
      · have q : ((x.toNat : Int) == 0) = true := by rw [h0]; rfl
        have HT : Hid (xs ++ Vm.esc0 (s.data.toList.take (j + 1)) = ys ++ [x] ++ [255]) := by
          show _ = _
          rw [HET.out, if_pos h0, HYS.out, h0]; simp
        clear h0 HET HYS
        go_wp2_with (at_builtin; refine wpList_append_src _ rfl (.tmp 21) (.tmp 22) 25 25 rfl B 5 i0 (.int .u8 0) 1 1 Tryd.underlying25 HI0.out HZ0.out HZ1.out HZ2.out rfl (.slice a2 (m + 1) c2) (m + 1) (yc (ys ++ [x])) rfl (HO3.out.alloc _) _ 1 (yc [255]) rfl (lit_srcy w2 255) ?qa ?qb ?qc ?_)
        case qa => unfold maxLen; omega
        case qb => omega
        case qc => simp; omega
        intro v4 w4 hown hgrow hat
        rw [← yc_append, ← HT.out] at hown
        obtain ⟨a4, c4, rfl⟩ := own_form hown
        have HO4 := Lib.hid hown
        have HB4 := Lib.hid ((HB3.out.alloc (show B ≤ w2.heap.size by omega) (.cells #[.int .u8 255] 5)).grown hgrow (by simp; omega) (fun i hi => (HO3.out.lt i hi).1))
        clear hown hgrow hat HB3 HO3
        go_wp2
        go_roundw
        case rel => exact ⟨j + 1, m + 1 + 1, _, a4, c4, by omega, by go_num, rfl, by omega, rfl, HO4, HB4⟩
        case measure => simp [Lib.intOf]; omega
      · have q : ((x.toNat : Int) == 0) = false := by rw [beq_eq_false_iff_ne]; intro e; exact h0 (UInt8.toNat_inj.1 (by show x.toNat = 0; omega))
        have HT : Hid (ys ++ [x] = xs ++ Vm.esc0 (s.data.toList.take (j + 1))) := by
          show _ = _
          rw [HET.out, if_neg h0, HYS.out, List.append_assoc]
        clear h0 HET HYS
        go_wp2
        go_roundw
        case rel => exact ⟨j + 1, m + 1, ys ++ [x], a2, c2, by omega, by go_num, rfl, by omega, HT, HO3, HB3⟩
        case measure => simp [Lib.intOf]; omega
    · have hj' : j = s.size := by omega
      have HF : Hid (ys ++ [0, 1] = xs ++ (Vm.esc0 s.data.toList ++ [0, 1])) := by
        show _ = _
        rw [HYS.out, hj', take_all, List.append_assoc]
      clear hj'
      go_wp2_with (at_builtin; refine wpList_append_src _ rfl (.tmp 25) (.tmp 26) 25 25 rfl B 5 i0 (.int .u8 0) 1 1 Tryd.underlying25 HI0.out HZ0.out HZ1.out HZ2.out rfl (.slice aa m cc) m (yc ys) rfl (HO2.out.alloc _) _ 2 (yc [0, 1]) rfl (lit_srcy2 wr 0 1) ?qa ?qb ?qc ?_)
      case qa => unfold maxLen; omega
      case qb => omega
      case qc => simp; omega
      intro v2 w2 hown hgrow hat
      rw [← yc_append, HF.out] at hown
      obtain ⟨a2, c2, rfl⟩ := own_form hown
      have HO3 := Lib.hid hown
      have HB3 := Lib.hid ((HB.out.alloc (show B ≤ wr.heap.size by omega) (.cells #[.int .u8 0, .int .u8 1] 5)).grown hgrow (by simp; omega) (fun i hi => (HO2.out.lt i hi).1))
      clear hown hgrow hat
      go_wp2
      go_ret
      exact ⟨a2, m + 2, c2, rfl, own_len HO3.out, HO3.out, HB3.out⟩
end Go.Proofs.YtamclbagafcmgaaDoor
/- Package keys: appendValue. -/
namespace Go.Proofs.YtamclbagafcmgaaDoor
open Go.RowKit

theorem Fx.grown {g : Nat} {k n sc : Int} {s : ByteArray} {W W2 : World} {row : Option Nat} (h : Fx g k n sc s W) (hg : W.grownBy W2 row) (hne : row ≠ some g) : Fx g k n sc s W2 := by
  have hb := hg.block g h.bx.lt (fun e => hne e.symm)
  have hc : ∀ o, W2.cell? ⟨g, o, none⟩ = W.cell? ⟨g, o, none⟩ := fun o => by simp [World.cell?, hb]
  have hf : ∀ o, W2.frozen? ⟨g, o, none⟩ = W.frozen? ⟨g, o, none⟩ := fun o => by simp [World.frozen?, hb]
  have hl : W.heap.size ≤ W2.heap.size := hg.size
  exact ⟨⟨(hc 0).trans h.bx.c0, (hc 1).trans h.bx.c1, (hc 2).trans h.bx.c2, (hc 3).trans h.bx.c3, by have := h.bx.lt; omega⟩, fun o => (hf o).trans (h.fz o)⟩
/-- At a step of a region that draws its order. -/
theorem step_app {P : Program} {w : World} {ops : Array Oper} {o : Oper} {a : Act} {K : Act → World → Prop} {Q : Exit → Act → World → Prop} {E : Prop} (hgd : o.guard = none) (s x : Operand) (t tx : TypeId)
    (ho : o.op = .call { callee := .builtin .append, args := #[s, x], argTypes := #[t, tx] })
    (base : Nat) (e : TypeId) (i : TypeInfo) (z : Value) (size bytes : Nat) (ht : P.underlying t = some (.slice e)) (hi : P.info? e = some i) (hz : i.zero = some z)
    (hsize : i.size = size) (hby : i.bytes = bytes) (hzs : z.cells.size = size)
    (v : Value) (n : Nat) (xs : List Value) (hs : a.eval s = v) (hown : w.ownsRow base e size v n xs)
    (xv : Value) (m : Nat) (news : List Value) (hx : a.eval x = xv) (hsrc : Src P size tx xv m news w)
    (h63 : n + m ≤ maxLen) (hbytes : (n + m) * bytes ≤ 140737488355328) (hbase : base ≤ w.heap.size)
    (h : ∀ v' w', w'.ownsRow base e size v' (n + m) (xs ++ news) → w.grownBy w' v.ownBlock → (v'.ownBlock = v.ownBlock ∨ v'.ownBlock = some w.heap.size) → K (a.put o.dst v') w') :
    if Region.wanted o (yielded ops a.tmps) = true then Oper.wp P o a w K Q else E := by
  have hw : Region.wanted o (yielded ops a.tmps) = true := by simp [Region.wanted, hgd]
  rw [if_pos hw]
  exact wp_append_src w s x t tx ho base e i z size bytes ht hi hz hsize hby hzs v n xs hs hown xv m news hx hsrc h63 hbytes hbase h

theorem own_ne {w : World} {B g : Nat} {v : Value} {l : List UInt8} {n : Nat} (h : w.ownsRow B 5 1 v n (yc l)) (hg : w.heap.size ≤ g) : v.ownBlock ≠ some g := by
  intro e; have := (h.lt _ e).2; omega
theorem own_setO {w : World} {B g : Nat} {v : Value} {l : List UInt8} {n : Nat} (h : w.ownsRow B 5 1 v n (yc l)) (hne : v.ownBlock ≠ some g) (o : Nat) (x : Value) : (w.setCell ⟨g, o, none⟩ x).ownsRow B 5 1 v n (yc l) :=
  h.kept (row := some g) ⟨rfl, rfl, rfl, by simp [World.setCell], fun k _ hk => Below.heap_setCell _ _ _ _ (fun e => hk (by simp [e]))⟩ (Or.inr hne)

set_option maxHeartbeats 2000000 in
set_option maxRecDepth 100000 in
theorem appV_0  (B : Nat) (a : Option Addr) (m c : Nat) (xs : List UInt8) (w : World) (he : EnvV w) (hown : w.ownsRow B 5 1 (.slice a m c) m (yc xs)) (hB : B ≤ w.heap.size) (hl : xs.length ≤ 900000) (hz : (⟨#[]⟩ : ByteArray).size ≤ maxLen) (hb : Vm.rightB ⟨0, 0, 0, ⟨#[]⟩⟩ = true) :
    Calls Tryd.prog 23 #[.slice a m c, .agg #[.int .i64 0, .int .i64 0, .int .i64 0, .string ⟨#[]⟩]] w (App B (xs ++ [0]) w) := by
  obtain ⟨i0, hi0, hz0, hz1, hz2⟩ := info_parts info5y
  have HI0 := Lib.hid hi0; have HZ0 := Lib.hid hz0; have HZ1 := Lib.hid hz1; have HZ2 := Lib.hid hz2
  clear hi0 hz0 hz1 hz2
  have hm : m ≤ 900000 := by have := own_len hown; omega
  have HO := Lib.hid hown
  have HV0 := Lib.hid (Fx.new w 0 0 0 ⟨#[]⟩ 29)
  have hwA := one_b w (.cells #[.int .i64 0, .int .i64 0, .int .i64 0, .string ⟨#[]⟩] 29)
  have hr : Calls Tryd.prog 31 #[.agg #[.int .i64 0, .int .i64 0, .int .i64 0, .string ⟨#[]⟩]] (w.alloc (.cells #[.int .i64 0, .int .i64 0, .int .i64 0, .string ⟨#[]⟩] 29)) (Says true (w.alloc (.cells #[.int .i64 0, .int .i64 0, .int .i64 0, .string ⟨#[]⟩] 29))) := by
    have h := val_right 0 0 0 ⟨#[]⟩ _ (he.keep hwA) hz
    rw [hb] at h
    exact h
  have HR := Lib.hid hr
  have HWA := Lib.hid hwA
  clear hr hwA hown hl he hb
  go_enter Tryd.func23, Tryd.ntmps23
  go_wp2_with fail
  refine HR.out.mono ?_
  rintro e w1 ⟨rfl, hb1⟩
  have HV1 := Lib.hid (HV0.out.keep hb1)
  have HO1 := Lib.hid (own_below (own_below HO.out HWA.out) hb1)
  have HB1 := Lib.hid ((HWA.out.trans (hb1.mono HWA.out.size)).mono hB)
  have hs1 : w.heap.size < w1.heap.size := HV1.out.bx.lt
  have HNE : Hid ((Value.slice a m c).ownBlock ≠ some w.heap.size) := own_ne HO.out (Nat.le_refl _)
  clear hb1 HR HV0 HWA HO
  have v0 := HV1.out.bx.c0; have v1 := HV1.out.bx.c1; have v2 := HV1.out.bx.c2; have v3 := HV1.out.bx.c3; have vf := HV1.out.fz
  go_wp2_with (at_builtin; refine wpList_append_src _ rfl (.tmp 9) (.tmp 13) 25 25 rfl B 5 i0 (.int .u8 0) 1 1 Tryd.underlying25 HI0.out HZ0.out HZ1.out HZ2.out rfl (.slice a m c) m (yc (xs)) rfl (HO1.out.alloc _) _ 1 (yc [0]) rfl (lit_srcy w1 0) ?qa ?qb ?qc ?_)
  case qa => unfold maxLen; omega
  case qb => omega
  case qc => simp; omega
  intro v2' w2 hown hgrow hat
  rw [← yc_append] at hown
  obtain ⟨a2, c2, rfl⟩ := own_form hown
  have HO2 := Lib.hid hown
  have HB2 := Lib.hid ((HB1.out.alloc (show B ≤ w1.heap.size by omega) (.cells #[.int .u8 ((0 : UInt8).toNat : Int)] 5)).grown hgrow (by simp; omega) (fun i hi => (HO1.out.lt i hi).1))
  have HV2 := Lib.hid ((HV1.out.keep (one_b w1 _)).grown hgrow HNE.out)
  have HNE2 : Hid ((Value.slice a2 (m + 1) c2).ownBlock ≠ some w.heap.size) := by
    rcases hat with h | h
    · rw [h]; exact HNE.out
    · rw [h]; intro e; injection e with e; first | omega | (simp at e; omega)
  clear hown hgrow hat v0 v1 v2 v3 vf HV1 HO1 HB1 HNE
  have v0 := HV2.out.bx.c0; have v1 := HV2.out.bx.c1; have v2 := HV2.out.bx.c2; have v3 := HV2.out.bx.c3; have vf := HV2.out.fz
  have hs2 := HV2.out.bx.lt
  go_wp2
  go_ret
  exact ⟨a2, m + 1, c2, rfl, own_len HO2.out, HO2.out, HB2.out⟩

theorem Fx.set0 {g : Nat} {k n sc : Int} {s : ByteArray} {w : World} (h : Fx g k n sc s w) (k' : Int) : Fx g k' n sc s (w.setCell ⟨g, 0, none⟩ (.int .i64 k')) := by
  refine ⟨⟨?_, ?_, ?_, ?_, ?_⟩, fun o => ?_⟩
  · exact World.cell?_setCell_same _ _ _ h.bx.c0
  · rw [World.cell?_setCell_other (h := ad_ne (.inr (by decide)))]; exact h.bx.c1
  · rw [World.cell?_setCell_other (h := ad_ne (.inr (by decide)))]; exact h.bx.c2
  · rw [World.cell?_setCell_other (h := ad_ne (.inr (by decide)))]; exact h.bx.c3
  · have := h.bx.lt; simpa using this
  · have := h.fz o; simpa using this

set_option maxHeartbeats 2000000 in
set_option maxRecDepth 100000 in
theorem appV_bad (ck cn cc : Int) (cz : ByteArray) (B : Nat) (a : Option Addr) (m c : Nat) (xs : List UInt8) (w : World) (he : EnvV w) (hown : w.ownsRow B 5 1 (.slice a m c) m (yc xs)) (hB : B ≤ w.heap.size) (hl : xs.length ≤ 900000) (hz : cz.size ≤ maxLen) (hb : Vm.rightB ⟨ck, cn, cc, cz⟩ = false) :
    Calls Tryd.prog 23 #[.slice a m c, .agg #[.int .i64 ck, .int .i64 cn, .int .i64 cc, .string cz]] w (App B (xs ++ [0]) w) := by
  obtain ⟨i0, hi0, hz0, hz1, hz2⟩ := info_parts info5y
  have HI0 := Lib.hid hi0; have HZ0 := Lib.hid hz0; have HZ1 := Lib.hid hz1; have HZ2 := Lib.hid hz2
  clear hi0 hz0 hz1 hz2
  have hm : m ≤ 900000 := by have := own_len hown; omega
  have HO := Lib.hid hown
  have HV0 := Lib.hid (Fx.new w ck cn cc cz 29)
  have hwA := one_b w (.cells #[.int .i64 ck, .int .i64 cn, .int .i64 cc, .string cz] 29)
  have hr : Calls Tryd.prog 31 #[.agg #[.int .i64 ck, .int .i64 cn, .int .i64 cc, .string cz]] (w.alloc (.cells #[.int .i64 ck, .int .i64 cn, .int .i64 cc, .string cz] 29)) (Says false (w.alloc (.cells #[.int .i64 ck, .int .i64 cn, .int .i64 cc, .string cz] 29))) := by
    have h := val_right ck cn cc cz _ (he.keep hwA) hz
    rw [hb] at h
    exact h
  have HR := Lib.hid hr
  have HWA := Lib.hid hwA
  clear hr hwA hown hl he hb
  go_enter Tryd.func23, Tryd.ntmps23
  go_wp2_with fail
  refine HR.out.mono ?_
  rintro e w1 ⟨rfl, hb1⟩
  have HV1 := Lib.hid (HV0.out.keep hb1)
  have HO1 := Lib.hid (own_below (own_below HO.out HWA.out) hb1)
  have HB1 := Lib.hid ((HWA.out.trans (hb1.mono HWA.out.size)).mono hB)
  have hs1 : w.heap.size < w1.heap.size := HV1.out.bx.lt
  have HNE : Hid ((Value.slice a m c).ownBlock ≠ some w.heap.size) := own_ne HO.out (Nat.le_refl _)
  clear hb1 HR HV0 HWA HO
  have V0 := HV1.out
  have r0 := V0.bx.c0; have r1 := V0.bx.c1; have r2 := V0.bx.c2; have r3 := V0.bx.c3; have rf := V0.fz
  obtain ⟨W1, hW1⟩ : ∃ W1, W1 = ((((w1.setCell ⟨w.heap.size, 0, none⟩ (.int .i64 0)).setCell ⟨w.heap.size, 1, none⟩ (.int .i64 0)).setCell ⟨w.heap.size, 2, none⟩ (.int .i64 0)).setCell ⟨w.heap.size, 3, none⟩ (.string ⟨#[]⟩)) := ⟨_, rfl⟩
  have HVZ : Hid (Fx w.heap.size 0 0 0 ⟨#[]⟩ W1) := by rw [hW1]; exact ((V0.set0 0).set1 0).set2 0 |>.set3 ⟨#[]⟩
  have HOZ : Hid (W1.ownsRow B 5 1 (.slice a m c) m (yc xs)) := by rw [hW1]; exact own_setO (own_setO (own_setO (own_setO HO1.out HNE.out _ _) HNE.out _ _) HNE.out _ _) HNE.out _ _
  have HBZ : Hid (Below B w W1) := by rw [hW1]; exact set4 HB1.out hB _ _ _ _
  have hsz1 : w.heap.size < W1.heap.size := HVZ.out.bx.lt
  clear V0
  go_upto_region 3 with (fail)
  rw [← hW1]
  clear r0 r1 r2 r3 rf hW1 HV1 HO1 HB1 hs1
  have v0 := HVZ.out.bx.c0; have v1 := HVZ.out.bx.c1; have v2 := HVZ.out.bx.c2; have v3 := HVZ.out.bx.c3; have vf := HVZ.out.fz
  go_wp2_with (at_builtin; refine wpList_append_src _ rfl (.tmp 9) (.tmp 13) 25 25 rfl B 5 i0 (.int .u8 0) 1 1 Tryd.underlying25 HI0.out HZ0.out HZ1.out HZ2.out rfl (.slice a m c) m (yc (xs)) rfl (HOZ.out.alloc _) _ 1 (yc [0]) rfl (lit_srcy W1 0) ?qa ?qb ?qc ?_)
  case qa => unfold maxLen; omega
  case qb => omega
  case qc => simp; omega
  intro v2' w2 hown hgrow hat
  rw [← yc_append] at hown
  obtain ⟨a2, c2, rfl⟩ := own_form hown
  have HO2 := Lib.hid hown
  have HB2 := Lib.hid ((HBZ.out.alloc (show B ≤ W1.heap.size by omega) (.cells #[.int .u8 ((0 : UInt8).toNat : Int)] 5)).grown hgrow (by simp; omega) (fun i hi => (HOZ.out.lt i hi).1))
  have HV2 := Lib.hid ((HVZ.out.keep (one_b W1 _)).grown hgrow HNE.out)
  have HNE2 : Hid ((Value.slice a2 (m + 1) c2).ownBlock ≠ some w.heap.size) := by
    rcases hat with h | h
    · rw [h]; exact HNE.out
    · rw [h]; intro e; injection e with e; first | omega | (simp at e; omega)
  clear hown hgrow hat v0 v1 v2 v3 vf HVZ HOZ HBZ HNE
  have v0 := HV2.out.bx.c0; have v1 := HV2.out.bx.c1; have v2 := HV2.out.bx.c2; have v3 := HV2.out.bx.c3; have vf := HV2.out.fz
  have hs2 := HV2.out.bx.lt
  go_wp2
  go_ret
  exact ⟨a2, m + 1, c2, rfl, own_len HO2.out, HO2.out, HB2.out⟩

set_option maxHeartbeats 2000000 in
set_option maxRecDepth 100000 in
theorem appV_10  (B : Nat) (a : Option Addr) (m c : Nat) (xs : List UInt8) (w : World) (he : EnvV w) (hown : w.ownsRow B 5 1 (.slice a m c) m (yc xs)) (hB : B ≤ w.heap.size) (hl : xs.length ≤ 900000) (hz : (⟨#[]⟩ : ByteArray).size ≤ maxLen) (hb : Vm.rightB ⟨1, 0, 0, ⟨#[]⟩⟩ = true) :
    Calls Tryd.prog 23 #[.slice a m c, .agg #[.int .i64 1, .int .i64 0, .int .i64 0, .string ⟨#[]⟩]] w (App B (xs ++ ([1] ++ [0])) w) := by
  obtain ⟨i0, hi0, hz0, hz1, hz2⟩ := info_parts info5y
  have HI0 := Lib.hid hi0; have HZ0 := Lib.hid hz0; have HZ1 := Lib.hid hz1; have HZ2 := Lib.hid hz2
  clear hi0 hz0 hz1 hz2
  have hm : m ≤ 900000 := by have := own_len hown; omega
  have HO := Lib.hid hown
  have HV0 := Lib.hid (Fx.new w 1 0 0 ⟨#[]⟩ 29)
  have hwA := one_b w (.cells #[.int .i64 1, .int .i64 0, .int .i64 0, .string ⟨#[]⟩] 29)
  have hr : Calls Tryd.prog 31 #[.agg #[.int .i64 1, .int .i64 0, .int .i64 0, .string ⟨#[]⟩]] (w.alloc (.cells #[.int .i64 1, .int .i64 0, .int .i64 0, .string ⟨#[]⟩] 29)) (Says true (w.alloc (.cells #[.int .i64 1, .int .i64 0, .int .i64 0, .string ⟨#[]⟩] 29))) := by
    have h := val_right 1 0 0 ⟨#[]⟩ _ (he.keep hwA) hz
    rw [hb] at h
    exact h
  have HR := Lib.hid hr
  have HWA := Lib.hid hwA
  clear hr hwA hown hl he hb
  go_enter Tryd.func23, Tryd.ntmps23
  go_wp2_with fail
  refine HR.out.mono ?_
  rintro e w1 ⟨rfl, hb1⟩
  have HV1 := Lib.hid (HV0.out.keep hb1)
  have HO1 := Lib.hid (own_below (own_below HO.out HWA.out) hb1)
  have HB1 := Lib.hid ((HWA.out.trans (hb1.mono HWA.out.size)).mono hB)
  have hs1 : w.heap.size < w1.heap.size := HV1.out.bx.lt
  have HNE : Hid ((Value.slice a m c).ownBlock ≠ some w.heap.size) := own_ne HO.out (Nat.le_refl _)
  clear hb1 HR HV0 HWA HO
  have v0 := HV1.out.bx.c0; have v1 := HV1.out.bx.c1; have v2 := HV1.out.bx.c2; have v3 := HV1.out.bx.c3; have vf := HV1.out.fz
  go_wp2_with (at_builtin; refine wpList_append_src _ rfl (.tmp 9) (.tmp 13) 25 25 rfl B 5 i0 (.int .u8 0) 1 1 Tryd.underlying25 HI0.out HZ0.out HZ1.out HZ2.out rfl (.slice a m c) m (yc (xs)) rfl (HO1.out.alloc _) _ 1 (yc [1]) rfl (lit_srcy w1 1) ?qa ?qb ?qc ?_)
  case qa => unfold maxLen; omega
  case qb => omega
  case qc => simp; omega
  intro v2' w2 hown hgrow hat
  rw [← yc_append] at hown
  obtain ⟨a2, c2, rfl⟩ := own_form hown
  have HO2 := Lib.hid hown
  have HB2 := Lib.hid ((HB1.out.alloc (show B ≤ w1.heap.size by omega) (.cells #[.int .u8 ((1 : UInt8).toNat : Int)] 5)).grown hgrow (by simp; omega) (fun i hi => (HO1.out.lt i hi).1))
  have HV2 := Lib.hid ((HV1.out.keep (one_b w1 _)).grown hgrow HNE.out)
  have HNE2 : Hid ((Value.slice a2 (m + 1) c2).ownBlock ≠ some w.heap.size) := by
    rcases hat with h | h
    · rw [h]; exact HNE.out
    · rw [h]; intro e; injection e with e; first | omega | (simp at e; omega)
  clear hown hgrow hat v0 v1 v2 v3 vf HV1 HO1 HB1 HNE
  have v0 := HV2.out.bx.c0; have v1 := HV2.out.bx.c1; have v2 := HV2.out.bx.c2; have v3 := HV2.out.bx.c3; have vf := HV2.out.fz
  have hs2 := HV2.out.bx.lt
  go_wp2_with (at_builtin; refine wpList_append_src _ rfl (.tmp 19) (.tmp 23) 25 25 rfl B 5 i0 (.int .u8 0) 1 1 Tryd.underlying25 HI0.out HZ0.out HZ1.out HZ2.out rfl (.slice a2 (m + 1) c2) (m + 1) (yc (xs ++ [1])) rfl (HO2.out.alloc _) _ 1 (yc [0]) rfl (lit_srcy w2 0) ?qa ?qb ?qc ?_)
  case qa => unfold maxLen; omega
  case qb => omega
  case qc => simp; omega
  intro v4 w4 hown hgrow hat
  rw [← yc_append, List.append_assoc] at hown
  obtain ⟨a4, c4, rfl⟩ := own_form hown
  have HO4 := Lib.hid hown
  have HB4 := Lib.hid ((HB2.out.alloc (show B ≤ w2.heap.size by omega) (.cells #[.int .u8 ((0 : UInt8).toNat : Int)] 5)).grown hgrow (by simp; omega) (fun i hi => (HO2.out.lt i hi).1))
  clear hown hgrow hat
  go_wp2
  go_ret
  exact ⟨a4, m + 1 + 1, c4, rfl, own_len HO4.out, HO4.out, HB4.out⟩

set_option maxHeartbeats 2000000 in
set_option maxRecDepth 100000 in
theorem appV_11  (B : Nat) (a : Option Addr) (m c : Nat) (xs : List UInt8) (w : World) (he : EnvV w) (hown : w.ownsRow B 5 1 (.slice a m c) m (yc xs)) (hB : B ≤ w.heap.size) (hl : xs.length ≤ 900000) (hz : (⟨#[]⟩ : ByteArray).size ≤ maxLen) (hb : Vm.rightB ⟨1, 1, 0, ⟨#[]⟩⟩ = true) :
    Calls Tryd.prog 23 #[.slice a m c, .agg #[.int .i64 1, .int .i64 1, .int .i64 0, .string ⟨#[]⟩]] w (App B (xs ++ ([1] ++ [1])) w) := by
  obtain ⟨i0, hi0, hz0, hz1, hz2⟩ := info_parts info5y
  have HI0 := Lib.hid hi0; have HZ0 := Lib.hid hz0; have HZ1 := Lib.hid hz1; have HZ2 := Lib.hid hz2
  clear hi0 hz0 hz1 hz2
  have hm : m ≤ 900000 := by have := own_len hown; omega
  have HO := Lib.hid hown
  have HV0 := Lib.hid (Fx.new w 1 1 0 ⟨#[]⟩ 29)
  have hwA := one_b w (.cells #[.int .i64 1, .int .i64 1, .int .i64 0, .string ⟨#[]⟩] 29)
  have hr : Calls Tryd.prog 31 #[.agg #[.int .i64 1, .int .i64 1, .int .i64 0, .string ⟨#[]⟩]] (w.alloc (.cells #[.int .i64 1, .int .i64 1, .int .i64 0, .string ⟨#[]⟩] 29)) (Says true (w.alloc (.cells #[.int .i64 1, .int .i64 1, .int .i64 0, .string ⟨#[]⟩] 29))) := by
    have h := val_right 1 1 0 ⟨#[]⟩ _ (he.keep hwA) hz
    rw [hb] at h
    exact h
  have HR := Lib.hid hr
  have HWA := Lib.hid hwA
  clear hr hwA hown hl he hb
  go_enter Tryd.func23, Tryd.ntmps23
  go_wp2_with fail
  refine HR.out.mono ?_
  rintro e w1 ⟨rfl, hb1⟩
  have HV1 := Lib.hid (HV0.out.keep hb1)
  have HO1 := Lib.hid (own_below (own_below HO.out HWA.out) hb1)
  have HB1 := Lib.hid ((HWA.out.trans (hb1.mono HWA.out.size)).mono hB)
  have hs1 : w.heap.size < w1.heap.size := HV1.out.bx.lt
  have HNE : Hid ((Value.slice a m c).ownBlock ≠ some w.heap.size) := own_ne HO.out (Nat.le_refl _)
  clear hb1 HR HV0 HWA HO
  have v0 := HV1.out.bx.c0; have v1 := HV1.out.bx.c1; have v2 := HV1.out.bx.c2; have v3 := HV1.out.bx.c3; have vf := HV1.out.fz
  go_wp2_with (at_builtin; refine wpList_append_src _ rfl (.tmp 9) (.tmp 13) 25 25 rfl B 5 i0 (.int .u8 0) 1 1 Tryd.underlying25 HI0.out HZ0.out HZ1.out HZ2.out rfl (.slice a m c) m (yc (xs)) rfl (HO1.out.alloc _) _ 1 (yc [1]) rfl (lit_srcy w1 1) ?qa ?qb ?qc ?_)
  case qa => unfold maxLen; omega
  case qb => omega
  case qc => simp; omega
  intro v2' w2 hown hgrow hat
  rw [← yc_append] at hown
  obtain ⟨a2, c2, rfl⟩ := own_form hown
  have HO2 := Lib.hid hown
  have HB2 := Lib.hid ((HB1.out.alloc (show B ≤ w1.heap.size by omega) (.cells #[.int .u8 ((1 : UInt8).toNat : Int)] 5)).grown hgrow (by simp; omega) (fun i hi => (HO1.out.lt i hi).1))
  have HV2 := Lib.hid ((HV1.out.keep (one_b w1 _)).grown hgrow HNE.out)
  have HNE2 : Hid ((Value.slice a2 (m + 1) c2).ownBlock ≠ some w.heap.size) := by
    rcases hat with h | h
    · rw [h]; exact HNE.out
    · rw [h]; intro e; injection e with e; first | omega | (simp at e; omega)
  clear hown hgrow hat v0 v1 v2 v3 vf HV1 HO1 HB1 HNE
  have v0 := HV2.out.bx.c0; have v1 := HV2.out.bx.c1; have v2 := HV2.out.bx.c2; have v3 := HV2.out.bx.c3; have vf := HV2.out.fz
  have hs2 := HV2.out.bx.lt
  go_wp2_with (at_builtin; refine wpList_append_src _ rfl (.tmp 19) (.tmp 23) 25 25 rfl B 5 i0 (.int .u8 0) 1 1 Tryd.underlying25 HI0.out HZ0.out HZ1.out HZ2.out rfl (.slice a2 (m + 1) c2) (m + 1) (yc (xs ++ [1])) rfl (HO2.out.alloc _) _ 1 (yc [1]) rfl (lit_srcy w2 1) ?qa ?qb ?qc ?_)
  case qa => unfold maxLen; omega
  case qb => omega
  case qc => simp; omega
  intro v4 w4 hown hgrow hat
  rw [← yc_append, List.append_assoc] at hown
  obtain ⟨a4, c4, rfl⟩ := own_form hown
  have HO4 := Lib.hid hown
  have HB4 := Lib.hid ((HB2.out.alloc (show B ≤ w2.heap.size by omega) (.cells #[.int .u8 ((1 : UInt8).toNat : Int)] 5)).grown hgrow (by simp; omega) (fun i hi => (HO2.out.lt i hi).1))
  clear hown hgrow hat
  go_wp2
  go_ret
  exact ⟨a4, m + 1 + 1, c4, rfl, own_len HO4.out, HO4.out, HB4.out⟩

set_option maxHeartbeats 2000000 in
set_option maxRecDepth 100000 in
theorem appV_2 (n : Int) (hi : i64 n) (B : Nat) (a : Option Addr) (m c : Nat) (xs : List UInt8) (w : World) (he : EnvV w) (hown : w.ownsRow B 5 1 (.slice a m c) m (yc xs)) (hB : B ≤ w.heap.size) (hl : xs.length ≤ 900000) (hz : (⟨#[]⟩ : ByteArray).size ≤ maxLen) (hb : Vm.rightB ⟨2, n, 0, ⟨#[]⟩⟩ = true) :
    Calls Tryd.prog 23 #[.slice a m c, .agg #[.int .i64 2, .int .i64 n, .int .i64 0, .string ⟨#[]⟩]] w (App B (xs ++ ([2] ++ Vm.num8 n)) w) := by
  obtain ⟨i0, hi0, hz0, hz1, hz2⟩ := info_parts info5y
  have HI0 := Lib.hid hi0; have HZ0 := Lib.hid hz0; have HZ1 := Lib.hid hz1; have HZ2 := Lib.hid hz2
  clear hi0 hz0 hz1 hz2
  have hm : m ≤ 900000 := by have := own_len hown; omega
  have HO := Lib.hid hown
  have HV0 := Lib.hid (Fx.new w 2 n 0 ⟨#[]⟩ 29)
  have hwA := one_b w (.cells #[.int .i64 2, .int .i64 n, .int .i64 0, .string ⟨#[]⟩] 29)
  have hr : Calls Tryd.prog 31 #[.agg #[.int .i64 2, .int .i64 n, .int .i64 0, .string ⟨#[]⟩]] (w.alloc (.cells #[.int .i64 2, .int .i64 n, .int .i64 0, .string ⟨#[]⟩] 29)) (Says true (w.alloc (.cells #[.int .i64 2, .int .i64 n, .int .i64 0, .string ⟨#[]⟩] 29))) := by
    have h := val_right 2 n 0 ⟨#[]⟩ _ (he.keep hwA) hz
    rw [hb] at h
    exact h
  have HR := Lib.hid hr
  have HWA := Lib.hid hwA
  clear hr hwA hown hl he hb
  go_enter Tryd.func23, Tryd.ntmps23
  go_wp2_with fail
  refine HR.out.mono ?_
  rintro e w1 ⟨rfl, hb1⟩
  have HV1 := Lib.hid (HV0.out.keep hb1)
  have HO1 := Lib.hid (own_below (own_below HO.out HWA.out) hb1)
  have HB1 := Lib.hid ((HWA.out.trans (hb1.mono HWA.out.size)).mono hB)
  have hs1 : w.heap.size < w1.heap.size := HV1.out.bx.lt
  have HNE : Hid ((Value.slice a m c).ownBlock ≠ some w.heap.size) := own_ne HO.out (Nat.le_refl _)
  clear hb1 HR HV0 HWA HO
  have v0 := HV1.out.bx.c0; have v1 := HV1.out.bx.c1; have v2 := HV1.out.bx.c2; have v3 := HV1.out.bx.c3; have vf := HV1.out.fz
  go_wp2_with (at_builtin; refine wpList_append_src _ rfl (.tmp 9) (.tmp 13) 25 25 rfl B 5 i0 (.int .u8 0) 1 1 Tryd.underlying25 HI0.out HZ0.out HZ1.out HZ2.out rfl (.slice a m c) m (yc (xs)) rfl (HO1.out.alloc _) _ 1 (yc [2]) rfl (lit_srcy w1 2) ?qa ?qb ?qc ?_)
  case qa => unfold maxLen; omega
  case qb => omega
  case qc => simp; omega
  intro v2' w2 hown hgrow hat
  rw [← yc_append] at hown
  obtain ⟨a2, c2, rfl⟩ := own_form hown
  have HO2 := Lib.hid hown
  have HB2 := Lib.hid ((HB1.out.alloc (show B ≤ w1.heap.size by omega) (.cells #[.int .u8 ((2 : UInt8).toNat : Int)] 5)).grown hgrow (by simp; omega) (fun i hi => (HO1.out.lt i hi).1))
  have HV2 := Lib.hid ((HV1.out.keep (one_b w1 _)).grown hgrow HNE.out)
  have HNE2 : Hid ((Value.slice a2 (m + 1) c2).ownBlock ≠ some w.heap.size) := by
    rcases hat with h | h
    · rw [h]; exact HNE.out
    · rw [h]; intro e; injection e with e; first | omega | (simp at e; omega)
  clear hown hgrow hat v0 v1 v2 v3 vf HV1 HO1 HB1 HNE
  have v0 := HV2.out.bx.c0; have v1 := HV2.out.bx.c1; have v2 := HV2.out.bx.c2; have v3 := HV2.out.bx.c3; have vf := HV2.out.fz
  have hs2 := HV2.out.bx.lt
  have HC := Lib.hid (key_appendNumber B a2 (m + 1) c2 (xs ++ [2]) n w2 hi HO2.out (by omega) (by have := own_len HO2.out; omega))
  clear hi
  go_wp2_with fail
  refine HC.out.mono ?_
  rintro e w4 ⟨a4, n4, c4, rfl, hn4, hO4, hB4⟩
  rw [List.append_assoc] at hO4 hn4
  have HO4 := Lib.hid hO4; have HB4 := Lib.hid (HB2.out.trans hB4); have HN4 := Lib.hid hn4
  clear hO4 hB4 hn4
  go_wp2
  go_ret
  exact ⟨a4, n4, c4, rfl, HN4.out, HO4.out, HB4.out⟩

set_option maxHeartbeats 2000000 in
set_option maxRecDepth 100000 in
theorem appV_4 (s : ByteArray) (hs : s.size ≤ 1000000) (B : Nat) (a : Option Addr) (m c : Nat) (xs : List UInt8) (w : World) (he : EnvV w) (hown : w.ownsRow B 5 1 (.slice a m c) m (yc xs)) (hB : B ≤ w.heap.size) (hl : xs.length ≤ 900000) (hz : s.size ≤ maxLen) (hb : Vm.rightB ⟨4, 0, 0, s⟩ = true) :
    Calls Tryd.prog 23 #[.slice a m c, .agg #[.int .i64 4, .int .i64 0, .int .i64 0, .string s]] w (App B (xs ++ ([4] ++ (Vm.esc0 s.data.toList ++ [0, 1]))) w) := by
  obtain ⟨i0, hi0, hz0, hz1, hz2⟩ := info_parts info5y
  have HI0 := Lib.hid hi0; have HZ0 := Lib.hid hz0; have HZ1 := Lib.hid hz1; have HZ2 := Lib.hid hz2
  clear hi0 hz0 hz1 hz2
  have hm : m ≤ 900000 := by have := own_len hown; omega
  have HO := Lib.hid hown
  have HV0 := Lib.hid (Fx.new w 4 0 0 s 29)
  have hwA := one_b w (.cells #[.int .i64 4, .int .i64 0, .int .i64 0, .string s] 29)
  have hr : Calls Tryd.prog 31 #[.agg #[.int .i64 4, .int .i64 0, .int .i64 0, .string s]] (w.alloc (.cells #[.int .i64 4, .int .i64 0, .int .i64 0, .string s] 29)) (Says true (w.alloc (.cells #[.int .i64 4, .int .i64 0, .int .i64 0, .string s] 29))) := by
    have h := val_right 4 0 0 s _ (he.keep hwA) hz
    rw [hb] at h
    exact h
  have HR := Lib.hid hr
  have HWA := Lib.hid hwA
  clear hr hwA hown hl he hb
  go_enter Tryd.func23, Tryd.ntmps23
  go_wp2_with fail
  refine HR.out.mono ?_
  rintro e w1 ⟨rfl, hb1⟩
  have HV1 := Lib.hid (HV0.out.keep hb1)
  have HO1 := Lib.hid (own_below (own_below HO.out HWA.out) hb1)
  have HB1 := Lib.hid ((HWA.out.trans (hb1.mono HWA.out.size)).mono hB)
  have hs1 : w.heap.size < w1.heap.size := HV1.out.bx.lt
  have HNE : Hid ((Value.slice a m c).ownBlock ≠ some w.heap.size) := own_ne HO.out (Nat.le_refl _)
  clear hb1 HR HV0 HWA HO
  have v0 := HV1.out.bx.c0; have v1 := HV1.out.bx.c1; have v2 := HV1.out.bx.c2; have v3 := HV1.out.bx.c3; have vf := HV1.out.fz
  go_wp2_with (at_builtin; refine wpList_append_src _ rfl (.tmp 9) (.tmp 13) 25 25 rfl B 5 i0 (.int .u8 0) 1 1 Tryd.underlying25 HI0.out HZ0.out HZ1.out HZ2.out rfl (.slice a m c) m (yc (xs)) rfl (HO1.out.alloc _) _ 1 (yc [4]) rfl (lit_srcy w1 4) ?qa ?qb ?qc ?_)
  case qa => unfold maxLen; omega
  case qb => omega
  case qc => simp; omega
  intro v2' w2 hown hgrow hat
  rw [← yc_append] at hown
  obtain ⟨a2, c2, rfl⟩ := own_form hown
  have HO2 := Lib.hid hown
  have HB2 := Lib.hid ((HB1.out.alloc (show B ≤ w1.heap.size by omega) (.cells #[.int .u8 ((4 : UInt8).toNat : Int)] 5)).grown hgrow (by simp; omega) (fun i hi => (HO1.out.lt i hi).1))
  have HV2 := Lib.hid ((HV1.out.keep (one_b w1 _)).grown hgrow HNE.out)
  have HNE2 : Hid ((Value.slice a2 (m + 1) c2).ownBlock ≠ some w.heap.size) := by
    rcases hat with h | h
    · rw [h]; exact HNE.out
    · rw [h]; intro e; injection e with e; first | omega | (simp at e; omega)
  clear hown hgrow hat v0 v1 v2 v3 vf HV1 HO1 HB1 HNE
  have v0 := HV2.out.bx.c0; have v1 := HV2.out.bx.c1; have v2 := HV2.out.bx.c2; have v3 := HV2.out.bx.c3; have vf := HV2.out.fz
  have hs2 := HV2.out.bx.lt
  have HC := Lib.hid (key_appendString B a2 (m + 1) c2 (xs ++ [4]) s w2 HO2.out (by omega) (by have := own_len HO2.out; omega) hs)
  go_wp2_with fail
  refine HC.out.mono ?_
  rintro e w4 ⟨a4, n4, c4, rfl, hn4, hO4, hB4⟩
  rw [List.append_assoc] at hO4 hn4
  have HO4 := Lib.hid hO4; have HB4 := Lib.hid (HB2.out.trans hB4); have HN4 := Lib.hid hn4
  clear hO4 hB4 hn4
  go_wp2
  go_ret
  exact ⟨a4, n4, c4, rfl, HN4.out, HO4.out, HB4.out⟩

set_option maxHeartbeats 2000000 in
set_option maxRecDepth 100000 in
theorem appV_5 (s : ByteArray) (hs : s.size ≤ 1000000) (B : Nat) (a : Option Addr) (m c : Nat) (xs : List UInt8) (w : World) (he : EnvV w) (hown : w.ownsRow B 5 1 (.slice a m c) m (yc xs)) (hB : B ≤ w.heap.size) (hl : xs.length ≤ 900000) (hz : s.size ≤ maxLen) (hb : Vm.rightB ⟨5, 0, 0, s⟩ = true) :
    Calls Tryd.prog 23 #[.slice a m c, .agg #[.int .i64 5, .int .i64 0, .int .i64 0, .string s]] w (App B (xs ++ ([5] ++ (Vm.esc0 s.data.toList ++ [0, 1]))) w) := by
  obtain ⟨i0, hi0, hz0, hz1, hz2⟩ := info_parts info5y
  have HI0 := Lib.hid hi0; have HZ0 := Lib.hid hz0; have HZ1 := Lib.hid hz1; have HZ2 := Lib.hid hz2
  clear hi0 hz0 hz1 hz2
  have hm : m ≤ 900000 := by have := own_len hown; omega
  have HO := Lib.hid hown
  have HV0 := Lib.hid (Fx.new w 5 0 0 s 29)
  have hwA := one_b w (.cells #[.int .i64 5, .int .i64 0, .int .i64 0, .string s] 29)
  have hr : Calls Tryd.prog 31 #[.agg #[.int .i64 5, .int .i64 0, .int .i64 0, .string s]] (w.alloc (.cells #[.int .i64 5, .int .i64 0, .int .i64 0, .string s] 29)) (Says true (w.alloc (.cells #[.int .i64 5, .int .i64 0, .int .i64 0, .string s] 29))) := by
    have h := val_right 5 0 0 s _ (he.keep hwA) hz
    rw [hb] at h
    exact h
  have HR := Lib.hid hr
  have HWA := Lib.hid hwA
  clear hr hwA hown hl he hb
  go_enter Tryd.func23, Tryd.ntmps23
  go_wp2_with fail
  refine HR.out.mono ?_
  rintro e w1 ⟨rfl, hb1⟩
  have HV1 := Lib.hid (HV0.out.keep hb1)
  have HO1 := Lib.hid (own_below (own_below HO.out HWA.out) hb1)
  have HB1 := Lib.hid ((HWA.out.trans (hb1.mono HWA.out.size)).mono hB)
  have hs1 : w.heap.size < w1.heap.size := HV1.out.bx.lt
  have HNE : Hid ((Value.slice a m c).ownBlock ≠ some w.heap.size) := own_ne HO.out (Nat.le_refl _)
  clear hb1 HR HV0 HWA HO
  have v0 := HV1.out.bx.c0; have v1 := HV1.out.bx.c1; have v2 := HV1.out.bx.c2; have v3 := HV1.out.bx.c3; have vf := HV1.out.fz
  go_wp2_with (at_builtin; refine wpList_append_src _ rfl (.tmp 9) (.tmp 13) 25 25 rfl B 5 i0 (.int .u8 0) 1 1 Tryd.underlying25 HI0.out HZ0.out HZ1.out HZ2.out rfl (.slice a m c) m (yc (xs)) rfl (HO1.out.alloc _) _ 1 (yc [5]) rfl (lit_srcy w1 5) ?qa ?qb ?qc ?_)
  case qa => unfold maxLen; omega
  case qb => omega
  case qc => simp; omega
  intro v2' w2 hown hgrow hat
  rw [← yc_append] at hown
  obtain ⟨a2, c2, rfl⟩ := own_form hown
  have HO2 := Lib.hid hown
  have HB2 := Lib.hid ((HB1.out.alloc (show B ≤ w1.heap.size by omega) (.cells #[.int .u8 ((5 : UInt8).toNat : Int)] 5)).grown hgrow (by simp; omega) (fun i hi => (HO1.out.lt i hi).1))
  have HV2 := Lib.hid ((HV1.out.keep (one_b w1 _)).grown hgrow HNE.out)
  have HNE2 : Hid ((Value.slice a2 (m + 1) c2).ownBlock ≠ some w.heap.size) := by
    rcases hat with h | h
    · rw [h]; exact HNE.out
    · rw [h]; intro e; injection e with e; first | omega | (simp at e; omega)
  clear hown hgrow hat v0 v1 v2 v3 vf HV1 HO1 HB1 HNE
  have v0 := HV2.out.bx.c0; have v1 := HV2.out.bx.c1; have v2 := HV2.out.bx.c2; have v3 := HV2.out.bx.c3; have vf := HV2.out.fz
  have hs2 := HV2.out.bx.lt
  have HC := Lib.hid (key_appendString B a2 (m + 1) c2 (xs ++ [5]) s w2 HO2.out (by omega) (by have := own_len HO2.out; omega) hs)
  go_wp2_with fail
  refine HC.out.mono ?_
  rintro e w4 ⟨a4, n4, c4, rfl, hn4, hO4, hB4⟩
  rw [List.append_assoc] at hO4 hn4
  have HO4 := Lib.hid hO4; have HB4 := Lib.hid (HB2.out.trans hB4); have HN4 := Lib.hid hn4
  clear hO4 hB4 hn4
  go_wp2
  go_ret
  exact ⟨a4, n4, c4, rfl, HN4.out, HO4.out, HB4.out⟩

set_option maxHeartbeats 2000000 in
set_option maxRecDepth 100000 in
theorem appV_3 (n u : Int) (x : UInt8) (hx : (x.toNat : Int) = u) (_hu : 0 ≤ u) (hu6 : u ≤ 6) (hi : i64 n) (B : Nat) (a : Option Addr) (m c : Nat) (xs : List UInt8) (w : World) (he : EnvV w) (hown : w.ownsRow B 5 1 (.slice a m c) m (yc xs)) (hB : B ≤ w.heap.size) (hl : xs.length ≤ 900000) (hz : (⟨#[]⟩ : ByteArray).size ≤ maxLen) (hb : Vm.rightB ⟨3, n, u, ⟨#[]⟩⟩ = true) :
    Calls Tryd.prog 23 #[.slice a m c, .agg #[.int .i64 3, .int .i64 n, .int .i64 u, .string ⟨#[]⟩]] w (App B (xs ++ ([3] ++ ([x] ++ Vm.num8 n))) w) := by
  obtain ⟨i0, hi0, hz0, hz1, hz2⟩ := info_parts info5y
  have HI0 := Lib.hid hi0; have HZ0 := Lib.hid hz0; have HZ1 := Lib.hid hz1; have HZ2 := Lib.hid hz2
  clear hi0 hz0 hz1 hz2
  have hm : m ≤ 900000 := by have := own_len hown; omega
  have HO := Lib.hid hown
  have HV0 := Lib.hid (Fx.new w 3 n u ⟨#[]⟩ 29)
  have hwA := one_b w (.cells #[.int .i64 3, .int .i64 n, .int .i64 u, .string ⟨#[]⟩] 29)
  have hr : Calls Tryd.prog 31 #[.agg #[.int .i64 3, .int .i64 n, .int .i64 u, .string ⟨#[]⟩]] (w.alloc (.cells #[.int .i64 3, .int .i64 n, .int .i64 u, .string ⟨#[]⟩] 29)) (Says true (w.alloc (.cells #[.int .i64 3, .int .i64 n, .int .i64 u, .string ⟨#[]⟩] 29))) := by
    have h := val_right 3 n u ⟨#[]⟩ _ (he.keep hwA) hz
    rw [hb] at h
    exact h
  have HR := Lib.hid hr
  have HWA := Lib.hid hwA
  clear hr hwA hown hl he hb
  go_enter Tryd.func23, Tryd.ntmps23
  go_wp2_with fail
  refine HR.out.mono ?_
  rintro e w1 ⟨rfl, hb1⟩
  have HV1 := Lib.hid (HV0.out.keep hb1)
  have HO1 := Lib.hid (own_below (own_below HO.out HWA.out) hb1)
  have HB1 := Lib.hid ((HWA.out.trans (hb1.mono HWA.out.size)).mono hB)
  have hs1 : w.heap.size < w1.heap.size := HV1.out.bx.lt
  have HNE : Hid ((Value.slice a m c).ownBlock ≠ some w.heap.size) := own_ne HO.out (Nat.le_refl _)
  clear hb1 HR HV0 HWA HO
  have v0 := HV1.out.bx.c0; have v1 := HV1.out.bx.c1; have v2 := HV1.out.bx.c2; have v3 := HV1.out.bx.c3; have vf := HV1.out.fz
  go_wp2_with (at_builtin; refine wpList_append_src _ rfl (.tmp 9) (.tmp 13) 25 25 rfl B 5 i0 (.int .u8 0) 1 1 Tryd.underlying25 HI0.out HZ0.out HZ1.out HZ2.out rfl (.slice a m c) m (yc (xs)) rfl (HO1.out.alloc _) _ 1 (yc [3]) rfl (lit_srcy w1 3) ?qa ?qb ?qc ?_)
  case qa => unfold maxLen; omega
  case qb => omega
  case qc => simp; omega
  intro v2' w2 hown hgrow hat
  rw [← yc_append] at hown
  obtain ⟨a2, c2, rfl⟩ := own_form hown
  have HO2 := Lib.hid hown
  have HB2 := Lib.hid ((HB1.out.alloc (show B ≤ w1.heap.size by omega) (.cells #[.int .u8 ((3 : UInt8).toNat : Int)] 5)).grown hgrow (by simp; omega) (fun i hi => (HO1.out.lt i hi).1))
  have HV2 := Lib.hid ((HV1.out.keep (one_b w1 _)).grown hgrow HNE.out)
  have HNE2 : Hid ((Value.slice a2 (m + 1) c2).ownBlock ≠ some w.heap.size) := by
    rcases hat with h | h
    · rw [h]; exact HNE.out
    · rw [h]; intro e; injection e with e; first | omega | (simp at e; omega)
  clear hown hgrow hat v0 v1 v2 v3 vf HV1 HO1 HB1 HNE
  have v0 := HV2.out.bx.c0; have v1 := HV2.out.bx.c1; have v2 := HV2.out.bx.c2; have v3 := HV2.out.bx.c3; have vf := HV2.out.fz
  have hs2 := HV2.out.bx.lt
  have hx8 : (x.toNat : Int) = IntKind.u8.wrap u := by rw [IntKind.wrap_u8']; omega
  have HC := Lib.hid (fun (a4 : Option Addr) (c4 : Nat) (W : World) (ho : W.ownsRow B 5 1 (.slice a4 (m + 1 + 1) c4) (m + 1 + 1) (yc (xs ++ [3] ++ [x]))) (hW : B ≤ W.heap.size) => key_appendNumber B a4 (m + 1 + 1) c4 (xs ++ [3] ++ [x]) n W hi ho hW (by have := own_len ho; omega))
  have hlit : Src Tryd.prog 1 25 (.slice (some ⟨w2.heap.size, 0, none⟩) 1 1) 1 (yc [x]) (w2.alloc (.cells #[.int .u8 (x.toNat : Int)] 5)).drew :=
    ((Yt.of_own (own_lity w2 x 0 (Nat.zero_le _))).keep (bel_drew (Below.refl _ _))).src
  rw [hx8] at hlit
  have HLIT := Lib.hid hlit
  clear hlit hx8
  clear hi
  go_upto_region 10 with (fail)
  go_region_law (first
    | (refine step_app rfl (.tmp 33) (.tmp 37) 25 25 rfl B 5 i0 (.int .u8 0) 1 1 Tryd.underlying25 HI0.out HZ0.out HZ1.out HZ2.out rfl (.slice a2 (m + 1) c2) (m + 1) (yc (xs ++ [3])) rfl (HO2.out.alloc _).drew _ 1 (yc [x]) rfl HLIT.out (by unfold maxLen; omega) (by omega) (by simp; omega) ?_; intro v4 w4 hown hgrow hat; rw [← yc_append] at hown; obtain ⟨a4, c4, rfl⟩ := own_form hown; have HO4 := Lib.hid hown; have HB4 := Lib.hid ((bel_drew (HB2.out.alloc (show B ≤ w2.heap.size by omega) (.cells #[.int .u8 (IntKind.u8.wrap u)] 5))).grown hgrow (by simp; omega) (fun i hi => (HO2.out.lt i hi).1)); have HV4 := Lib.hid ((HV2.out.keep (bel_drew (one_b w2 _))).grown hgrow HNE2.out); have y1 := HV4.out.bx.c1; have hs4 := HV4.out.bx.lt; clear hown hgrow hat)
    | (go_simp; go_at_call 32; refine (HC.out a4 c4 _ HO4.out (by omega)).mono ?_; rintro e w5 ⟨a5, n5, c5, rfl, hn5, hO5, hB5⟩; rw [List.append_assoc, List.append_assoc] at hO5 hn5; have HO5 := Lib.hid hO5; have HB5 := Lib.hid (HB4.out.trans hB5); have HN5 := Lib.hid hn5; clear hO5 hB5 hn5))
  all_goals go_wp2
  all_goals go_ret
  all_goals exact ⟨a5, n5, c5, rfl, HN5.out, HO5.out, HB5.out⟩
end Go.Proofs.YtamclbagafcmgaaDoor
/- Package keys: Put, Above; all its contracts. -/
namespace Go.Proofs.YtamclbagafcmgaaDoor
open Go.RowKit

theorem key_appendValue (B : Nat) (a : Option Addr) (m c : Nat) (xs : List UInt8) (v : Vm.Cl) (w : World) (he : EnvV w) (hown : w.ownsRow B 5 1 (.slice a m c) m (yc xs)) (hB : B ≤ w.heap.size) (hl : xs.length ≤ 900000) (hi : i64 v.n) (hz : v.s.size ≤ 500) :
    Calls Tryd.prog 23 #[.slice a m c, .agg #[.int .i64 v.k, .int .i64 v.n, .int .i64 v.sc, .string v.s]] w (App B (xs ++ Vm.one (Vm.plain v)) w) := by
  have hz2 : v.s.size ≤ maxLen := by unfold maxLen; omega
  cases hb : Vm.rightB v with
  | false =>
    have hp : Vm.plain v = Vm.nil := by unfold Vm.plain; rw [hb]; rfl
    rw [hp]
    exact appV_bad v.k v.n v.sc v.s B a m c xs w he hown hB hl hz2 hb
  | true =>
    have hp : Vm.plain v = v := by unfold Vm.plain; rw [hb]; rfl
    rw [hp]
    rcases Vm.right_cases hb with rfl | ⟨n, hn, rfl⟩ | ⟨n, rfl⟩ | ⟨n, u, hu, rfl⟩ | ⟨u, hl2, hv, rfl⟩ | ⟨u, hl2, rfl⟩
    · exact appV_0 B a m c xs w he hown hB hl hz2 hb
    · rcases hn with rfl | rfl
      · exact appV_10 B a m c xs w he hown hB hl hz2 hb
      · exact appV_11 B a m c xs w he hown hB hl hz2 hb
    · exact appV_2 n hi B a m c xs w he hown hB hl hz2 hb
    · have h6 := scB_true hu
      exact appV_3 n u (UInt8.ofNat u.toNat) (Vm.small_u8 (by omega) (by omega)) (by omega) (by omega) hi B a m c xs w he hown hB hl hz2 hb
    · exact appV_4 u (by omega) B a m c xs w he hown hB hl hz2 hb
    · exact appV_5 u (by omega) B a m c xs w he hown hB hl hz2 hb

set_option maxHeartbeats 1000000 in
set_option maxRecDepth 100000 in
theorem key_put (a : Option Addr) (n cap : Nat) (cs : List Vm.Cl) (w : World) (he : EnvV w) (hv : Vs (.slice a n cap) cs w) (hl : cs.length ≤ 100) (hi : ∀ c ∈ cs, i64 c.n ∧ c.s.size ≤ 500) :
    Calls Tryd.prog 10 #[.slice a n cap] w (YtA (Vm.put cs) w) := by
  have hnl : n = cs.length := by obtain ⟨b, d, e⟩ := hv.form; injection e
  have hn1 : n ≤ cs.length := by omega
  have hn2 : cs.length ≤ n := by omega
  clear hnl
  have HV := Lib.hid hv
  have HI := Lib.hid hi
  have HE := Lib.hid he
  clear hv hi he
  go_enter Tryd.func10, Tryd.ntmps10
  go_wp2_with fail
  go_loopw [3, 8] (fun bv iv wr => ∃ (j m : Nat) (aa : Option Addr) (cc : Nat), j ≤ n ∧ iv = .int .i64 (j : Int) ∧ bv = .slice aa m cc ∧ Hid (wr.ownsRow w.heap.size 5 1 (.slice aa m cc) m (yc (Vm.put (cs.take j)))) ∧ Hid (Below w.heap.size w wr)) (fun _ iv _ => n - (Lib.intOf iv).toNat)
  case atStart => exact ⟨0, 0, none, 0, by omega, rfl, rfl, World.ownsRow_nil _ _ _ _, Below.refl _ _⟩
  case round =>
    obtain ⟨j, m, aa, cc, hj, rfl, rfl, HO, HB⟩ := hrel
    by_cases hlt : j < n
    · have hjl : j < cs.length := by omega
      obtain ⟨g, off, ha, -, hg, hb⟩ := (HV.out.keep HB.out).at j hjl
      obtain ⟨c, hc⟩ : ∃ c, c = cs[j] := ⟨_, rfl⟩
      rw [← hc] at hb
      have hci := HI.out c (by rw [hc]; exact List.getElem_mem hjl)
      have hwr := HB.out.size
      have hplen : (Vm.put (cs.take j)).length ≤ 900000 := by
        have h := put_len (cs.take j)
        rw [List.length_take] at h
        omega
      have hba := one_b wr (.cells #[.int .i64 c.k, .int .i64 c.n, .int .i64 c.sc, .string c.s] 29)
      have HC := Lib.hid (key_appendValue w.heap.size aa m cc (Vm.put (cs.take j)) c _ ((HE.out.keep HB.out).keep hba) (own_below HO.out hba) (by simp; omega) hplen hci.1 hci.2)
      have HBA := Lib.hid (HB.out.trans (hba.mono hwr))
      rw [show Vm.put (cs.take j) ++ Vm.one (Vm.plain c) = Vm.put (cs.take (j + 1)) by rw [put_take cs j hjl, hc]] at HC
      clear hc hci hplen hba HO
      subst ha
      obtain ⟨ck, cn, cc', cz⟩ := c
      obtain ⟨c0, c1, c2, c3⟩ := hb
      dsimp only at c0 c1 c2 c3 HC HBA
      go_wp2_with fail
      refine HC.out.mono ?_
      rintro e w1 ⟨a2, n2, c2', rfl, hn2', hO2, hb⟩
      have HO2 := Lib.hid hO2
      have HB2 := Lib.hid (HBA.out.trans hb)
      clear hb hO2 hn2' HB c0 c1 c2 c3 HC HBA
      go_wp2
      go_roundw
      case rel => exact ⟨j + 1, n2, a2, c2', by omega, by go_num, rfl, HO2, HB2⟩
      case measure => simp [Lib.intOf]; omega
    · have hjn : j = cs.length := by omega
      have ho := HO.out
      rw [hjn, List.take_length] at ho
      have HF := Lib.hid ho
      clear HO hjn ho
      go_wp2
      go_ret
      exact ⟨aa, m, cc, rfl, own_len HF.out, Yt.of_own HF.out, HB.out⟩

theorem Yt.setLast {g n : Nat} {x x' : UInt8} {t : List UInt8} {w : World} (h : Yt (.slice (some ⟨g, 0, none⟩) n n) (t ++ [x]) w) (hn : n = t.length + 1) :
    Yt (.slice (some ⟨g, 0, none⟩) n n) (t ++ [x']) (w.setCell ⟨g, t.length, none⟩ (.int .u8 x'.toNat)) := by
  subst hn
  have hl : (t ++ [x]).length = t.length + 1 := by simp
  have hl' : (t ++ [x']).length = t.length + 1 := by simp
  rcases h with ⟨_, _, _, e⟩ | ⟨g', off, cap, e, hc, hg, hcell⟩
  · simp at e
  · injection e with e1 e2 e3
    injection e1 with e1
    injection e1 with e1 e4
    subst e1; subst e4; subst e3
    refine .inr ⟨g, 0, t.length + 1, by rw [hl'], by omega, by simpa using hg, fun j hj => ?_⟩
    rw [hl'] at hj
    have hj0 := hcell j (by omega)
    rw [Nat.zero_add] at hj0 ⊢
    by_cases hjt : j = t.length
    · subst hjt
      rw [World.cell?_setCell_same _ _ _ hj0]
      simp [List.getD]
    · rw [World.cell?_setCell_other (h := ad_ne (.inr (fun e => hjt e.symm))), hj0]
      have : j < t.length := by omega
      simp [List.getD, List.getElem?_append, this]
theorem yt_last {g n : Nat} {x : UInt8} {t : List UInt8} {w : World} (h : Yt (.slice (some ⟨g, 0, none⟩) n n) (t ++ [x]) w) : w.cell? ⟨g, t.length, none⟩ = some (.int .u8 (x.toNat : Int)) := by
  obtain ⟨ad, e, hc⟩ := yc_src h (by simp)
  injection e with e
  subst e
  have := hc t.length (.int .u8 (x.toNat : Int)) (by rw [yc_get]; simp)
  rwa [addr_at, Nat.zero_add] at this

set_option maxHeartbeats 2000000 in
set_option maxRecDepth 100000 in
theorem key_above (a : Option Addr) (n cap : Nat) (l : List UInt8) (w : World) (hv : Yt (.slice a n cap) l w) (hl : l.length ≤ 50000) : Calls Tryd.prog 21 #[.slice a n cap] w (YtA (Vm.above l) w) := by
  have hnl : n = l.length := by obtain ⟨_, _, e⟩ := hv.form; injection e
  obtain ⟨R, hR⟩ : ∃ R, R = Vm.above l := ⟨_, rfl⟩
  rw [← hR]
  have HR0 := Lib.hid hR
  have HL := Lib.hid hnl
  have HV := Lib.hid hv
  have hn5 : n ≤ 50000 := by omega
  clear hR hnl hv hl
  go_enter Tryd.func21, Tryd.ntmps21
  go_wp2_with fail
  go_loop [3] (fun sv => ∃ m : Nat, m ≤ n ∧ sv = .int .i64 (m : Int) ∧ Hid (R = Vm.above (l.take m))) (fun sv => (Lib.intOf sv).toNat)
  case atStart => exact ⟨n, Nat.le_refl _, rfl, by show _ = _; rw [HR0.out, HL.out, List.take_length]⟩
  case round =>
    obtain ⟨m, hm, rfl, HR⟩ := hrel
    clear HR0
    by_cases h0 : m = 0
    · subst h0
      have HE : Hid (R = []) := by show _ = _; rw [HR.out, List.take_zero]; rfl
      clear HR
      go_wp2
      go_ret
      exact ⟨none, 0, 0, rfl, by rw [HE.out]; rfl, by rw [HE.out]; exact .inl ⟨_, _, rfl, rfl⟩, Below.refl _ _⟩
    have hml : m - 1 < l.length := by have := HL.out; omega
    obtain ⟨g, off, rfl, hcap, hcell⟩ : ∃ g off, a = some ⟨g, off, none⟩ ∧ n ≤ cap ∧ w.cell? ⟨g, off + (m - 1), none⟩ = some (.int .u8 (l[m - 1].toNat : Int)) := by
      rcases HV.out with ⟨_, _, _, e⟩ | ⟨g, off, cap', e, hc, hg, hcl⟩
      · rw [e] at hml; simp at hml
      · injection e with e1 e2 e3
        refine ⟨g, off, e1, by omega, ?_⟩
        rw [hcl (m - 1) hml]
        simp [List.getD, hml]
    have hix : IntKind.i64.wrap ((m : Int) - 1) = ((m - 1 : Nat) : Int) := by rw [IntWalk.i64_in _ (by omega)]; omega
    have hlt : m - 1 < n := by omega
    have hlt2 : ((m - 1 : Nat) : Int) < (n : Int) := by omega
    have hm0 : (0 : Int) < (m : Int) := by omega
    have q0 : ((m : Int) == 0) = false := by rw [beq_eq_false_iff_ne]; omega
    have hmc : (m : Int) ≤ (cap : Int) := by omega
    obtain ⟨t, ht⟩ : ∃ t, t = l.take (m - 1) := ⟨_, rfl⟩
    obtain ⟨x, hx⟩ : ∃ x, l[m - 1] = x := ⟨_, rfl⟩
    have htk : l.take m = t ++ [x] := by
      have := List.take_append_getElem hml
      rw [hx, show m - 1 + 1 = m by omega] at this
      rw [ht]; exact this.symm
    have htl : t.length = m - 1 := by rw [ht, List.length_take]; omega
    rw [hx] at hcell
    by_cases h255 : x = 255
    · have q : ((x.toNat : Int) == 255) = true := by rw [h255]; rfl
      have HR2 : Hid (R = Vm.above (l.take (m - 1))) := by show _ = _; rw [HR.out, htk, h255, Vm.above_255, ht]
      clear HR htk hx h255 ht htl
      go_wp2
      go_round
      case rel => exact ⟨m - 1, by omega, by go_num, HR2⟩
      case measure => simp [Lib.intOf]; omega
    · have q : ((x.toNat : Int) == 255) = false := by
        rw [beq_eq_false_iff_ne]; intro e; exact h255 (UInt8.toNat_inj.1 (by show x.toNat = 255; omega))
      have HR2 : Hid (R = t ++ [x + 1]) := by show _ = _; rw [HR.out, htk, Vm.above_inc x h255]
      have hyt : Yt (.slice (some ⟨g, off, none⟩) m cap) (t ++ [x]) w := by
        rw [← htk]
        exact ((Yb.of HV.out (by have := HL.out; omega)).take (by have := HL.out; omega)).yt (Nat.le_refl _)
      have HC := Lib.hid (key_copied (some ⟨g, off, none⟩) m cap (t ++ [x]) w hyt (by rw [List.length_append, htl]; simp; omega))
      have hx1 : ((x + 1).toNat : Int) = ((x.toNat : Int) + 1) % 256 := by rw [UInt8.toNat_add]; show (((x.toNat + 1) % 256 : Nat) : Int) = _; omega
      have HTL := Lib.hid htl
      clear HR htk hx h255 ht hyt htl
      go_wp2_with fail
      refine HC.out.mono ?_
      rintro e w4 ⟨g2, m2, cur, rfl, hm2, hgB, hg, hcur, hb4⟩
      have hm2' : m2 = m := by rw [hm2, List.length_append, HTL.out]; simp; omega
      subst hm2'
      have hy := yt_row hg hcur
      rw [← hm2] at hy
      have hcl := yt_last hy
      have hfz := Lib.frozen_of_heap hg (m2 - 1)
      have HY2 := Lib.hid (Yt.setLast (x' := x + 1) hy (by rw [HTL.out]; omega))
      rw [hx1, HTL.out] at HY2
      rw [HTL.out] at hcl
      have HB4 := Lib.hid (hb4.setCell (p := ⟨g2, m2 - 1, none⟩) hgB (.int .u8 (((x.toNat : Int) + 1) % 256)))
      clear hy hb4 hg hcur hm2 hx1 hgB HC
      go_wp2
      go_ret
      refine ⟨some ⟨g2, 0, none⟩, m2, m2, rfl, ?_, ?_, ?_⟩
      · rw [HR2.out, List.length_append, HTL.out]; simp; omega
      · rw [HR2.out]; exact HY2.out
      · exact HB4.out
end Go.Proofs.YtamclbagafcmgaaDoor
/- Package keys: the bundle of its contracts. -/
namespace Go.Proofs.YtamclbagafcmgaaDoor
open Go.RowKit
theorem keyCon : KeyCon where
  put := key_put
  get := key_get
  next := key_next
  above := fun a n cap l w _ hv hl => key_above a n cap l w hv hl
end Go.Proofs.YtamclbagafcmgaaDoor
