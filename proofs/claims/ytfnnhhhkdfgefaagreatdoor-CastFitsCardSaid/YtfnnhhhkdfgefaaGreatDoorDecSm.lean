/- What the start laid down and the walks read; strconv.FormatUint at base 10. -/
import Derived.Test.YtfnnhhhkdfgefaaGreatDoorDecAm
import Derived.Lib.AppendIntMem
import Derived.Lib.SmallJoins
import Derived.Deep.RegionHeld
import Derived.Deep.QuietTactic
import Derived.BigQuiet
namespace Go.Proofs.YtfnnhhhkdfgefaaGreatDoor
open Go.RowKit Go.Sort

/-- the package-level variables that the library's functions read -/
structure Env (w : World) : Prop where
  tab : Lib.TabIs Tryz.prog w "internal/strconv.uint64pow10" .u64 Lib.pow10Tab
  mx : ∃ m, w.cell? ⟨2, 0, none⟩ = some (.int .i64 m)
  syn : ∃ tp p, w.var? Tryz.prog "strconv.ErrSyntax" = some #[.iface tp p]
  rng : ∃ tp p, w.var? Tryz.prog "strconv.ErrRange" = some #[.iface tp p]
theorem g_tab : Tryz.prog.globalNamed "internal/strconv.uint64pow10" = some 3 := by kernel_rfl
theorem g_syn : Tryz.prog.globalNamed "strconv.ErrSyntax" = some 4 := by kernel_rfl
theorem g_rng : Tryz.prog.globalNamed "strconv.ErrRange" = some 5 := by kernel_rfl
theorem Env.keep {w w' : World} (h : Env w) (hb : Below w.heap.size w w') : Env w' := by
  obtain ⟨m, hm⟩ := h.mx
  obtain ⟨tp, p, hp⟩ := h.syn
  obtain ⟨tq, q, hq⟩ := h.rng
  exact ⟨Joins.var_stays g_tab h.tab hb (Nat.le_refl _), ⟨m, (hb.cell (World.block_lt_of_cell? w _ hm)).trans hm⟩, ⟨tp, p, Joins.var_stays g_syn hp hb (Nat.le_refl _)⟩, ⟨tq, q, Joins.var_stays g_rng hq hb (Nat.le_refl _)⟩⟩
theorem below_grow (w : World) (k : Nat) (os : Array Obj) : Below w.heap.size w (grow (w.drewN k) os) :=
  ⟨rfl, rfl, rfl, by simp [grow], fun g hg => Lib.heap_grow_old w k os g hg⟩
/-- what a function that answers a string leaves -/
def Str (l : List UInt8) (w : World) (e : Ending) (w' : World) : Prop := e = .returned (.string ⟨l.toArray⟩) ∧ Below w.heap.size w w'
set_option maxRecDepth 100000 in
theorem fmt_small (i : Nat) (hi : i < 100) (w : World) : Calls Tryz.prog 78 #[.int .u64 (i : Int), .int .i64 10] w (Str (Lib.decDigits i) w) := by
  have h1 : (i : Int) < 100 := by omega
  have HI := Lib.hid hi
  clear hi
  go_enter Tryz.func78, Tryz.ntmps78
  go_wp2_with fail
  refine (Tryz.internal_strconv_small i HI.out _).mono ?_
  rintro e w' ⟨rfl, rfl⟩
  go_wp2
  go_ret
  exact ⟨rfl, Below.refl _ _⟩
set_option maxRecDepth 100000 in
set_option maxHeartbeats 1000000 in
theorem fmt_big (u : Nat) (hi : 100 ≤ u) (hu64 : u < 18446744073709551616) (w : World) (htab : Lib.TabIs Tryz.prog w "internal/strconv.uint64pow10" .u64 Lib.pow10Tab) :
    Calls Tryz.prog 78 #[.int .u64 (u : Int), .int .i64 10] w (Str (Lib.decDigits u) w) := by
  have hnd : Lib.nDigits u ≤ 20 := by have := Lib.numDigits_eq u (by omega) hu64; split at this <;> omega
  have hal : Tryz.prog.arrayLen 121 = 24 := by kernel_rfl
  have hsl : ∀ W, (Instr.sliceAt 121 (.pointer (some ⟨w.heap.size, 0, none⟩)) none (some (.int .i64 (Lib.nDigits u : Int))) none).run Tryz.prog W = .ok (.slice (some ⟨w.heap.size, 0, none⟩) (Lib.nDigits u) 24) W := fun W => by
    rw [run_sliceAt_array_h W 121 ⟨w.heap.size, 0, none⟩ (by kernel_rfl) .i64 (Lib.nDigits u : Int) (by omega) (by rw [hal]; omega), hal, show Tryz.prog.elem 121 = 5 by kernel_rfl]
    go_simp
  have hH0 := Lib.holds_zero0 w 121 (Lib.nDigits u) (by omega)
  have hfmt := Tryz.internal_strconv_formatBase10 w.heap.size 0 24 u (Array.replicate (Lib.nDigits u) 0) (w.alloc (.cells Lib.zeros24 121)) hH0 (by rw [Array.size_replicate]; exact Lib.lt_pow_nDigits u) hu64 (by rw [Array.size_replicate]; omega)
  rw [Array.size_replicate] at hfmt
  have HH0 := Lib.hid hH0
  have HF := Lib.hid hfmt
  have HN := Lib.hid (Tryz.internal_strconv_numDigits u (by omega) hu64 (w.alloc (.cells Lib.zeros24 121)) (Lib.tabIs_alloc htab _))
  have h1 : (100 : Int) ≤ (u : Int) := by omega
  clear hH0 hfmt hal htab hu64 hi
  go_enter Tryz.func78, Tryz.ntmps78
  go_wp2_with fail
  refine HN.out.mono ?_
  rintro e w' ⟨rfl, rfl⟩
  go_wp2_with fail
  refine HF.out.mono ?_
  rintro e w' ⟨rfl, k, v', dk, rfl, hF⟩
  have hcv : (convert 110 9 (.slice (some ⟨w.heap.size, 0, none⟩) (Lib.nDigits u) 24)).run Tryz.prog ((putRow (fun (b : UInt8) => Value.int .u8 (b.toNat : Int)) (w.alloc (.cells Lib.zeros24 121)) w.heap.size 0 dk).drewN k) = .ok (.string ⟨(Lib.decDigits u).toArray⟩) ((putRow (fun (b : UInt8) => Value.int .u8 (b.toNat : Int)) (w.alloc (.cells Lib.zeros24 121)) w.heap.size 0 dk).drewN k) := by
    have h := run_convert_bytes_back (P := Tryz.prog) ((putRow (fun (b : UInt8) => Value.int .u8 (b.toNat : Int)) (w.alloc (.cells Lib.zeros24 121)) w.heap.size 0 dk).drewN k) 110 9 5 ⟨w.heap.size, 0, none⟩ 24 (Lib.decDigits u) Tryz.underlying110 Tryz.underlying5 Tryz.underlying9 (fun j hj => by
      rw [Lib.row_is_numeral hF j hj, Lib.add_plain, World.cell?_drewN]
      exact cell?_putRow (fun (b : UInt8) => Value.int .u8 (b.toNat : Int)) _ w.heap.size 0 _ dk HH0.out (by rw [hF.size, Array.size_replicate]) j (by rw [hF.size]; rw [Lib.decDigits_length] at hj; exact hj))
    rw [Lib.decDigits_length] at h
    exact h
  go_wp2
  go_ret
  obtain ⟨os, eo⟩ := Lib.fin_at w (.cells Lib.zeros24 121) dk k 0
  exact ⟨rfl, by rw [eo]; exact below_grow w k os⟩
theorem format_uint (u : Nat) (hu64 : u < 18446744073709551616) (w : World) (he : Env w) :
    Calls Tryz.prog 64 #[.int .u64 (u : Int), .int .i64 10] w (Str (Lib.decDigits u) w) := by
  have HU : Hid (Calls Tryz.prog 78 #[.int .u64 (u : Int), .int .i64 10] w (Str (Lib.decDigits u) w)) := by
    by_cases h : u < 100
    · exact fmt_small u h w
    · exact fmt_big u (by omega) hu64 w he.tab
  clear hu64
  go_enter Tryz.func64, Tryz.ntmps64
  go_wp2_with fail
  refine HU.out.mono ?_
  rintro e w' ⟨rfl, hb⟩
  have HB := Lib.hid hb
  clear hb
  go_wp2
  go_ret
  exact ⟨rfl, HB.out⟩
end Go.Proofs.YtfnnhhhkdfgefaaGreatDoor
/- Package decimal: Print. -/
namespace Go.Proofs.YtfnnhhhkdfgefaaGreatDoor
open Go.RowKit

/-- a string of bytes -/
def bstr (l : List UInt8) : ByteArray := ⟨l.toArray⟩
theorem bstr_size (l : List UInt8) : (bstr l).size = l.length := by simp [bstr, ByteArray.size]
theorem bstr_data (l : List UInt8) : (bstr l).data.toList = l := rfl
theorem bstr_append (a b : List UInt8) : bstr a ++ bstr b = bstr (a ++ b) := by
  unfold bstr; apply ByteArray.ext; simp
theorem bstr_cons (c : UInt8) (l : List UInt8) : bstr (c :: l) = bstr [c] ++ bstr l := (bstr_append [c] l).symm
theorem bstr_extract (l : List UInt8) (i j : Nat) : (bstr l).extract i j = bstr ((l.drop i).take (j - i)) := by
  unfold bstr; apply ByteArray.ext; simp [List.extract_eq_take_drop]
theorem ret_str {a : ByteArray} {l : List UInt8} (h : a = bstr l) : Ending.returned (.string a) = .returned (.string ⟨l.toArray⟩) := by rw [h]; rfl
/-- the digits, with noughts ahead so that at least one stands before the point -/
def padD (m k : Nat) : List UInt8 := List.replicate (k + 1 - (Lib.decDigits m).length) 48 ++ Lib.decDigits m
/-- the digits with the point -/
def dotD (m k : Nat) : List UInt8 := if k = 0 then padD m k else (padD m k).take ((padD m k).length - k) ++ [46] ++ (padD m k).drop ((padD m k).length - k)
/-- Print in plain words -/
def printM (n s : Int) : List UInt8 := if scB s then (if n < 0 then 45 :: dotD n.natAbs s.toNat else dotD n.natAbs s.toNat) else []
theorem repeat_one (c : Nat) : Lib.repeatL [48] c = List.replicate c 48 := by
  induction c with
  | zero => rfl
  | succ c ih => rw [Lib.repeatL, ih]; rfl
theorem dec_print_no (n s : Int) (w : World) (hs : scB s = false) : Calls Tryz.prog 48 #[.int .i64 n, .int .i64 s] w (Str (printM n s) w) := by
  have hm : printM n s = [] := by unfold printM; rw [hs]; rfl
  have HM := Lib.hid hm; have HS := Lib.hid hs
  clear hm hs
  go_enter Tryz.func48, Tryz.ntmps48
  go_wp2_with fail
  refine (dec_right s _).mono ?_
  rintro e w1 ⟨rfl, rfl⟩
  rw [HS.out]
  go_wp2
  go_ret
  exact ⟨by rw [HM.out]; rfl, Below.refl _ _⟩
theorem nd_len (u : Nat) (h : u < 18446744073709551616) : 1 ≤ (Lib.decDigits u).length ∧ (Lib.decDigits u).length ≤ 20 := by
  rw [Lib.decDigits_length]
  have h1 : 1 ≤ Lib.nDigits u := by
    by_cases h0 : u < 10
    · rw [Lib.nDigits_small h0]; omega
    · rw [Lib.nDigits_big h0]; omega
  refine ⟨h1, ?_⟩
  by_cases h0 : u = 0
  · subst h0; rw [Lib.nDigits_small (by omega)]; omega
  · have := Lib.numDigits_eq u (by omega) h; split at this <;> omega
set_option maxHeartbeats 1000000 in
theorem dec_print_yes (n : Int) (k : Nat) (sn : Bool) (w : World) (he : Env w) (hn : i64 n) (hk : k ≤ 6) (qn : decide (n < 0) = sn) :
    Calls Tryz.prog 48 #[.int .i64 n, .int .i64 (k : Int)] w (Str (printM n (k : Int)) w) := by
  have hs : scB (k : Int) = true := by simp [scB]; omega
  have hm : printM n (k : Int) = if sn then 45 :: dotD n.natAbs k else dotD n.natAbs k := by
    unfold printM; rw [hs, if_pos rfl, Int.toNat_natCast, ← qn]; simp
  have hnl := nd_len n.natAbs (natAbs_lt n hn)
  obtain ⟨PL, hPL⟩ : ∃ PL, PL = printM n (k : Int) := ⟨_, rfl⟩
  rw [← hPL] at hm ⊢
  clear hPL
  have HM := Lib.hid hm; have HS := Lib.hid hs
  have HA := Lib.hid (dec_mag n · hn)
  have LA := Lib.hid (natAbs_lt n hn)
  have HE := Lib.hid he
  clear hm hs hn he
  revert HM HA LA hnl
  generalize n.natAbs = u
  intro hnl HM HA LA
  go_enter Tryz.func48, Tryz.ntmps48
  go_wp2_with fail
  refine (dec_right (k : Int) _).mono ?_
  rintro e w1 ⟨rfl, rfl⟩
  rw [HS.out]
  go_wp2_with fail
  refine (HA.out _).mono ?_
  rintro e w1 ⟨rfl, rfl⟩
  go_wp2_with fail
  refine (format_uint u LA.out _ HE.out).mono ?_
  rintro e w1 ⟨rfl, hb⟩
  have HB := Lib.hid hb
  have HD : Hid (∃ D, D = Lib.decDigits u) := ⟨_, rfl⟩
  obtain ⟨D, hD⟩ := HD.out
  rw [← hD] at hnl ⊢
  have HDE := Lib.hid hD
  clear hb hD HD
  obtain ⟨d1, d2⟩ := hnl
  clear HA HE
  change _ at *
  go_upto_region 4 with (fail)
  rw [show (⟨D.toArray⟩ : ByteArray) = bstr D from rfl]
  have hz : (bstr D).size = D.length := bstr_size D
  rw [← hz] at d1 d2
  obtain ⟨S0, hS0⟩ : ∃ S0, S0 = bstr D := ⟨_, rfl⟩
  rw [← hS0] at d1 d2 hz ⊢
  have HS0 := Lib.hid hS0; have HZ := Lib.hid hz
  clear hS0 hz
  go_wp2_with fail
  obtain ⟨c, hc⟩ : ∃ c : Nat, c = k + 1 - S0.size := ⟨_, rfl⟩
  have ec : max (0 : Int) ((k : Int) + 1 - (S0.size : Int)) = (c : Int) := by omega
  rw [ec]
  have hc7 : c ≤ 7 := by omega
  have hks : k + 1 ≤ c + S0.size := by omega
  have HC := Lib.hid hc
  clear hc ec
  refine (Tryz.strings_Repeat ⟨#[48]⟩ c _ (by omega) (by show 1 * c ≤ _; omega)).mono ?_
  rintro e w2 ⟨rfl, hb⟩
  have HB2 := Lib.hid (HB.out.trans (hb.mono HB.out.size))
  obtain ⟨R, hR⟩ : ∃ R : ByteArray, R = ⟨(Lib.repeatL (⟨#[48]⟩ : ByteArray).data.toList c).toArray⟩ := ⟨_, rfl⟩
  rw [← hR]
  have hR2 : R = bstr (List.replicate c 48) := by rw [hR]; unfold bstr; rw [← repeat_one]
  have hRz : R.size = c := by rw [hR2, bstr_size, List.length_replicate]
  have hR7 : R.size ≤ 7 := by omega
  have hks2 : k + 1 ≤ R.size + S0.size := by omega
  have HR := Lib.hid hR2
  have HCc : Hid (k + 1 - S0.size = c) := HC.out.symm
  clear hb HB hR hR2 hRz hks HC hc7
  go_upto_region 5 with (fail)
  obtain ⟨T, hT⟩ : ∃ T : ByteArray, T = R ++ S0 := ⟨_, rfl⟩
  have hTp : T = bstr (padD u k) := by
    rw [hT, HR.out, HS0.out, bstr_append]
    unfold padD
    rw [← HDE.out, ← HZ.out, HCc.out]
  have hTz : T.size = R.size + S0.size := by rw [hT]; simp
  have hTl : (padD u k).length = T.size := by rw [hTp, bstr_size]
  rw [← hT]
  have t1 : k + 1 ≤ T.size := by omega
  have t2 : T.size ≤ 27 := by omega
  have HT := Lib.hid hTp; have HTL := Lib.hid hTl
  clear hT hTp hTz hTl hks2 hR7 HR HS0 HZ HDE d1 d2 HCc
  by_cases hk0 : k = 0
  · subst hk0
    have hd : dotD u 0 = padD u 0 := by unfold dotD; rw [if_pos rfl]
    have HDD := Lib.hid hd
    clear hd
    cases sn
    · have HF := Lib.hid (show PL = padD u 0 from by rw [HM.out, HDD.out]; rfl)
      clear HM HDD
      go_wp2
      go_ret
      exact ⟨ret_str (by rw [HF.out, HT.out]), HB2.out⟩
    · have HF := Lib.hid (show PL = 45 :: padD u 0 from by rw [HM.out, HDD.out]; rfl)
      clear HM HDD
      go_wp2
      go_ret
      exact ⟨ret_str (by rw [HF.out, HT.out]; exact bstr_append [45] _), HB2.out⟩
  · have hk1 : (0 : Int) < (k : Int) := by omega
    obtain ⟨q, hq⟩ : ∃ q : Nat, q = T.size - k := ⟨_, rfl⟩
    have hd : dotD u k = (padD u k).take q ++ [46] ++ (padD u k).drop q := by unfold dotD; rw [if_neg hk0, HTL.out, hq]
    have HDD := Lib.hid hd
    have q1 : q ≤ T.size := by omega
    have HEX : Hid (T.extract 0 q = bstr ((padD u k).take q)) := by show _ = _; rw [HT.out, bstr_extract]; simp
    have HEY : Hid (T.extract q T.size = bstr ((padD u k).drop q)) := by
      show _ = _
      rw [show T.size = (padD u k).length from HTL.out.symm, HT.out, bstr_extract, List.take_of_length_le (by simp)]
    clear hd
    go_upto_region 7 with (fail)
    have eq : (T.size : Int) - (k : Int) = (q : Int) := by omega
    rw [eq]
    clear eq hq
    cases sn
    · have HF := Lib.hid (show PL = (padD u k).take q ++ [46] ++ (padD u k).drop q from by rw [HM.out, HDD.out]; rfl)
      clear HM HDD
      go_quiet (fail)
      go_wp2
      go_ret
      exact ⟨ret_str (by rw [HF.out, HEX.out, HEY.out, ← bstr_append, ← bstr_append]; rfl), below_n HB2.out _⟩
    · have HF := Lib.hid (show PL = 45 :: ((padD u k).take q ++ [46] ++ (padD u k).drop q) from by rw [HM.out, HDD.out]; rfl)
      clear HM HDD
      go_quiet (fail)
      go_wp2
      go_ret
      exact ⟨ret_str (by rw [HF.out, HEX.out, HEY.out, bstr_cons, ← bstr_append, ← bstr_append]; rfl), below_n HB2.out _⟩
theorem dec_print (n s : Int) (w : World) (he : Env w) (hn : i64 n) : Calls Tryz.prog 48 #[.int .i64 n, .int .i64 s] w (Str (printM n s) w) := by
  cases hs : scB s
  · exact dec_print_no n s w hs
  · obtain ⟨h1, h2⟩ := scB_true hs
    obtain ⟨k, rfl⟩ : ∃ k : Nat, s = (k : Int) := ⟨s.toNat, by omega⟩
    exact dec_print_yes n k _ w he hn (by omega) rfl
end Go.Proofs.YtfnnhhhkdfgefaaGreatDoor
/- The reference of layer 2: Digits, Print. -/
namespace Go.Proofs.YtfnnhhhkdfgefaaGreatDoor
open Go.RowKit

/-- the digits of a number as text, least digit last -/
def txt (l : List Int) : List UInt8 := (l.map fun d => UInt8.ofNat (48 + d.toNat)).reverse
theorem txt_snoc (l : List Int) (d : Int) : txt (l ++ [d]) = UInt8.ofNat (48 + d.toNat) :: txt l := by simp [txt]
/-- the numeral of a number that is not 0 is the text of its digits -/
theorem txt_dg : ∀ m : Nat, m ≠ 0 → Lib.decDigits m = txt (Dm.dg m) := by
  intro m
  induction m using Nat.strongRecOn with
  | _ m ih =>
    intro h0
    rw [Lib.decDigits]
    by_cases h : m < 10
    · rw [dif_pos h, Dm.dg_pos m h0, show m / 10 = 0 by omega, Dm.dg_zero, Nat.mod_eq_of_lt h]; simp [txt]
    · rw [dif_neg h, Dm.dg_pos m h0, ih (m / 10) (by omega) (by omega)]; simp [txt]; rw [show ((m : Int) % 10).toNat = m % 10 by omega]
theorem toList_nonempty (S : ByteArray) (h : S.size ≠ 0) : S.toList.isEmpty = false := by
  rw [Lib.toList_data]
  cases hl : S.data.toList with
  | nil => exact absurd (by rw [ByteArray.size, ← Array.length_toList, hl]; rfl) h
  | cons a b => rfl
/-- one digit cut out of the ten -/
theorem ten_cut (d : Nat) (h : d ≤ 9) : (⟨#[48, 49, 50, 51, 52, 53, 54, 55, 56, 57]⟩ : ByteArray).extract d (d + 1) = bstr [UInt8.ofNat (48 + d)] := by
  have : ∀ d : Fin 10, (⟨#[48, 49, 50, 51, 52, 53, 54, 55, 56, 57]⟩ : ByteArray).extract d.val (d.val + 1) = bstr [UInt8.ofNat (48 + d.val)] := by decide +kernel
  exact this ⟨d, by omega⟩
set_option maxHeartbeats 1000000 in
theorem ref_digits (n : Int) (w : World) (hn : i64 n) : Calls Tryz.prog 40 #[.int .i64 n] w (Str (Lib.decDigits n.natAbs) w) := by
  have hnd := nd_i64 n hn
  have HO := Lib.hid (ref_of n · hn)
  have HQ := Lib.hid (txt_dg n.natAbs)
  clear hn
  revert HO HQ hnd
  generalize n.natAbs = m
  intro hnd HO HQ
  go_enter Tryz.func40, Tryz.ntmps40
  go_wp2_with fail
  refine (HO.out _).mono ?_
  rintro e w1 ⟨oa, oc, rfl, hi, hb⟩
  rw [Dm.dg_length] at hi ⊢
  have HI := Lib.hid hi; have HB := Lib.hid hb
  clear hi hb HO
  go_wp2_with fail
  go_loop [3, 9] (fun s i => ∃ j : Nat, ∃ S : ByteArray, j ≤ Dm.nd m ∧ i = .int .i64 (j : Int) ∧ s = .string S ∧ S.size ≤ 20 ∧ Hid (S = bstr (txt ((Dm.dg m).take j)) ∧ S.size = j)) (fun _ i => Dm.nd m - (Lib.intOf i).toNat)
  case atStart => exact ⟨0, _, Nat.zero_le _, rfl, rfl, by decide, rfl, rfl⟩
  case round =>
    obtain ⟨j, S, hj, rfl, rfl, hS20, HS⟩ := hrel
    by_cases hlt : j < Dm.nd m
    · obtain ⟨g, off, rfl, hg, hcell⟩ := HI.out.at j hlt
      rw [Dm.dg_get m j hlt] at hcell
      have hd : m / 10 ^ j % 10 ≤ 9 := by omega
      have ht : (Dm.dg m).take (j + 1) = (Dm.dg m).take j ++ [((m / 10 ^ j % 10 : Nat) : Int)] := by
        rw [Dm.dg_lowd, Dm.lowd_take _ _ _ (by omega), Dm.lowd_take _ _ _ (by omega), Dm.lowd_snoc]
      have HT := Lib.hid ht
      clear ht
      revert hcell hd HT
      generalize m / 10 ^ j % 10 = d
      intro hcell hd HT
      have hcut := ten_cut d hd
      have hone : (bstr [UInt8.ofNat (48 + d)]).size = 1 := bstr_size _
      have HS2 : Hid (bstr [UInt8.ofNat (48 + d)] ++ S = bstr (txt ((Dm.dg m).take (j + 1))) ∧ (bstr [UInt8.ofNat (48 + d)] ++ S).size = j + 1) := by
        refine ⟨?_, ?_⟩
        · rw [HS.out.1, HT.out, txt_snoc, bstr_append, Int.toNat_natCast]; rfl
        · rw [ByteArray.size_append, hone, show S.size = j from HS.out.2]; omega
      have hSj : S.size ≤ 18 := by have e : S.size = j := HS.out.2; omega
      generalize bstr [UInt8.ofNat (48 + d)] = X at *
      go_wp2
      go_round
      case rel => exact ⟨j + 1, X ++ S, by omega, by go_num, rfl, by simp [hone]; omega, HS2⟩
      case measure => simp [Lib.intOf]; omega
    · have hjn : j = Dm.nd m := by omega
      have hSz : S.size = j := HS.out.2
      have hfull : S = bstr (txt (Dm.dg m)) := by rw [HS.out.1, List.take_of_length_le (by rw [Dm.dg_length]; omega)]
      by_cases hm : m = 0
      · have hS0 : S = ⟨#[]⟩ := by rw [hfull, hm, Dm.dg_zero]; rfl
        have hr : Lib.decDigits m = [48] := by rw [hm, Lib.decDigits, dif_pos (by omega)]; rfl
        have HR := Lib.hid hr
        clear hfull hm hSz hr HS hS20
        subst hS0
        go_wp2
        go_ret
        exact ⟨by rw [HR.out]; rfl, HB.out⟩
      · have hr : bstr (Lib.decDigits m) = S := by rw [HQ.out hm, hfull]
        have hne : S.size ≠ 0 := by
          have := (Dm.nd_spec m).2
          rcases this with e | e
          · exact absurd e hm
          · omega
        have q1 : S.toList.isEmpty = false := toList_nonempty S hne
        have HR := Lib.hid hr
        clear hfull hr HS
        go_wp2
        go_ret
        exact ⟨ret_str HR.out.symm, HB.out⟩
end Go.Proofs.YtfnnhhhkdfgefaaGreatDoor
/- The reference of layer 2: Print. -/
namespace Go.Proofs.YtfnnhhhkdfgefaaGreatDoor
open Go.RowKit

def strLen : Value → Nat
  | .string s => s.size
  | _ => 0
theorem ref_print_no (n s : Int) (w : World) (hs : scB s = false) : Calls Tryz.prog 25 #[.int .i64 n, .int .i64 s] w (Str (printM n s) w) := by
  have hm : printM n s = [] := by unfold printM; rw [hs]; rfl
  have HM := Lib.hid hm; have HS := Lib.hid hs
  clear hm hs
  go_enter Tryz.func25, Tryz.ntmps25
  go_wp2_with fail
  refine (ref_scale s _).mono ?_
  rintro e w1 ⟨rfl, rfl⟩
  rw [HS.out]
  go_wp2
  go_ret
  exact ⟨by rw [HM.out]; rfl, Below.refl _ _⟩
set_option maxHeartbeats 1000000 in
theorem ref_print_yes (n : Int) (k : Nat) (sn : Bool) (w : World) (hn : i64 n) (hk : k ≤ 6) (qn : decide (n < 0) = sn) :
    Calls Tryz.prog 25 #[.int .i64 n, .int .i64 (k : Int)] w (Str (printM n (k : Int)) w) := by
  have hs : scB (k : Int) = true := by simp [scB]; omega
  have hm : printM n (k : Int) = if sn then 45 :: dotD n.natAbs k else dotD n.natAbs k := by
    unfold printM; rw [hs, if_pos rfl, Int.toNat_natCast, ← qn]; simp
  have hnl := nd_len n.natAbs (natAbs_lt n hn)
  obtain ⟨PL, hPL⟩ : ∃ PL, PL = printM n (k : Int) := ⟨_, rfl⟩
  rw [← hPL] at hm ⊢
  clear hPL
  have HM := Lib.hid hm; have HS := Lib.hid hs
  have HA := Lib.hid (ref_digits n · hn)
  clear hm hs hn
  revert HM HA hnl
  generalize n.natAbs = u
  intro hnl HM HA
  go_enter Tryz.func25, Tryz.ntmps25
  go_wp2_with fail
  refine (ref_scale (k : Int) _).mono ?_
  rintro e w1 ⟨rfl, rfl⟩
  rw [HS.out]
  go_wp2_with fail
  refine (HA.out _).mono ?_
  rintro e w2 ⟨rfl, hb⟩
  have HB2 := Lib.hid hb
  obtain ⟨d1, d2⟩ := hnl
  clear hb HA
  rw [show (⟨(Lib.decDigits u).toArray⟩ : ByteArray) = bstr (Lib.decDigits u) from rfl]
  go_upto_block 0 with (fail)
  go_cut [5] (fun s wx => ∃ T : ByteArray, s = .string T ∧ Hid (T = bstr (padD u k)) ∧ wx = w2)
  case first =>
    go_wp2_with fail
    go_loop [5] (fun s => ∃ c : Nat, ∃ T : ByteArray, s = .string T ∧ T.size ≤ 27 ∧ c ≤ k + 1 - (Lib.decDigits u).length ∧ Hid (T = bstr (List.replicate c 48 ++ Lib.decDigits u) ∧ T.size = c + (Lib.decDigits u).length)) (fun s => k + 1 - strLen s)
    case atStart => exact ⟨0, _, rfl, by rw [bstr_size]; omega, Nat.zero_le _, rfl, by rw [bstr_size]; omega⟩
    case round =>
      obtain ⟨c, T, rfl, hT, hc, HT⟩ := hrel
      have hz : T.size = c + (Lib.decDigits u).length := HT.out.2
      by_cases hle : T.size ≤ k
      · have HT2 : Hid ((⟨#[48]⟩ : ByteArray) ++ T = bstr (List.replicate (c + 1) 48 ++ Lib.decDigits u) ∧ ((⟨#[48]⟩ : ByteArray) ++ T).size = (c + 1) + (Lib.decDigits u).length) := by
          refine ⟨?_, ?_⟩
          · rw [HT.out.1, List.replicate_succ, List.cons_append, bstr_cons]; rfl
          · rw [ByteArray.size_append, hz]; show 1 + _ = _; omega
        have hc2 : c + 1 ≤ k + 1 - (Lib.decDigits u).length := by omega
        have hs1 : ((⟨#[48]⟩ : ByteArray) ++ T).size = 1 + T.size := by rw [ByteArray.size_append]; rfl
        have HZ := Lib.hid hz; have HS1 := Lib.hid hs1
        clear hz hs1 hc d1 d2
        go_wp2
        go_round
        case rel => exact ⟨c + 1, _, rfl, by rw [HS1.out]; omega, hc2, HT2⟩
        case measure => show k + 1 - strLen (.string _) < k + 1 - strLen (.string _); simp only [strLen]; rw [HS1.out]; omega
      · have hfin : T = bstr (padD u k) := by
          have e : T = bstr (List.replicate c 48 ++ Lib.decDigits u) := HT.out.1
          rw [e]; unfold padD; rw [show k + 1 - (Lib.decDigits u).length = c by omega]
        have HF := Lib.hid hfin
        clear hfin hz d1 d2 hc
        go_wp2
        go_meet
        exact ⟨T, rfl, HF, rfl⟩
  case rest =>
    obtain ⟨T, rfl, HT, rfl⟩ := hcut
    have HTL : Hid ((padD u k).length = T.size) := by show _ = _; rw [HT.out, bstr_size]
    have hpl : (padD u k).length = (k + 1 - (Lib.decDigits u).length) + (Lib.decDigits u).length := by unfold padD; rw [List.length_append, List.length_replicate]
    have t1 : k + 1 ≤ T.size := by have e := HTL.out; omega
    have t2 : T.size ≤ 27 := by have e := HTL.out; omega
    clear hpl d1 d2
    by_cases hk0 : k = 0
    · subst hk0
      have hd : dotD u 0 = padD u 0 := by unfold dotD; rw [if_pos rfl]
      have HDD := Lib.hid hd
      clear hd
      cases sn
      · have HF := Lib.hid (show PL = padD u 0 from by rw [HM.out, HDD.out]; rfl)
        clear HM HDD
        go_wp2
        go_ret
        exact ⟨ret_str (by rw [HF.out, HT.out]), HB2.out⟩
      · have HF := Lib.hid (show PL = 45 :: padD u 0 from by rw [HM.out, HDD.out]; rfl)
        clear HM HDD
        go_wp2
        go_ret
        exact ⟨ret_str (by rw [HF.out, HT.out]; exact bstr_append [45] _), HB2.out⟩
    · have hk1 : (0 : Int) < (k : Int) := by omega
      obtain ⟨q, hq⟩ : ∃ q : Nat, q = T.size - k := ⟨_, rfl⟩
      have hd : dotD u k = (padD u k).take q ++ [46] ++ (padD u k).drop q := by unfold dotD; rw [if_neg hk0, HTL.out, hq]
      have HDD := Lib.hid hd
      have q1 : q ≤ T.size := by omega
      have HEX : Hid (T.extract 0 q = bstr ((padD u k).take q)) := by show _ = _; rw [HT.out, bstr_extract]; simp
      have HEY : Hid (T.extract q T.size = bstr ((padD u k).drop q)) := by
        show _ = _
        rw [show T.size = (padD u k).length from HTL.out.symm, HT.out, bstr_extract, List.take_of_length_le (by simp)]
      have hw : IntKind.i64.wrap ((T.size : Int) - (k : Int)) = (q : Int) := by rw [IntWalk.i64_in _ (by omega)]; omega
      have hw2 : (T.size : Int) - (k : Int) = (q : Int) := by omega
      clear hd
      cases sn
      · have HF := Lib.hid (show PL = (padD u k).take q ++ [46] ++ (padD u k).drop q from by rw [HM.out, HDD.out]; rfl)
        clear HM HDD
        go_upto_region 7 with (fail)
        clear hq
        go_quiet (fail)
        go_wp2
        go_ret
        exact ⟨ret_str (by rw [HF.out, HEX.out, HEY.out, ← bstr_append, ← bstr_append]; rfl), below_n HB2.out _⟩
      · have HF := Lib.hid (show PL = 45 :: ((padD u k).take q ++ [46] ++ (padD u k).drop q) from by rw [HM.out, HDD.out]; rfl)
        clear HM HDD
        go_upto_region 7 with (fail)
        clear hq
        go_quiet (fail)
        go_wp2
        go_ret
        exact ⟨ret_str (by rw [HF.out, HEX.out, HEY.out, bstr_cons, ← bstr_append, ← bstr_append]; rfl), below_n HB2.out _⟩
theorem ref_print (n s : Int) (w : World) (hn : i64 n) : Calls Tryz.prog 25 #[.int .i64 n, .int .i64 s] w (Str (printM n s) w) := by
  cases hs : scB s
  · exact ref_print_no n s w hs
  · obtain ⟨h1, h2⟩ := scB_true hs
    obtain ⟨k, rfl⟩ : ∃ k : Nat, s = (k : Int) := ⟨s.toNat, by omega⟩
    exact ref_print_yes n k _ w hn (by omega) rfl
end Go.Proofs.YtfnnhhhkdfgefaaGreatDoor
