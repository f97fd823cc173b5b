/- Package decimal: Print. -/
import Derived.Test.YtgkjgaelclfffaaDoorDecS1
import Derived.Test.YtgkjgaelclfffaaDoorDecA6
import Derived.Deep.QuietTactic
import Derived.BigQuiet
namespace Go.Proofs.YtgkjgaelclfffaaDoor
open Go.RowKit

/-- a string of bytes -/
def bstr (l : List UInt8) : ByteArray := ⟨l.toArray⟩
theorem bstr_size (l : List UInt8) : (bstr l).size = l.length := by simp [bstr, ByteArray.size]
theorem bstr_data (l : List UInt8) : (bstr l).data.toList = l := rfl
theorem bstr_append (a b : List UInt8) : bstr a ++ bstr b = bstr (a ++ b) := by
  unfold bstr; apply ByteArray.ext; simp
theorem bstr_cons (c : UInt8) (l : List UInt8) : bstr (c :: l) = bstr [c] ++ bstr l := (bstr_append [c] l).symm
theorem bstr_extract (l : List UInt8) (i j : Nat) : (bstr l).extract i j = bstr ((l.drop i).take (j - i)) := by
  unfold bstr; apply ByteArray.ext; simp [List.extract_eq_take_drop]

theorem ret_str {a : ByteArray} {l : List UInt8} (h : a = bstr l) : Ending.returned (.string a) = .returned (.string ⟨l.toArray⟩) := by rw [h]; rfl
/-- the digits, with noughts ahead so that at least one stands before the point -/
def padD (m k : Nat) : List UInt8 := List.replicate (k + 1 - (Lib.decDigits m).length) 48 ++ Lib.decDigits m
/-- the digits with the point -/
def dotD (m k : Nat) : List UInt8 := if k = 0 then padD m k else (padD m k).take ((padD m k).length - k) ++ [46] ++ (padD m k).drop ((padD m k).length - k)
/-- Print in plain words -/
def printM (n s : Int) : List UInt8 := if scB s then (if n < 0 then 45 :: dotD n.natAbs s.toNat else dotD n.natAbs s.toNat) else []

theorem repeat_one (c : Nat) : Lib.repeatL [48] c = List.replicate c 48 := by
  induction c with
  | zero => rfl
  | succ c ih => rw [Lib.repeatL, ih]; rfl

theorem dec_print_no (n s : Int) (w : World) (hs : scB s = false) : Calls Tryd.prog 15 #[.int .i64 n, .int .i64 s] w (Str (printM n s) w) := by
  have hm : printM n s = [] := by unfold printM; rw [hs]; rfl
  have HM := Lib.hid hm; have HS := Lib.hid hs
  clear hm hs
  go_enter Tryd.func15, Tryd.ntmps15
  go_wp2_with fail
  refine (dec_right s _).mono ?_
  rintro e w1 ⟨rfl, rfl⟩
  rw [HS.out]
  go_wp2
  go_ret
  exact ⟨by rw [HM.out]; rfl, Below.refl _ _⟩

theorem nd_len (u : Nat) (h : u < 18446744073709551616) : 1 ≤ (Lib.decDigits u).length ∧ (Lib.decDigits u).length ≤ 20 := by
  rw [Lib.decDigits_length]
  have h1 : 1 ≤ Lib.nDigits u := by
    by_cases h0 : u < 10
    · rw [Lib.nDigits_small h0]; omega
    · rw [Lib.nDigits_big h0]; omega
  refine ⟨h1, ?_⟩
  by_cases h0 : u = 0
  · subst h0; rw [Lib.nDigits_small (by omega)]; omega
  · have := Lib.numDigits_eq u (by omega) h; split at this <;> omega

set_option maxHeartbeats 1000000 in
theorem dec_print_yes (n : Int) (k : Nat) (sn : Bool) (w : World) (he : Env w) (hn : i64 n) (hk : k ≤ 6) (qn : decide (n < 0) = sn) :
    Calls Tryd.prog 15 #[.int .i64 n, .int .i64 (k : Int)] w (Str (printM n (k : Int)) w) := by
  have hs : scB (k : Int) = true := by simp [scB]; omega
  have hm : printM n (k : Int) = if sn then 45 :: dotD n.natAbs k else dotD n.natAbs k := by
    unfold printM; rw [hs, if_pos rfl, Int.toNat_natCast, ← qn]; simp
  have hnl := nd_len n.natAbs (natAbs_lt n hn)
  obtain ⟨PL, hPL⟩ : ∃ PL, PL = printM n (k : Int) := ⟨_, rfl⟩
  rw [← hPL] at hm ⊢
  clear hPL
  have HM := Lib.hid hm; have HS := Lib.hid hs
  have HA := Lib.hid (dec_mag n · hn)
  have LA := Lib.hid (natAbs_lt n hn)
  have HE := Lib.hid he
  clear hm hs hn he
  revert HM HA LA hnl
  generalize n.natAbs = u
  intro hnl HM HA LA
  go_enter Tryd.func15, Tryd.ntmps15
  go_wp2_with fail
  refine (dec_right (k : Int) _).mono ?_
  rintro e w1 ⟨rfl, rfl⟩
  rw [HS.out]
  go_wp2_with fail
  refine (HA.out _).mono ?_
  rintro e w1 ⟨rfl, rfl⟩
  go_wp2_with fail
  refine (format_uint u LA.out _ HE.out).mono ?_
  rintro e w1 ⟨rfl, hb⟩
  have HB := Lib.hid hb
  have HD : Hid (∃ D, D = Lib.decDigits u) := ⟨_, rfl⟩
  obtain ⟨D, hD⟩ := HD.out
  rw [← hD] at hnl ⊢
  have HDE := Lib.hid hD
  clear hb hD HD
  obtain ⟨d1, d2⟩ := hnl
  clear HA HE
  change _ at *
  go_upto_region 4 with (fail)
  rw [show (⟨D.toArray⟩ : ByteArray) = bstr D from rfl]
  have hz : (bstr D).size = D.length := bstr_size D
  rw [← hz] at d1 d2
  obtain ⟨S0, hS0⟩ : ∃ S0, S0 = bstr D := ⟨_, rfl⟩
  rw [← hS0] at d1 d2 hz ⊢
  have HS0 := Lib.hid hS0; have HZ := Lib.hid hz
  clear hS0 hz
  go_wp2_with fail
  obtain ⟨c, hc⟩ : ∃ c : Nat, c = k + 1 - S0.size := ⟨_, rfl⟩
  have ec : max (0 : Int) ((k : Int) + 1 - (S0.size : Int)) = (c : Int) := by omega
  rw [ec]
  have hc7 : c ≤ 7 := by omega
  have hks : k + 1 ≤ c + S0.size := by omega
  have HC := Lib.hid hc
  clear hc ec
  refine (Tryd.strings_Repeat ⟨#[48]⟩ c _ (by omega) (by show 1 * c ≤ _; omega)).mono ?_
  rintro e w2 ⟨rfl, hb⟩
  have HB2 := Lib.hid (HB.out.trans (hb.mono HB.out.size))
  obtain ⟨R, hR⟩ : ∃ R : ByteArray, R = ⟨(Lib.repeatL (⟨#[48]⟩ : ByteArray).data.toList c).toArray⟩ := ⟨_, rfl⟩
  rw [← hR]
  have hR2 : R = bstr (List.replicate c 48) := by rw [hR]; unfold bstr; rw [← repeat_one]
  have hRz : R.size = c := by rw [hR2, bstr_size, List.length_replicate]
  have hR7 : R.size ≤ 7 := by omega
  have hks2 : k + 1 ≤ R.size + S0.size := by omega
  have HR := Lib.hid hR2
  have HCc : Hid (k + 1 - S0.size = c) := HC.out.symm
  clear hb HB hR hR2 hRz hks HC hc7
  go_upto_region 5 with (fail)
  obtain ⟨T, hT⟩ : ∃ T : ByteArray, T = R ++ S0 := ⟨_, rfl⟩
  have hTp : T = bstr (padD u k) := by
    rw [hT, HR.out, HS0.out, bstr_append]
    unfold padD
    rw [← HDE.out, ← HZ.out, HCc.out]
  have hTz : T.size = R.size + S0.size := by rw [hT]; simp
  have hTl : (padD u k).length = T.size := by rw [hTp, bstr_size]
  rw [← hT]
  have t1 : k + 1 ≤ T.size := by omega
  have t2 : T.size ≤ 27 := by omega
  have HT := Lib.hid hTp; have HTL := Lib.hid hTl
  clear hT hTp hTz hTl hks2 hR7 HR HS0 HZ HDE d1 d2 HCc
  by_cases hk0 : k = 0
  · subst hk0
    have hd : dotD u 0 = padD u 0 := by unfold dotD; rw [if_pos rfl]
    have HDD := Lib.hid hd
    clear hd
    cases sn
    · have HF := Lib.hid (show PL = padD u 0 from by rw [HM.out, HDD.out]; rfl)
      clear HM HDD
      go_wp2
      go_ret
      exact ⟨ret_str (by rw [HF.out, HT.out]), HB2.out⟩
    · have HF := Lib.hid (show PL = 45 :: padD u 0 from by rw [HM.out, HDD.out]; rfl)
      clear HM HDD
      go_wp2
      go_ret
      exact ⟨ret_str (by rw [HF.out, HT.out]; exact bstr_append [45] _), HB2.out⟩
  · have hk1 : (0 : Int) < (k : Int) := by omega
    obtain ⟨q, hq⟩ : ∃ q : Nat, q = T.size - k := ⟨_, rfl⟩
    have hd : dotD u k = (padD u k).take q ++ [46] ++ (padD u k).drop q := by unfold dotD; rw [if_neg hk0, HTL.out, hq]
    have HDD := Lib.hid hd
    have q1 : q ≤ T.size := by omega
    have HEX : Hid (T.extract 0 q = bstr ((padD u k).take q)) := by show _ = _; rw [HT.out, bstr_extract]; simp
    have HEY : Hid (T.extract q T.size = bstr ((padD u k).drop q)) := by
      show _ = _
      rw [show T.size = (padD u k).length from HTL.out.symm, HT.out, bstr_extract, List.take_of_length_le (by simp)]
    clear hd
    go_upto_region 7 with (fail)
    have eq : (T.size : Int) - (k : Int) = (q : Int) := by omega
    rw [eq]
    clear eq hq
    cases sn
    · have HF := Lib.hid (show PL = (padD u k).take q ++ [46] ++ (padD u k).drop q from by rw [HM.out, HDD.out]; rfl)
      clear HM HDD
      go_quiet (fail)
      go_wp2
      go_ret
      exact ⟨ret_str (by rw [HF.out, HEX.out, HEY.out, ← bstr_append, ← bstr_append]; rfl), below_drewN HB2.out _⟩
    · have HF := Lib.hid (show PL = 45 :: ((padD u k).take q ++ [46] ++ (padD u k).drop q) from by rw [HM.out, HDD.out]; rfl)
      clear HM HDD
      go_quiet (fail)
      go_wp2
      go_ret
      exact ⟨ret_str (by rw [HF.out, HEX.out, HEY.out, bstr_cons, ← bstr_append, ← bstr_append]; rfl), below_drewN HB2.out _⟩

theorem dec_print (n s : Int) (w : World) (he : Env w) (hn : i64 n) : Calls Tryd.prog 15 #[.int .i64 n, .int .i64 s] w (Str (printM n s) w) := by
  cases hs : scB s
  · exact dec_print_no n s w hs
  · obtain ⟨h1, h2⟩ := scB_true hs
    obtain ⟨k, rfl⟩ : ∃ k : Nat, s = (k : Int) := ⟨s.toNat, by omega⟩
    exact dec_print_yes n k _ w he hn (by omega) rfl
end Go.Proofs.YtgkjgaelclfffaaDoor
