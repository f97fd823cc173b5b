/- The reference of layer 2: Print. -/
import Derived.Test.YtgkjgaelclfffaaDoorDecS3
namespace Go.Proofs.YtgkjgaelclfffaaDoor
open Go.RowKit

def strLen : Value → Nat
  | .string s => s.size
  | _ => 0

theorem ref_print_no (n s : Int) (w : World) (hs : scB s = false) : Calls Tryd.prog 16 #[.int .i64 n, .int .i64 s] w (Str (printM n s) w) := by
  have hm : printM n s = [] := by unfold printM; rw [hs]; rfl
  have HM := Lib.hid hm; have HS := Lib.hid hs
  clear hm hs
  go_enter Tryd.func16, Tryd.ntmps16
  go_wp2_with fail
  refine (ref_scale s _).mono ?_
  rintro e w1 ⟨rfl, rfl⟩
  rw [HS.out]
  go_wp2
  go_ret
  exact ⟨by rw [HM.out]; rfl, Below.refl _ _⟩

set_option maxHeartbeats 1000000 in
theorem ref_print_yes (n : Int) (k : Nat) (sn : Bool) (w : World) (hn : i64 n) (hk : k ≤ 6) (qn : decide (n < 0) = sn) :
    Calls Tryd.prog 16 #[.int .i64 n, .int .i64 (k : Int)] w (Str (printM n (k : Int)) w) := by
  have hs : scB (k : Int) = true := by simp [scB]; omega
  have hm : printM n (k : Int) = if sn then 45 :: dotD n.natAbs k else dotD n.natAbs k := by
    unfold printM; rw [hs, if_pos rfl, Int.toNat_natCast, ← qn]; simp
  have hnl := nd_len n.natAbs (natAbs_lt n hn)
  obtain ⟨PL, hPL⟩ : ∃ PL, PL = printM n (k : Int) := ⟨_, rfl⟩
  rw [← hPL] at hm ⊢
  clear hPL
  have HM := Lib.hid hm; have HS := Lib.hid hs
  have HA := Lib.hid (ref_digits n · hn)
  clear hm hs hn
  revert HM HA hnl
  generalize n.natAbs = u
  intro hnl HM HA
  go_enter Tryd.func16, Tryd.ntmps16
  go_wp2_with fail
  refine (ref_scale (k : Int) _).mono ?_
  rintro e w1 ⟨rfl, rfl⟩
  rw [HS.out]
  go_wp2_with fail
  refine (HA.out _).mono ?_
  rintro e w2 ⟨rfl, hb⟩
  have HB2 := Lib.hid hb
  obtain ⟨d1, d2⟩ := hnl
  clear hb HA
  rw [show (⟨(Lib.decDigits u).toArray⟩ : ByteArray) = bstr (Lib.decDigits u) from rfl]
  go_upto_block 0 with (fail)
  go_cut [5] (fun s wx => ∃ T : ByteArray, s = .string T ∧ Hid (T = bstr (padD u k)) ∧ wx = w2)
  case first =>
    go_wp2_with fail
    go_loop [5] (fun s => ∃ c : Nat, ∃ T : ByteArray, s = .string T ∧ T.size ≤ 27 ∧ c ≤ k + 1 - (Lib.decDigits u).length ∧ Hid (T = bstr (List.replicate c 48 ++ Lib.decDigits u) ∧ T.size = c + (Lib.decDigits u).length)) (fun s => k + 1 - strLen s)
    case atStart => exact ⟨0, _, rfl, by rw [bstr_size]; omega, Nat.zero_le _, rfl, by rw [bstr_size]; omega⟩
    case round =>
      obtain ⟨c, T, rfl, hT, hc, HT⟩ := hrel
      have hz : T.size = c + (Lib.decDigits u).length := HT.out.2
      by_cases hle : T.size ≤ k
      · have HT2 : Hid ((⟨#[48]⟩ : ByteArray) ++ T = bstr (List.replicate (c + 1) 48 ++ Lib.decDigits u) ∧ ((⟨#[48]⟩ : ByteArray) ++ T).size = (c + 1) + (Lib.decDigits u).length) := by
          refine ⟨?_, ?_⟩
          · rw [HT.out.1, List.replicate_succ, List.cons_append, bstr_cons]; rfl
          · rw [ByteArray.size_append, hz]; show 1 + _ = _; omega
        have hc2 : c + 1 ≤ k + 1 - (Lib.decDigits u).length := by omega
        have hs1 : ((⟨#[48]⟩ : ByteArray) ++ T).size = 1 + T.size := by rw [ByteArray.size_append]; rfl
        have HZ := Lib.hid hz; have HS1 := Lib.hid hs1
        clear hz hs1 hc d1 d2
        go_wp2
        go_round
        case rel => exact ⟨c + 1, _, rfl, by rw [HS1.out]; omega, hc2, HT2⟩
        case measure => show k + 1 - strLen (.string _) < k + 1 - strLen (.string _); simp only [strLen]; rw [HS1.out]; omega
      · have hfin : T = bstr (padD u k) := by
          have e : T = bstr (List.replicate c 48 ++ Lib.decDigits u) := HT.out.1
          rw [e]; unfold padD; rw [show k + 1 - (Lib.decDigits u).length = c by omega]
        have HF := Lib.hid hfin
        clear hfin hz d1 d2 hc
        go_wp2
        go_meet
        exact ⟨T, rfl, HF, rfl⟩
  case rest =>
    obtain ⟨T, rfl, HT, rfl⟩ := hcut
    have HTL : Hid ((padD u k).length = T.size) := by show _ = _; rw [HT.out, bstr_size]
    have hpl : (padD u k).length = (k + 1 - (Lib.decDigits u).length) + (Lib.decDigits u).length := by unfold padD; rw [List.length_append, List.length_replicate]
    have t1 : k + 1 ≤ T.size := by have e := HTL.out; omega
    have t2 : T.size ≤ 27 := by have e := HTL.out; omega
    clear hpl d1 d2
    by_cases hk0 : k = 0
    · subst hk0
      have hd : dotD u 0 = padD u 0 := by unfold dotD; rw [if_pos rfl]
      have HDD := Lib.hid hd
      clear hd
      cases sn
      · have HF := Lib.hid (show PL = padD u 0 from by rw [HM.out, HDD.out]; rfl)
        clear HM HDD
        go_wp2
        go_ret
        exact ⟨ret_str (by rw [HF.out, HT.out]), HB2.out⟩
      · have HF := Lib.hid (show PL = 45 :: padD u 0 from by rw [HM.out, HDD.out]; rfl)
        clear HM HDD
        go_wp2
        go_ret
        exact ⟨ret_str (by rw [HF.out, HT.out]; exact bstr_append [45] _), HB2.out⟩
    · have hk1 : (0 : Int) < (k : Int) := by omega
      obtain ⟨q, hq⟩ : ∃ q : Nat, q = T.size - k := ⟨_, rfl⟩
      have hd : dotD u k = (padD u k).take q ++ [46] ++ (padD u k).drop q := by unfold dotD; rw [if_neg hk0, HTL.out, hq]
      have HDD := Lib.hid hd
      have q1 : q ≤ T.size := by omega
      have HEX : Hid (T.extract 0 q = bstr ((padD u k).take q)) := by show _ = _; rw [HT.out, bstr_extract]; simp
      have HEY : Hid (T.extract q T.size = bstr ((padD u k).drop q)) := by
        show _ = _
        rw [show T.size = (padD u k).length from HTL.out.symm, HT.out, bstr_extract, List.take_of_length_le (by simp)]
      have hw : IntKind.i64.wrap ((T.size : Int) - (k : Int)) = (q : Int) := by rw [IntWalk.i64_in _ (by omega)]; omega
      have hw2 : (T.size : Int) - (k : Int) = (q : Int) := by omega
      clear hd
      cases sn
      · have HF := Lib.hid (show PL = (padD u k).take q ++ [46] ++ (padD u k).drop q from by rw [HM.out, HDD.out]; rfl)
        clear HM HDD
        go_upto_region 7 with (fail)
        clear hq
        go_quiet (fail)
        go_wp2
        go_ret
        exact ⟨ret_str (by rw [HF.out, HEX.out, HEY.out, ← bstr_append, ← bstr_append]; rfl), below_drewN HB2.out _⟩
      · have HF := Lib.hid (show PL = 45 :: ((padD u k).take q ++ [46] ++ (padD u k).drop q) from by rw [HM.out, HDD.out]; rfl)
        clear HM HDD
        go_upto_region 7 with (fail)
        clear hq
        go_quiet (fail)
        go_wp2
        go_ret
        exact ⟨ret_str (by rw [HF.out, HEX.out, HEY.out, bstr_cons, ← bstr_append, ← bstr_append]; rfl), below_drewN HB2.out _⟩

theorem ref_print (n s : Int) (w : World) (hn : i64 n) : Calls Tryd.prog 16 #[.int .i64 n, .int .i64 s] w (Str (printM n s) w) := by
  cases hs : scB s
  · exact ref_print_no n s w hs
  · obtain ⟨h1, h2⟩ := scB_true hs
    obtain ⟨k, rfl⟩ : ∃ k : Nat, s = (k : Int) := ⟨s.toNat, by omega⟩
    exact ref_print_yes n k _ w hn (by omega) rfl
end Go.Proofs.YtgkjgaelclfffaaDoor
