/- Package decimal: Parse. -/
import Derived.Test.YtgkjgaelclfffaaDoorDecP2
namespace Go.Proofs.YtgkjgaelclfffaaDoor
open Go.RowKit

theorem Apart.cp2 {s : ByteArray} {neg pt : Bool} {wh fr u r : List UInt8} (A : Apart s neg wh fr pt u r) (w : World) :
    Calls Tryd.prog 32 #[.string s, .string ⟨#[45]⟩] w fun e w' => e = .returned (.tuple #[.string (bstr u), .bool neg]) ∧ w = w' :=
  (Tryd.strings_CutPrefix s ⟨#[45]⟩ w).mono fun e w' ⟨he, hw⟩ => ⟨by rw [he, A.cp, A.has], hw.symm⟩
theorem Apart.cut2 {s : ByteArray} {neg pt : Bool} {wh fr u r : List UInt8} (A : Apart s neg wh fr pt u r) (w : World) (he : Env w) :
    Calls Tryd.prog 33 #[.string (bstr u), .string ⟨#[46]⟩] w fun e w' => e = .returned (.tuple #[.string (bstr wh), .string (bstr fr), .bool pt]) ∧ Below w.heap.size w w' := by
  obtain ⟨m, hm⟩ := he.mx
  refine (Tryd.strings_Cut _ ⟨#[46]⟩ m w (by rw [bstr_size]; have := A.len.2.2; omega) hm).mono ?_
  rintro e w' ⟨rfl, n, rfl⟩
  refine ⟨?_, below_drewN (Below.refl _ _) _⟩
  rw [bstr_data]
  show Ending.returned (.tuple #[.string ⟨(Lib.cut u [46]).1.toArray⟩, .string ⟨(Lib.cut u [46]).2.1.toArray⟩, .bool (Lib.cut u [46]).2.2]) = _
  rw [A.cut]; rfl
theorem count_le (s : ByteArray) : s.size + Lib.countB s ⟨#[46]⟩ * (⟨#[]⟩ : ByteArray).size = s.size := by
  show s.size + Lib.countB s ⟨#[46]⟩ * 0 = _; omega
theorem Apart.rep2 {s : ByteArray} {neg pt : Bool} {wh fr u r : List UInt8} (A : Apart s neg wh fr pt u r) (w : World) (he : Env w) :
    Calls Tryd.prog 36 #[.string s, .string ⟨#[46]⟩, .string ⟨#[]⟩, .int .i64 1] w fun e w' => e = .returned (.string (bstr r)) ∧ Below w.heap.size w w' := by
  obtain ⟨m, hm⟩ := he.mx
  refine (Tryd.strings_Replace s ⟨#[46]⟩ ⟨#[]⟩ 1 m w (by have := A.small; omega) hm (by decide) (by rw [count_le]; have := A.small; omega)).mono ?_
  rintro e w' ⟨rfl, hb⟩
  refine ⟨?_, hb⟩
  show Ending.returned (.string ⟨(Lib.replace s.data.toList [46] [] 1).toArray⟩) = _
  rw [A.rep]; rfl

theorem digB_iff (l : List UInt8) : digB l = true ↔ l ≠ [] ∧ Pm.allD l = true := by
  unfold digB; cases l <;> simp

/-- the plain outcome, branch by branch -/
theorem Apart.m1 {s : ByteArray} {neg pt : Bool} {wh fr u r : List UInt8} (A : Apart s neg wh fr pt u r) (h : digB wh = false) : Pm.parseM s.data.toList = (0, 0, false) := by
  have hn : ¬ (wh ≠ [] ∧ Pm.allD wh = true) := fun e => by rw [(digB_iff wh).2 e] at h; cases h
  rw [A.mod]
  cases pt
  · by_cases h1 : Pm.allD wh = true
    · have h0 : wh = [] := Decidable.byContradiction fun h0 => hn ⟨h0, h1⟩
      subst h0; simp [Pm.fin, h1]
    · simp [h1]
  · rw [if_pos rfl, if_neg (fun e => hn ⟨e.2.1, e.1⟩)]
theorem Apart.m2 {s : ByteArray} {neg pt : Bool} {wh fr u r : List UInt8} (A : Apart s neg wh fr pt u r) (h1 : 1 < wh.length) (h2 : wh.head? = some 48) : Pm.parseM s.data.toList = (0, 0, false) := by
  rw [A.mod]
  have hf : ∀ o, Pm.fin neg wh o = (0, 0, false) := by
    intro o; unfold Pm.fin
    have hc : wh.length = 0 ∨ 1 < wh.length ∧ wh.head? = some 48 := .inr ⟨h1, h2⟩
    simp only [if_pos hc, ite_self]
  cases pt
  · by_cases h3 : Pm.allD wh = true
    · simp [h3, hf]
    · simp [h3]
  · by_cases h3 : Pm.allD wh = true ∧ wh ≠ [] ∧ Pm.allD fr = true
    · rw [if_pos rfl, if_pos h3]; exact hf _
    · rw [if_pos rfl, if_neg h3]
theorem Apart.m3 {s : ByteArray} {neg : Bool} {wh fr u r : List UInt8} (A : Apart s neg wh fr true u r) (h : digB fr = false ∨ 6 < fr.length) : Pm.parseM s.data.toList = (0, 0, false) := by
  rw [A.mod]
  by_cases h3 : Pm.allD wh = true ∧ wh ≠ [] ∧ Pm.allD fr = true
  · rw [if_pos rfl, if_pos h3]
    show Pm.fin neg wh (some fr) = _
    unfold Pm.fin
    rw [if_pos]
    rcases h with h | h
    · have h0 : fr = [] := Decidable.byContradiction fun h0 => by rw [(digB_iff fr).2 ⟨h0, h3.2.2⟩] at h; cases h
      subst h0; rfl
    · simp [h]
  · rw [if_pos rfl, if_neg h3]
theorem Apart.good {s : ByteArray} {neg pt : Bool} {wh fr u r : List UInt8} (A : Apart s neg wh fr pt u r) (h1 : digB wh = true) (h2 : ¬ (1 < wh.length ∧ wh.head? = some 48)) (h3 : pt = true → digB fr = true ∧ fr.length ≤ 6) :
    Pm.parseM s.data.toList = (if Pm.inR neg (Pm.val (wh ++ fr)) = true ∧ ¬ (neg = true ∧ Pm.val (wh ++ fr) = 0) then (Pm.sgn neg (Pm.val (wh ++ fr)), (fr.length : Int), true) else (0, 0, false)) ∧
    Lib.atoiAll r = (if Pm.inR neg (Pm.val (wh ++ fr)) then .ok (Pm.sgn neg (Pm.val (wh ++ fr))) else .range) := by
  obtain ⟨hw0, hwD⟩ := (digB_iff wh).1 h1
  have hlen : ¬ (wh.length = 0 ∨ 1 < wh.length ∧ wh.head? = some 48) := by
    rintro (e | e)
    · exact hw0 (List.eq_nil_of_length_eq_zero e)
    · exact h2 e
  have hfD : Pm.allD fr = true := by
    cases pt
    · rw [A.fr0 rfl]; rfl
    · exact ((digB_iff fr).1 (h3 rfl).1).2
  refine ⟨?_, ?_⟩
  · rw [A.mod]
    cases pt
    · have hf := A.fr0 rfl
      subst hf
      rw [if_neg (by decide), if_pos hwD]
      show Pm.fin neg wh none = _
      unfold Pm.fin
      rw [if_neg (by decide), if_neg hlen]
      rfl
    · obtain ⟨hf1, hf2⟩ := h3 rfl
      have hf0 : fr ≠ [] := ((digB_iff fr).1 hf1).1
      rw [if_pos rfl, if_pos ⟨hwD, hw0, hfD⟩]
      show Pm.fin neg wh (some fr) = _
      unfold Pm.fin
      rw [if_neg, if_neg hlen]
      · rfl
      · have : fr.length ≠ 0 := fun e => hf0 (List.eq_nil_of_length_eq_zero e)
        simp only [Bool.or_eq_true, decide_eq_true_eq]; omega
  · rw [A.req]
    exact Pm.atoi_digits neg (wh ++ fr) (by simp [hw0]) (by unfold Pm.allD at *; rw [List.all_append, hwD, hfD]; rfl)

theorem zero_head (l : List UInt8) (h : 0 < (bstr l).size) : ((bstr l)[0].toNat = 48) ↔ l.head? = some 48 := by
  cases l with
  | nil => simp [bstr_size] at h
  | cons c r =>
    have e : (bstr (c :: r))[0] = c := rfl
    rw [e]
    simp
    constructor
    · intro h; exact UInt8.toNat_inj.1 h
    · intro h; rw [h]; rfl

set_option maxRecDepth 100000 in
set_option maxHeartbeats 1000000 in
theorem dec_parse_1 (s : ByteArray) (neg : Bool) (wh fr : List UInt8) (pt : Bool) (u r : List UInt8) (w : World) (he : Env w) (A : Apart s neg wh fr pt u r) (hd : digB wh = false) :
    Calls Tryd.prog 13 #[.string s] w (Par (Pm.parseM s.data.toList) w) := by
  have hm := A.m1 hd
  obtain ⟨PL, hPL⟩ : ∃ PL, PL = Pm.parseM s.data.toList := ⟨_, rfl⟩
  rw [← hPL] at hm ⊢
  clear hPL
  have HM := Lib.hid hm
  have HE := Lib.hid he
  have HA := Lib.hid A
  have hl := A.len.1
  have hl2 := A.len.2.1
  clear hm he A
  have HD := Lib.hid hd
  clear hd
  go_enter Tryd.func13, Tryd.ntmps13
  go_wp2_with fail
  refine (HA.out.cp2 _).mono ?_
  rintro e w' ⟨rfl, rfl⟩
  go_wp2_with fail
  refine (HA.out.cut2 _ HE.out).mono ?_
  rintro e w1 ⟨rfl, hb⟩
  have HB := Lib.hid hb
  have HE1 := Lib.hid (HE.out.keep hb)
  clear hb HE
  go_wp2_with fail
  refine (dec_digits (bstr wh) _ (by rw [bstr_size]; omega)).mono ?_
  rintro e w2 ⟨rfl, rfl⟩
  rw [bstr_data, HD.out]
  go_wp2
  go_ret3
  exact ⟨by rw [HM.out]; rfl, HB.out⟩

set_option maxRecDepth 100000 in
set_option maxHeartbeats 1000000 in
theorem dec_parse_2 (s : ByteArray) (neg : Bool) (wh fr : List UInt8) (pt : Bool) (u r : List UInt8) (w : World) (he : Env w) (A : Apart s neg wh fr pt u r) (hd : digB wh = true) (h1 : 1 < wh.length) (h2 : wh.head? = some 48) :
    Calls Tryd.prog 13 #[.string s] w (Par (Pm.parseM s.data.toList) w) := by
  have hm := A.m2 h1 h2
  obtain ⟨PL, hPL⟩ : ∃ PL, PL = Pm.parseM s.data.toList := ⟨_, rfl⟩
  rw [← hPL] at hm ⊢
  clear hPL
  have HM := Lib.hid hm
  have HE := Lib.hid he
  have HA := Lib.hid A
  have hl := A.len.1
  have hl2 := A.len.2.1
  clear hm he A
  have HD := Lib.hid hd
  clear hd
  go_enter Tryd.func13, Tryd.ntmps13
  go_wp2_with fail
  refine (HA.out.cp2 _).mono ?_
  rintro e w' ⟨rfl, rfl⟩
  go_wp2_with fail
  refine (HA.out.cut2 _ HE.out).mono ?_
  rintro e w1 ⟨rfl, hb⟩
  have HB := Lib.hid hb
  have HE1 := Lib.hid (HE.out.keep hb)
  clear hb HE
  go_wp2_with fail
  refine (dec_digits (bstr wh) _ (by rw [bstr_size]; omega)).mono ?_
  rintro e w2 ⟨rfl, rfl⟩
  rw [bstr_data, HD.out]
  obtain ⟨W, hW⟩ : ∃ W, W = bstr wh := ⟨_, rfl⟩
  have hWz : W.size = wh.length := by rw [hW, bstr_size]
  have hWh : ∀ h : 0 < W.size, (W[0].toNat = 48) ↔ wh.head? = some 48 := by subst hW; exact zero_head wh
  rw [← hW]
  have i1 : (1 : Int) < (W.size : Int) := by omega
  have i0 : 0 < W.size := by omega
  have i2 : ((W[0].toNat : Int) == 48) = true := by simp; have := (hWh i0).2 h2; omega
  clear hWh hWz hW h1 h2
  go_wp2
  go_ret3
  exact ⟨by rw [HM.out]; rfl, HB.out⟩

set_option maxRecDepth 100000 in
set_option maxHeartbeats 1000000 in
theorem dec_parse_3a (s : ByteArray) (neg : Bool) (wh fr : List UInt8) (pt : Bool) (u r : List UInt8) (w : World) (he : Env w) (A : Apart s neg wh fr pt u r) (hd : digB wh = true) (hlen : wh.length ≤ 1) (hp : pt = true) (hf : digB fr = false) :
    Calls Tryd.prog 13 #[.string s] w (Par (Pm.parseM s.data.toList) w) := by
  subst hp
  have hm := A.m3 (.inl hf)
  obtain ⟨PL, hPL⟩ : ∃ PL, PL = Pm.parseM s.data.toList := ⟨_, rfl⟩
  rw [← hPL] at hm ⊢
  clear hPL
  have HM := Lib.hid hm
  have HE := Lib.hid he
  have HA := Lib.hid A
  have hl := A.len.1
  have hl2 := A.len.2.1
  clear hm he A
  have HF := Lib.hid hf
  clear hf
  have HD := Lib.hid hd
  clear hd
  go_enter Tryd.func13, Tryd.ntmps13
  go_wp2_with fail
  refine (HA.out.cp2 _).mono ?_
  rintro e w' ⟨rfl, rfl⟩
  go_wp2_with fail
  refine (HA.out.cut2 _ HE.out).mono ?_
  rintro e w1 ⟨rfl, hb⟩
  have HB := Lib.hid hb
  have HE1 := Lib.hid (HE.out.keep hb)
  clear hb HE
  go_wp2_with fail
  refine (dec_digits (bstr wh) _ (by rw [bstr_size]; omega)).mono ?_
  rintro e w2 ⟨rfl, rfl⟩
  rw [bstr_data, HD.out]
  obtain ⟨W, hW⟩ : ∃ W, W = bstr wh := ⟨_, rfl⟩
  have hWz : W.size = wh.length := by rw [hW, bstr_size]
  have hWh : ∀ h : 0 < W.size, (W[0].toNat = 48) ↔ wh.head? = some 48 := by subst hW; exact zero_head wh
  rw [← hW]
  have i1 : (W.size : Int) ≤ 1 := by omega
  clear hWh hWz hW hlen
  go_wp2_with fail
  refine (dec_digits (bstr fr) _ (by rw [bstr_size]; omega)).mono ?_
  rintro e w2 ⟨rfl, rfl⟩
  rw [bstr_data, HF.out]
  go_wp2
  go_ret3
  exact ⟨by rw [HM.out]; rfl, HB.out⟩

set_option maxRecDepth 100000 in
set_option maxHeartbeats 1000000 in
theorem dec_parse_4a (s : ByteArray) (neg : Bool) (wh fr : List UInt8) (pt : Bool) (u r : List UInt8) (w : World) (he : Env w) (A : Apart s neg wh fr pt u r) (hd : digB wh = true) (hlen : wh.length ≤ 1) (hp : pt = true) (hf : digB fr = true) (hf6 : 6 < fr.length) :
    Calls Tryd.prog 13 #[.string s] w (Par (Pm.parseM s.data.toList) w) := by
  subst hp
  have hm := A.m3 (.inr hf6)
  obtain ⟨PL, hPL⟩ : ∃ PL, PL = Pm.parseM s.data.toList := ⟨_, rfl⟩
  rw [← hPL] at hm ⊢
  clear hPL
  have HM := Lib.hid hm
  have HE := Lib.hid he
  have HA := Lib.hid A
  have hl := A.len.1
  have hl2 := A.len.2.1
  clear hm he A
  have HF := Lib.hid hf
  have HS : Hid (scB (fr.length : Int) = false) := by show _ = _; simp [scB]; omega
  clear hf hf6
  have HD := Lib.hid hd
  clear hd
  go_enter Tryd.func13, Tryd.ntmps13
  go_wp2_with fail
  refine (HA.out.cp2 _).mono ?_
  rintro e w' ⟨rfl, rfl⟩
  go_wp2_with fail
  refine (HA.out.cut2 _ HE.out).mono ?_
  rintro e w1 ⟨rfl, hb⟩
  have HB := Lib.hid hb
  have HE1 := Lib.hid (HE.out.keep hb)
  clear hb HE
  go_wp2_with fail
  refine (dec_digits (bstr wh) _ (by rw [bstr_size]; omega)).mono ?_
  rintro e w2 ⟨rfl, rfl⟩
  rw [bstr_data, HD.out]
  obtain ⟨W, hW⟩ : ∃ W, W = bstr wh := ⟨_, rfl⟩
  have hWz : W.size = wh.length := by rw [hW, bstr_size]
  have hWh : ∀ h : 0 < W.size, (W[0].toNat = 48) ↔ wh.head? = some 48 := by subst hW; exact zero_head wh
  rw [← hW]
  have i1 : (W.size : Int) ≤ 1 := by omega
  clear hWh hWz hW hlen
  go_wp2_with fail
  refine (dec_digits (bstr fr) _ (by rw [bstr_size]; omega)).mono ?_
  rintro e w2 ⟨rfl, rfl⟩
  rw [bstr_data, HF.out]
  go_wp2_with fail
  rw [bstr_size]
  refine (dec_right (fr.length : Int) _).mono ?_
  rintro e w2 ⟨rfl, rfl⟩
  rw [HS.out]
  go_wp2
  go_ret3
  exact ⟨by rw [HM.out]; rfl, HB.out⟩

set_option maxRecDepth 100000 in
set_option maxHeartbeats 1000000 in
theorem dec_parse_3b (s : ByteArray) (neg : Bool) (wh fr : List UInt8) (pt : Bool) (u r : List UInt8) (w : World) (he : Env w) (A : Apart s neg wh fr pt u r) (hd : digB wh = true) (hlen : 1 < wh.length) (hh : wh.head? ≠ some 48) (hp : pt = true) (hf : digB fr = false) :
    Calls Tryd.prog 13 #[.string s] w (Par (Pm.parseM s.data.toList) w) := by
  subst hp
  have hm := A.m3 (.inl hf)
  obtain ⟨PL, hPL⟩ : ∃ PL, PL = Pm.parseM s.data.toList := ⟨_, rfl⟩
  rw [← hPL] at hm ⊢
  clear hPL
  have HM := Lib.hid hm
  have HE := Lib.hid he
  have HA := Lib.hid A
  have hl := A.len.1
  have hl2 := A.len.2.1
  clear hm he A
  have HF := Lib.hid hf
  clear hf
  have HD := Lib.hid hd
  clear hd
  go_enter Tryd.func13, Tryd.ntmps13
  go_wp2_with fail
  refine (HA.out.cp2 _).mono ?_
  rintro e w' ⟨rfl, rfl⟩
  go_wp2_with fail
  refine (HA.out.cut2 _ HE.out).mono ?_
  rintro e w1 ⟨rfl, hb⟩
  have HB := Lib.hid hb
  have HE1 := Lib.hid (HE.out.keep hb)
  clear hb HE
  go_wp2_with fail
  refine (dec_digits (bstr wh) _ (by rw [bstr_size]; omega)).mono ?_
  rintro e w2 ⟨rfl, rfl⟩
  rw [bstr_data, HD.out]
  obtain ⟨W, hW⟩ : ∃ W, W = bstr wh := ⟨_, rfl⟩
  have hWz : W.size = wh.length := by rw [hW, bstr_size]
  have hWh : ∀ h : 0 < W.size, (W[0].toNat = 48) ↔ wh.head? = some 48 := by subst hW; exact zero_head wh
  rw [← hW]
  have i1 : (1 : Int) < (W.size : Int) := by omega
  have i0 : 0 < W.size := by omega
  have i2 : ((W[0].toNat : Int) == 48) = false := by simp; intro e; exact hh ((hWh i0).1 (by omega))
  clear hWh hWz hW hlen hh
  go_wp2_with fail
  refine (dec_digits (bstr fr) _ (by rw [bstr_size]; omega)).mono ?_
  rintro e w2 ⟨rfl, rfl⟩
  rw [bstr_data, HF.out]
  go_wp2
  go_ret3
  exact ⟨by rw [HM.out]; rfl, HB.out⟩

set_option maxRecDepth 100000 in
set_option maxHeartbeats 1000000 in
theorem dec_parse_4b (s : ByteArray) (neg : Bool) (wh fr : List UInt8) (pt : Bool) (u r : List UInt8) (w : World) (he : Env w) (A : Apart s neg wh fr pt u r) (hd : digB wh = true) (hlen : 1 < wh.length) (hh : wh.head? ≠ some 48) (hp : pt = true) (hf : digB fr = true) (hf6 : 6 < fr.length) :
    Calls Tryd.prog 13 #[.string s] w (Par (Pm.parseM s.data.toList) w) := by
  subst hp
  have hm := A.m3 (.inr hf6)
  obtain ⟨PL, hPL⟩ : ∃ PL, PL = Pm.parseM s.data.toList := ⟨_, rfl⟩
  rw [← hPL] at hm ⊢
  clear hPL
  have HM := Lib.hid hm
  have HE := Lib.hid he
  have HA := Lib.hid A
  have hl := A.len.1
  have hl2 := A.len.2.1
  clear hm he A
  have HF := Lib.hid hf
  have HS : Hid (scB (fr.length : Int) = false) := by show _ = _; simp [scB]; omega
  clear hf hf6
  have HD := Lib.hid hd
  clear hd
  go_enter Tryd.func13, Tryd.ntmps13
  go_wp2_with fail
  refine (HA.out.cp2 _).mono ?_
  rintro e w' ⟨rfl, rfl⟩
  go_wp2_with fail
  refine (HA.out.cut2 _ HE.out).mono ?_
  rintro e w1 ⟨rfl, hb⟩
  have HB := Lib.hid hb
  have HE1 := Lib.hid (HE.out.keep hb)
  clear hb HE
  go_wp2_with fail
  refine (dec_digits (bstr wh) _ (by rw [bstr_size]; omega)).mono ?_
  rintro e w2 ⟨rfl, rfl⟩
  rw [bstr_data, HD.out]
  obtain ⟨W, hW⟩ : ∃ W, W = bstr wh := ⟨_, rfl⟩
  have hWz : W.size = wh.length := by rw [hW, bstr_size]
  have hWh : ∀ h : 0 < W.size, (W[0].toNat = 48) ↔ wh.head? = some 48 := by subst hW; exact zero_head wh
  rw [← hW]
  have i1 : (1 : Int) < (W.size : Int) := by omega
  have i0 : 0 < W.size := by omega
  have i2 : ((W[0].toNat : Int) == 48) = false := by simp; intro e; exact hh ((hWh i0).1 (by omega))
  clear hWh hWz hW hlen hh
  go_wp2_with fail
  refine (dec_digits (bstr fr) _ (by rw [bstr_size]; omega)).mono ?_
  rintro e w2 ⟨rfl, rfl⟩
  rw [bstr_data, HF.out]
  go_wp2_with fail
  rw [bstr_size]
  refine (dec_right (fr.length : Int) _).mono ?_
  rintro e w2 ⟨rfl, rfl⟩
  rw [HS.out]
  go_wp2
  go_ret3
  exact ⟨by rw [HM.out]; rfl, HB.out⟩

end Go.Proofs.YtgkjgaelclfffaaDoor
