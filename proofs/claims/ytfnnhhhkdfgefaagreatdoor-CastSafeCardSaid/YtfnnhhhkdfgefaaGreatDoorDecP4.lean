/- Package decimal: Parse, where the text is a decimal or out of range. -/
import Derived.Test.YtfnnhhhkdfgefaaGreatDoorDecPm
import Derived.Lib.AtoiErrMem
namespace Go.Proofs.YtfnnhhhkdfgefaaGreatDoor
open Go.RowKit

theorem below_bytes (w : World) (t : ByteArray) : Below w.heap.size w (Lib.bytesWorld w 5 t) := Lib.bytesWorld_below w _ t
theorem Apart.rlen {s : ByteArray} {neg pt : Bool} {wh fr u r : List UInt8} (A : Apart s neg wh fr pt u r) : (bstr r).size ≤ 3000 := by
  rw [bstr_size, A.req]
  have h1 := A.len.1
  have h2 := A.len.2.1
  split <;> simp <;> omega
theorem atoi_ok2 (r : List UInt8) (v : Int) (w : World) (hl : (bstr r).size ≤ 3000) (h : Lib.atoiAll r = .ok v) :
    Calls Tryz.prog 69 #[.string (bstr r)] w fun e w' => e = .returned (.tuple #[.int .i64 v, .nilIface]) ∧ Below w.heap.size w w' := by
  refine (Tryz.strconv_Atoi_ok (bstr r) (by omega) v (by rw [bstr_data]; exact h) w).mono ?_
  rintro e w' ⟨rfl, hw⟩
  refine ⟨rfl, ?_⟩
  rcases hw with rfl | ⟨t, rfl⟩
  · exact Below.refl _ _
  · exact below_bytes w t
/-- what an Atoi out of range leaves -/
def AtoiOut (w : World) (e : Ending) (w' : World) : Prop := ∃ (v : Int) (T N : Nat), e = .returned (.tuple #[.int .i64 v, .iface T (.pointer (some ⟨N, 0, none⟩))]) ∧ Below w.heap.size w w'
theorem atoi_range2 (r : List UInt8) (w : World) (he : Env w) (hl : (bstr r).size ≤ 3000) (h : Lib.atoiAll r = .range) :
    Calls Tryz.prog 69 #[.string (bstr r)] w (AtoiOut w) := by
  obtain ⟨tp, p, hv⟩ := he.rng
  refine (Tryz.strconv_Atoi_range_var (bstr r) (by omega) (by rw [bstr_data]; exact h) tp p w hv).mono ?_
  rintro e w' ⟨N, rfl, _, _, hb⟩
  exact ⟨_, _, _, rfl, hb⟩
set_option maxRecDepth 100000 in
set_option maxHeartbeats 1000000 in
theorem dec_parse_5af (s : ByteArray) (neg : Bool) (wh fr : List UInt8) (pt : Bool) (u r : List UInt8) (w : World) (he : Env w) (A : Apart s neg wh fr pt u r) (hd : digB wh = true) (hlen : wh.length ≤ 1) (hp : pt = false) (hr : Pm.inR neg (Pm.val (wh ++ fr)) = false) :
    Calls Tryz.prog 49 #[.string s] w (Par (Pm.parseM s.data.toList) w) := by
  obtain ⟨hm, hat⟩ := A.good hd (fun e => by omega) (fun e => by rw [hp] at e; cases e)
  rw [hr] at hm hat
  rw [if_neg (fun e => by cases e.1)] at hm
  rw [if_neg (by decide)] at hat
  have HAT := Lib.hid hat
  have HRL := Lib.hid A.rlen
  clear hat hr
  subst hp
  obtain ⟨PL, hPL⟩ : ∃ PL, PL = Pm.parseM s.data.toList := ⟨_, rfl⟩
  rw [← hPL] at hm ⊢
  clear hPL
  have HM := Lib.hid hm
  have HE := Lib.hid he
  have HA := Lib.hid A
  have hl := A.len.1
  have hl2 := A.len.2.1
  clear hm he A
  have HD := Lib.hid hd
  clear hd
  go_enter Tryz.func49, Tryz.ntmps49
  go_wp2_with fail
  refine (HA.out.cp2 _).mono ?_
  rintro e w' ⟨rfl, rfl⟩
  go_wp2_with fail
  refine (HA.out.cut2 _ HE.out).mono ?_
  rintro e w1 ⟨rfl, hb⟩
  have HB := Lib.hid hb
  have HE1 := Lib.hid (HE.out.keep hb)
  clear hb HE
  go_wp2_with fail
  refine (dec_digits (bstr wh) _ (by rw [bstr_size]; omega)).mono ?_
  rintro e w2 ⟨rfl, rfl⟩
  rw [bstr_data, HD.out]
  obtain ⟨W, hW⟩ : ∃ W, W = bstr wh := ⟨_, rfl⟩
  have hWz : W.size = wh.length := by rw [hW, bstr_size]
  have hWh : ∀ h : 0 < W.size, (W[0].toNat = 48) ↔ wh.head? = some 48 := by subst hW; exact zero_head wh
  rw [← hW]
  have i1 : (W.size : Int) ≤ 1 := by omega
  clear hWh hWz hW hlen
  go_wp2_with fail
  refine (HA.out.rep2 _ HE1.out).mono ?_
  rintro e w3 ⟨rfl, hb⟩
  have HB3 := Lib.hid (HB.out.trans (hb.mono HB.out.size))
  have HE3 := Lib.hid (HE1.out.keep hb)
  clear hb HB HE1
  go_wp2_with fail
  refine (atoi_range2 r _ HE3.out HRL.out HAT.out).mono ?_
  rintro e w4 ⟨v, T, N, rfl, hb⟩
  have HB4 := Lib.hid (HB3.out.trans (hb.mono HB3.out.size))
  clear hb HB3 HE3
  go_wp2
  go_ret3
  exact ⟨by rw [HM.out]; rfl, HB4.out⟩
set_option maxRecDepth 100000 in
set_option maxHeartbeats 1000000 in
theorem dec_parse_6af (s : ByteArray) (neg : Bool) (wh fr : List UInt8) (pt : Bool) (u r : List UInt8) (w : World) (he : Env w) (A : Apart s neg wh fr pt u r) (hd : digB wh = true) (hlen : wh.length ≤ 1) (hp : pt = false) (hr : Pm.inR neg (Pm.val (wh ++ fr)) = true) (hz : neg = true ∧ Pm.val (wh ++ fr) = 0) :
    Calls Tryz.prog 49 #[.string s] w (Par (Pm.parseM s.data.toList) w) := by
  obtain ⟨hm, hat⟩ := A.good hd (fun e => by omega) (fun e => by rw [hp] at e; cases e)
  rw [hr] at hm hat
  rw [if_neg (fun e => e.2 hz)] at hm
  rw [if_pos rfl, hz.2, hz.1] at hat
  have HAT : Hid (Lib.atoiAll r = .ok 0) := hat
  have HRL := Lib.hid A.rlen
  obtain ⟨hz1, _⟩ := hz
  clear hat hr
  subst hp hz1
  obtain ⟨PL, hPL⟩ : ∃ PL, PL = Pm.parseM s.data.toList := ⟨_, rfl⟩
  rw [← hPL] at hm ⊢
  clear hPL
  have HM := Lib.hid hm
  have HE := Lib.hid he
  have HA := Lib.hid A
  have hl := A.len.1
  have hl2 := A.len.2.1
  clear hm he A
  have HD := Lib.hid hd
  clear hd
  go_enter Tryz.func49, Tryz.ntmps49
  go_wp2_with fail
  refine (HA.out.cp2 _).mono ?_
  rintro e w' ⟨rfl, rfl⟩
  go_wp2_with fail
  refine (HA.out.cut2 _ HE.out).mono ?_
  rintro e w1 ⟨rfl, hb⟩
  have HB := Lib.hid hb
  have HE1 := Lib.hid (HE.out.keep hb)
  clear hb HE
  go_wp2_with fail
  refine (dec_digits (bstr wh) _ (by rw [bstr_size]; omega)).mono ?_
  rintro e w2 ⟨rfl, rfl⟩
  rw [bstr_data, HD.out]
  obtain ⟨W, hW⟩ : ∃ W, W = bstr wh := ⟨_, rfl⟩
  have hWz : W.size = wh.length := by rw [hW, bstr_size]
  have hWh : ∀ h : 0 < W.size, (W[0].toNat = 48) ↔ wh.head? = some 48 := by subst hW; exact zero_head wh
  rw [← hW]
  have i1 : (W.size : Int) ≤ 1 := by omega
  clear hWh hWz hW hlen
  go_wp2_with fail
  refine (HA.out.rep2 _ HE1.out).mono ?_
  rintro e w3 ⟨rfl, hb⟩
  have HB3 := Lib.hid (HB.out.trans (hb.mono HB.out.size))
  have HE3 := Lib.hid (HE1.out.keep hb)
  clear hb HB HE1
  go_wp2_with fail
  refine (atoi_ok2 r 0 _ HRL.out HAT.out).mono ?_
  rintro e w4 ⟨rfl, hb⟩
  have HB4 := Lib.hid (HB3.out.trans (hb.mono HB3.out.size))
  clear hb HB3 HE3
  go_wp2
  go_ret3
  exact ⟨by rw [HM.out]; rfl, HB4.out⟩
set_option maxRecDepth 100000 in
set_option maxHeartbeats 1000000 in
theorem dec_parse_7af (s : ByteArray) (neg : Bool) (wh fr : List UInt8) (pt : Bool) (u r : List UInt8) (w : World) (he : Env w) (A : Apart s neg wh fr pt u r) (hd : digB wh = true) (hlen : wh.length ≤ 1) (hp : pt = false) (hr : Pm.inR neg (Pm.val (wh ++ fr)) = true) (hz : ¬ (neg = true ∧ Pm.val (wh ++ fr) = 0)) :
    Calls Tryz.prog 49 #[.string s] w (Par (Pm.parseM s.data.toList) w) := by
  obtain ⟨hm, hat⟩ := A.good hd (fun e => by omega) (fun e => by rw [hp] at e; cases e)
  rw [hr] at hm hat
  rw [if_pos ⟨rfl, hz⟩] at hm
  rw [if_pos rfl] at hat
  have HAT := Lib.hid hat
  have HRL := Lib.hid A.rlen
  have hv : neg = true → (Pm.sgn neg (Pm.val (wh ++ fr)) == 0) = false := fun e => by rw [beq_eq_false_iff_ne, e]; intro e2; exact hz ⟨e, by simp [Pm.sgn] at e2; exact e2⟩
  have HV := Lib.hid hv
  clear hat hr hv hz
  subst hp
  revert HAT HV hm
  generalize Pm.sgn neg (Pm.val (wh ++ fr)) = v
  intro hm HAT HV
  obtain ⟨PL, hPL⟩ : ∃ PL, PL = Pm.parseM s.data.toList := ⟨_, rfl⟩
  rw [← hPL] at hm ⊢
  clear hPL
  have HM := Lib.hid hm
  have HE := Lib.hid he
  have HA := Lib.hid A
  have hl := A.len.1
  have hl2 := A.len.2.1
  clear hm he A
  have HD := Lib.hid hd
  clear hd
  go_enter Tryz.func49, Tryz.ntmps49
  go_wp2_with fail
  refine (HA.out.cp2 _).mono ?_
  rintro e w' ⟨rfl, rfl⟩
  go_wp2_with fail
  refine (HA.out.cut2 _ HE.out).mono ?_
  rintro e w1 ⟨rfl, hb⟩
  have HB := Lib.hid hb
  have HE1 := Lib.hid (HE.out.keep hb)
  clear hb HE
  go_wp2_with fail
  refine (dec_digits (bstr wh) _ (by rw [bstr_size]; omega)).mono ?_
  rintro e w2 ⟨rfl, rfl⟩
  rw [bstr_data, HD.out]
  obtain ⟨W, hW⟩ : ∃ W, W = bstr wh := ⟨_, rfl⟩
  have hWz : W.size = wh.length := by rw [hW, bstr_size]
  have hWh : ∀ h : 0 < W.size, (W[0].toNat = 48) ↔ wh.head? = some 48 := by subst hW; exact zero_head wh
  rw [← hW]
  have i1 : (W.size : Int) ≤ 1 := by omega
  clear hWh hWz hW hlen
  go_wp2_with fail
  refine (HA.out.rep2 _ HE1.out).mono ?_
  rintro e w3 ⟨rfl, hb⟩
  have HB3 := Lib.hid (HB.out.trans (hb.mono HB.out.size))
  have HE3 := Lib.hid (HE1.out.keep hb)
  clear hb HB HE1
  go_wp2_with fail
  refine (atoi_ok2 r v _ HRL.out HAT.out).mono ?_
  rintro e w4 ⟨rfl, hb⟩
  have HB4 := Lib.hid (HB3.out.trans (hb.mono HB3.out.size))
  clear hb HB3 HE3
  have hfz := bstr_size fr
  cases neg
  · go_wp2
    go_ret3
    exact ⟨by rw [HM.out]; rfl, HB4.out⟩
  · have hv0 := HV.out rfl
    go_wp2
    go_ret3
    exact ⟨by rw [HM.out]; rfl, HB4.out⟩
set_option maxRecDepth 100000 in
set_option maxHeartbeats 1000000 in
theorem dec_parse_5at (s : ByteArray) (neg : Bool) (wh fr : List UInt8) (pt : Bool) (u r : List UInt8) (w : World) (he : Env w) (A : Apart s neg wh fr pt u r) (hd : digB wh = true) (hlen : wh.length ≤ 1) (hp : pt = true) (hf : digB fr = true) (hf6 : fr.length ≤ 6) (hr : Pm.inR neg (Pm.val (wh ++ fr)) = false) :
    Calls Tryz.prog 49 #[.string s] w (Par (Pm.parseM s.data.toList) w) := by
  obtain ⟨hm, hat⟩ := A.good hd (fun e => by omega) (fun _ => ⟨hf, hf6⟩)
  rw [hr] at hm hat
  rw [if_neg (fun e => by cases e.1)] at hm
  rw [if_neg (by decide)] at hat
  have HAT := Lib.hid hat
  have HRL := Lib.hid A.rlen
  clear hat hr
  subst hp
  obtain ⟨PL, hPL⟩ : ∃ PL, PL = Pm.parseM s.data.toList := ⟨_, rfl⟩
  rw [← hPL] at hm ⊢
  clear hPL
  have HM := Lib.hid hm
  have HE := Lib.hid he
  have HA := Lib.hid A
  have hl := A.len.1
  have hl2 := A.len.2.1
  clear hm he A
  have HF := Lib.hid hf
  have HS : Hid (scB (fr.length : Int) = true) := by show _ = _; simp [scB]; omega
  clear hf hf6
  have HD := Lib.hid hd
  clear hd
  go_enter Tryz.func49, Tryz.ntmps49
  go_wp2_with fail
  refine (HA.out.cp2 _).mono ?_
  rintro e w' ⟨rfl, rfl⟩
  go_wp2_with fail
  refine (HA.out.cut2 _ HE.out).mono ?_
  rintro e w1 ⟨rfl, hb⟩
  have HB := Lib.hid hb
  have HE1 := Lib.hid (HE.out.keep hb)
  clear hb HE
  go_wp2_with fail
  refine (dec_digits (bstr wh) _ (by rw [bstr_size]; omega)).mono ?_
  rintro e w2 ⟨rfl, rfl⟩
  rw [bstr_data, HD.out]
  obtain ⟨W, hW⟩ : ∃ W, W = bstr wh := ⟨_, rfl⟩
  have hWz : W.size = wh.length := by rw [hW, bstr_size]
  have hWh : ∀ h : 0 < W.size, (W[0].toNat = 48) ↔ wh.head? = some 48 := by subst hW; exact zero_head wh
  rw [← hW]
  have i1 : (W.size : Int) ≤ 1 := by omega
  clear hWh hWz hW hlen
  go_wp2_with fail
  refine (dec_digits (bstr fr) _ (by rw [bstr_size]; omega)).mono ?_
  rintro e w2 ⟨rfl, rfl⟩
  rw [bstr_data, HF.out]
  go_wp2_with fail
  rw [bstr_size]
  refine (dec_right (fr.length : Int) _).mono ?_
  rintro e w2 ⟨rfl, rfl⟩
  rw [HS.out]
  go_wp2_with fail
  refine (HA.out.rep2 _ HE1.out).mono ?_
  rintro e w3 ⟨rfl, hb⟩
  have HB3 := Lib.hid (HB.out.trans (hb.mono HB.out.size))
  have HE3 := Lib.hid (HE1.out.keep hb)
  clear hb HB HE1
  go_wp2_with fail
  refine (atoi_range2 r _ HE3.out HRL.out HAT.out).mono ?_
  rintro e w4 ⟨v, T, N, rfl, hb⟩
  have HB4 := Lib.hid (HB3.out.trans (hb.mono HB3.out.size))
  clear hb HB3 HE3
  go_wp2
  go_ret3
  exact ⟨by rw [HM.out]; rfl, HB4.out⟩
set_option maxRecDepth 100000 in
set_option maxHeartbeats 1000000 in
theorem dec_parse_6at (s : ByteArray) (neg : Bool) (wh fr : List UInt8) (pt : Bool) (u r : List UInt8) (w : World) (he : Env w) (A : Apart s neg wh fr pt u r) (hd : digB wh = true) (hlen : wh.length ≤ 1) (hp : pt = true) (hf : digB fr = true) (hf6 : fr.length ≤ 6) (hr : Pm.inR neg (Pm.val (wh ++ fr)) = true) (hz : neg = true ∧ Pm.val (wh ++ fr) = 0) :
    Calls Tryz.prog 49 #[.string s] w (Par (Pm.parseM s.data.toList) w) := by
  obtain ⟨hm, hat⟩ := A.good hd (fun e => by omega) (fun _ => ⟨hf, hf6⟩)
  rw [hr] at hm hat
  rw [if_neg (fun e => e.2 hz)] at hm
  rw [if_pos rfl, hz.2, hz.1] at hat
  have HAT : Hid (Lib.atoiAll r = .ok 0) := hat
  have HRL := Lib.hid A.rlen
  obtain ⟨hz1, _⟩ := hz
  clear hat hr
  subst hp hz1
  obtain ⟨PL, hPL⟩ : ∃ PL, PL = Pm.parseM s.data.toList := ⟨_, rfl⟩
  rw [← hPL] at hm ⊢
  clear hPL
  have HM := Lib.hid hm
  have HE := Lib.hid he
  have HA := Lib.hid A
  have hl := A.len.1
  have hl2 := A.len.2.1
  clear hm he A
  have HF := Lib.hid hf
  have HS : Hid (scB (fr.length : Int) = true) := by show _ = _; simp [scB]; omega
  clear hf hf6
  have HD := Lib.hid hd
  clear hd
  go_enter Tryz.func49, Tryz.ntmps49
  go_wp2_with fail
  refine (HA.out.cp2 _).mono ?_
  rintro e w' ⟨rfl, rfl⟩
  go_wp2_with fail
  refine (HA.out.cut2 _ HE.out).mono ?_
  rintro e w1 ⟨rfl, hb⟩
  have HB := Lib.hid hb
  have HE1 := Lib.hid (HE.out.keep hb)
  clear hb HE
  go_wp2_with fail
  refine (dec_digits (bstr wh) _ (by rw [bstr_size]; omega)).mono ?_
  rintro e w2 ⟨rfl, rfl⟩
  rw [bstr_data, HD.out]
  obtain ⟨W, hW⟩ : ∃ W, W = bstr wh := ⟨_, rfl⟩
  have hWz : W.size = wh.length := by rw [hW, bstr_size]
  have hWh : ∀ h : 0 < W.size, (W[0].toNat = 48) ↔ wh.head? = some 48 := by subst hW; exact zero_head wh
  rw [← hW]
  have i1 : (W.size : Int) ≤ 1 := by omega
  clear hWh hWz hW hlen
  go_wp2_with fail
  refine (dec_digits (bstr fr) _ (by rw [bstr_size]; omega)).mono ?_
  rintro e w2 ⟨rfl, rfl⟩
  rw [bstr_data, HF.out]
  go_wp2_with fail
  rw [bstr_size]
  refine (dec_right (fr.length : Int) _).mono ?_
  rintro e w2 ⟨rfl, rfl⟩
  rw [HS.out]
  go_wp2_with fail
  refine (HA.out.rep2 _ HE1.out).mono ?_
  rintro e w3 ⟨rfl, hb⟩
  have HB3 := Lib.hid (HB.out.trans (hb.mono HB.out.size))
  have HE3 := Lib.hid (HE1.out.keep hb)
  clear hb HB HE1
  go_wp2_with fail
  refine (atoi_ok2 r 0 _ HRL.out HAT.out).mono ?_
  rintro e w4 ⟨rfl, hb⟩
  have HB4 := Lib.hid (HB3.out.trans (hb.mono HB3.out.size))
  clear hb HB3 HE3
  go_wp2
  go_ret3
  exact ⟨by rw [HM.out]; rfl, HB4.out⟩
set_option maxRecDepth 100000 in
set_option maxHeartbeats 1000000 in
theorem dec_parse_7at (s : ByteArray) (neg : Bool) (wh fr : List UInt8) (pt : Bool) (u r : List UInt8) (w : World) (he : Env w) (A : Apart s neg wh fr pt u r) (hd : digB wh = true) (hlen : wh.length ≤ 1) (hp : pt = true) (hf : digB fr = true) (hf6 : fr.length ≤ 6) (hr : Pm.inR neg (Pm.val (wh ++ fr)) = true) (hz : ¬ (neg = true ∧ Pm.val (wh ++ fr) = 0)) :
    Calls Tryz.prog 49 #[.string s] w (Par (Pm.parseM s.data.toList) w) := by
  obtain ⟨hm, hat⟩ := A.good hd (fun e => by omega) (fun _ => ⟨hf, hf6⟩)
  rw [hr] at hm hat
  rw [if_pos ⟨rfl, hz⟩] at hm
  rw [if_pos rfl] at hat
  have HAT := Lib.hid hat
  have HRL := Lib.hid A.rlen
  have hv : neg = true → (Pm.sgn neg (Pm.val (wh ++ fr)) == 0) = false := fun e => by rw [beq_eq_false_iff_ne, e]; intro e2; exact hz ⟨e, by simp [Pm.sgn] at e2; exact e2⟩
  have HV := Lib.hid hv
  clear hat hr hv hz
  subst hp
  revert HAT HV hm
  generalize Pm.sgn neg (Pm.val (wh ++ fr)) = v
  intro hm HAT HV
  obtain ⟨PL, hPL⟩ : ∃ PL, PL = Pm.parseM s.data.toList := ⟨_, rfl⟩
  rw [← hPL] at hm ⊢
  clear hPL
  have HM := Lib.hid hm
  have HE := Lib.hid he
  have HA := Lib.hid A
  have hl := A.len.1
  have hl2 := A.len.2.1
  clear hm he A
  have HF := Lib.hid hf
  have HS : Hid (scB (fr.length : Int) = true) := by show _ = _; simp [scB]; omega
  clear hf hf6
  have HD := Lib.hid hd
  clear hd
  go_enter Tryz.func49, Tryz.ntmps49
  go_wp2_with fail
  refine (HA.out.cp2 _).mono ?_
  rintro e w' ⟨rfl, rfl⟩
  go_wp2_with fail
  refine (HA.out.cut2 _ HE.out).mono ?_
  rintro e w1 ⟨rfl, hb⟩
  have HB := Lib.hid hb
  have HE1 := Lib.hid (HE.out.keep hb)
  clear hb HE
  go_wp2_with fail
  refine (dec_digits (bstr wh) _ (by rw [bstr_size]; omega)).mono ?_
  rintro e w2 ⟨rfl, rfl⟩
  rw [bstr_data, HD.out]
  obtain ⟨W, hW⟩ : ∃ W, W = bstr wh := ⟨_, rfl⟩
  have hWz : W.size = wh.length := by rw [hW, bstr_size]
  have hWh : ∀ h : 0 < W.size, (W[0].toNat = 48) ↔ wh.head? = some 48 := by subst hW; exact zero_head wh
  rw [← hW]
  have i1 : (W.size : Int) ≤ 1 := by omega
  clear hWh hWz hW hlen
  go_wp2_with fail
  refine (dec_digits (bstr fr) _ (by rw [bstr_size]; omega)).mono ?_
  rintro e w2 ⟨rfl, rfl⟩
  rw [bstr_data, HF.out]
  go_wp2_with fail
  rw [bstr_size]
  refine (dec_right (fr.length : Int) _).mono ?_
  rintro e w2 ⟨rfl, rfl⟩
  rw [HS.out]
  go_wp2_with fail
  refine (HA.out.rep2 _ HE1.out).mono ?_
  rintro e w3 ⟨rfl, hb⟩
  have HB3 := Lib.hid (HB.out.trans (hb.mono HB.out.size))
  have HE3 := Lib.hid (HE1.out.keep hb)
  clear hb HB HE1
  go_wp2_with fail
  refine (atoi_ok2 r v _ HRL.out HAT.out).mono ?_
  rintro e w4 ⟨rfl, hb⟩
  have HB4 := Lib.hid (HB3.out.trans (hb.mono HB3.out.size))
  clear hb HB3 HE3
  have hfz := bstr_size fr
  cases neg
  · go_wp2
    go_ret3
    exact ⟨by rw [HM.out]; rfl, HB4.out⟩
  · have hv0 := HV.out rfl
    go_wp2
    go_ret3
    exact ⟨by rw [HM.out]; rfl, HB4.out⟩
set_option maxRecDepth 100000 in
set_option maxHeartbeats 1000000 in
theorem dec_parse_5bf (s : ByteArray) (neg : Bool) (wh fr : List UInt8) (pt : Bool) (u r : List UInt8) (w : World) (he : Env w) (A : Apart s neg wh fr pt u r) (hd : digB wh = true) (hlen : 1 < wh.length) (hh : wh.head? ≠ some 48) (hp : pt = false) (hr : Pm.inR neg (Pm.val (wh ++ fr)) = false) :
    Calls Tryz.prog 49 #[.string s] w (Par (Pm.parseM s.data.toList) w) := by
  obtain ⟨hm, hat⟩ := A.good hd (fun e => hh e.2) (fun e => by rw [hp] at e; cases e)
  rw [hr] at hm hat
  rw [if_neg (fun e => by cases e.1)] at hm
  rw [if_neg (by decide)] at hat
  have HAT := Lib.hid hat
  have HRL := Lib.hid A.rlen
  clear hat hr
  subst hp
  obtain ⟨PL, hPL⟩ : ∃ PL, PL = Pm.parseM s.data.toList := ⟨_, rfl⟩
  rw [← hPL] at hm ⊢
  clear hPL
  have HM := Lib.hid hm
  have HE := Lib.hid he
  have HA := Lib.hid A
  have hl := A.len.1
  have hl2 := A.len.2.1
  clear hm he A
  have HD := Lib.hid hd
  clear hd
  go_enter Tryz.func49, Tryz.ntmps49
  go_wp2_with fail
  refine (HA.out.cp2 _).mono ?_
  rintro e w' ⟨rfl, rfl⟩
  go_wp2_with fail
  refine (HA.out.cut2 _ HE.out).mono ?_
  rintro e w1 ⟨rfl, hb⟩
  have HB := Lib.hid hb
  have HE1 := Lib.hid (HE.out.keep hb)
  clear hb HE
  go_wp2_with fail
  refine (dec_digits (bstr wh) _ (by rw [bstr_size]; omega)).mono ?_
  rintro e w2 ⟨rfl, rfl⟩
  rw [bstr_data, HD.out]
  obtain ⟨W, hW⟩ : ∃ W, W = bstr wh := ⟨_, rfl⟩
  have hWz : W.size = wh.length := by rw [hW, bstr_size]
  have hWh : ∀ h : 0 < W.size, (W[0].toNat = 48) ↔ wh.head? = some 48 := by subst hW; exact zero_head wh
  rw [← hW]
  have i1 : (1 : Int) < (W.size : Int) := by omega
  have i0 : 0 < W.size := by omega
  have i2 : ((W[0].toNat : Int) == 48) = false := by simp; intro e; exact hh ((hWh i0).1 (by omega))
  clear hWh hWz hW hlen hh
  go_wp2_with fail
  refine (HA.out.rep2 _ HE1.out).mono ?_
  rintro e w3 ⟨rfl, hb⟩
  have HB3 := Lib.hid (HB.out.trans (hb.mono HB.out.size))
  have HE3 := Lib.hid (HE1.out.keep hb)
  clear hb HB HE1
  go_wp2_with fail
  refine (atoi_range2 r _ HE3.out HRL.out HAT.out).mono ?_
  rintro e w4 ⟨v, T, N, rfl, hb⟩
  have HB4 := Lib.hid (HB3.out.trans (hb.mono HB3.out.size))
  clear hb HB3 HE3
  go_wp2
  go_ret3
  exact ⟨by rw [HM.out]; rfl, HB4.out⟩
set_option maxRecDepth 100000 in
set_option maxHeartbeats 1000000 in
theorem dec_parse_6bf (s : ByteArray) (neg : Bool) (wh fr : List UInt8) (pt : Bool) (u r : List UInt8) (w : World) (he : Env w) (A : Apart s neg wh fr pt u r) (hd : digB wh = true) (hlen : 1 < wh.length) (hh : wh.head? ≠ some 48) (hp : pt = false) (hr : Pm.inR neg (Pm.val (wh ++ fr)) = true) (hz : neg = true ∧ Pm.val (wh ++ fr) = 0) :
    Calls Tryz.prog 49 #[.string s] w (Par (Pm.parseM s.data.toList) w) := by
  obtain ⟨hm, hat⟩ := A.good hd (fun e => hh e.2) (fun e => by rw [hp] at e; cases e)
  rw [hr] at hm hat
  rw [if_neg (fun e => e.2 hz)] at hm
  rw [if_pos rfl, hz.2, hz.1] at hat
  have HAT : Hid (Lib.atoiAll r = .ok 0) := hat
  have HRL := Lib.hid A.rlen
  obtain ⟨hz1, _⟩ := hz
  clear hat hr
  subst hp hz1
  obtain ⟨PL, hPL⟩ : ∃ PL, PL = Pm.parseM s.data.toList := ⟨_, rfl⟩
  rw [← hPL] at hm ⊢
  clear hPL
  have HM := Lib.hid hm
  have HE := Lib.hid he
  have HA := Lib.hid A
  have hl := A.len.1
  have hl2 := A.len.2.1
  clear hm he A
  have HD := Lib.hid hd
  clear hd
  go_enter Tryz.func49, Tryz.ntmps49
  go_wp2_with fail
  refine (HA.out.cp2 _).mono ?_
  rintro e w' ⟨rfl, rfl⟩
  go_wp2_with fail
  refine (HA.out.cut2 _ HE.out).mono ?_
  rintro e w1 ⟨rfl, hb⟩
  have HB := Lib.hid hb
  have HE1 := Lib.hid (HE.out.keep hb)
  clear hb HE
  go_wp2_with fail
  refine (dec_digits (bstr wh) _ (by rw [bstr_size]; omega)).mono ?_
  rintro e w2 ⟨rfl, rfl⟩
  rw [bstr_data, HD.out]
  obtain ⟨W, hW⟩ : ∃ W, W = bstr wh := ⟨_, rfl⟩
  have hWz : W.size = wh.length := by rw [hW, bstr_size]
  have hWh : ∀ h : 0 < W.size, (W[0].toNat = 48) ↔ wh.head? = some 48 := by subst hW; exact zero_head wh
  rw [← hW]
  have i1 : (1 : Int) < (W.size : Int) := by omega
  have i0 : 0 < W.size := by omega
  have i2 : ((W[0].toNat : Int) == 48) = false := by simp; intro e; exact hh ((hWh i0).1 (by omega))
  clear hWh hWz hW hlen hh
  go_wp2_with fail
  refine (HA.out.rep2 _ HE1.out).mono ?_
  rintro e w3 ⟨rfl, hb⟩
  have HB3 := Lib.hid (HB.out.trans (hb.mono HB.out.size))
  have HE3 := Lib.hid (HE1.out.keep hb)
  clear hb HB HE1
  go_wp2_with fail
  refine (atoi_ok2 r 0 _ HRL.out HAT.out).mono ?_
  rintro e w4 ⟨rfl, hb⟩
  have HB4 := Lib.hid (HB3.out.trans (hb.mono HB3.out.size))
  clear hb HB3 HE3
  go_wp2
  go_ret3
  exact ⟨by rw [HM.out]; rfl, HB4.out⟩
set_option maxRecDepth 100000 in
set_option maxHeartbeats 1000000 in
theorem dec_parse_7bf (s : ByteArray) (neg : Bool) (wh fr : List UInt8) (pt : Bool) (u r : List UInt8) (w : World) (he : Env w) (A : Apart s neg wh fr pt u r) (hd : digB wh = true) (hlen : 1 < wh.length) (hh : wh.head? ≠ some 48) (hp : pt = false) (hr : Pm.inR neg (Pm.val (wh ++ fr)) = true) (hz : ¬ (neg = true ∧ Pm.val (wh ++ fr) = 0)) :
    Calls Tryz.prog 49 #[.string s] w (Par (Pm.parseM s.data.toList) w) := by
  obtain ⟨hm, hat⟩ := A.good hd (fun e => hh e.2) (fun e => by rw [hp] at e; cases e)
  rw [hr] at hm hat
  rw [if_pos ⟨rfl, hz⟩] at hm
  rw [if_pos rfl] at hat
  have HAT := Lib.hid hat
  have HRL := Lib.hid A.rlen
  have hv : neg = true → (Pm.sgn neg (Pm.val (wh ++ fr)) == 0) = false := fun e => by rw [beq_eq_false_iff_ne, e]; intro e2; exact hz ⟨e, by simp [Pm.sgn] at e2; exact e2⟩
  have HV := Lib.hid hv
  clear hat hr hv hz
  subst hp
  revert HAT HV hm
  generalize Pm.sgn neg (Pm.val (wh ++ fr)) = v
  intro hm HAT HV
  obtain ⟨PL, hPL⟩ : ∃ PL, PL = Pm.parseM s.data.toList := ⟨_, rfl⟩
  rw [← hPL] at hm ⊢
  clear hPL
  have HM := Lib.hid hm
  have HE := Lib.hid he
  have HA := Lib.hid A
  have hl := A.len.1
  have hl2 := A.len.2.1
  clear hm he A
  have HD := Lib.hid hd
  clear hd
  go_enter Tryz.func49, Tryz.ntmps49
  go_wp2_with fail
  refine (HA.out.cp2 _).mono ?_
  rintro e w' ⟨rfl, rfl⟩
  go_wp2_with fail
  refine (HA.out.cut2 _ HE.out).mono ?_
  rintro e w1 ⟨rfl, hb⟩
  have HB := Lib.hid hb
  have HE1 := Lib.hid (HE.out.keep hb)
  clear hb HE
  go_wp2_with fail
  refine (dec_digits (bstr wh) _ (by rw [bstr_size]; omega)).mono ?_
  rintro e w2 ⟨rfl, rfl⟩
  rw [bstr_data, HD.out]
  obtain ⟨W, hW⟩ : ∃ W, W = bstr wh := ⟨_, rfl⟩
  have hWz : W.size = wh.length := by rw [hW, bstr_size]
  have hWh : ∀ h : 0 < W.size, (W[0].toNat = 48) ↔ wh.head? = some 48 := by subst hW; exact zero_head wh
  rw [← hW]
  have i1 : (1 : Int) < (W.size : Int) := by omega
  have i0 : 0 < W.size := by omega
  have i2 : ((W[0].toNat : Int) == 48) = false := by simp; intro e; exact hh ((hWh i0).1 (by omega))
  clear hWh hWz hW hlen hh
  go_wp2_with fail
  refine (HA.out.rep2 _ HE1.out).mono ?_
  rintro e w3 ⟨rfl, hb⟩
  have HB3 := Lib.hid (HB.out.trans (hb.mono HB.out.size))
  have HE3 := Lib.hid (HE1.out.keep hb)
  clear hb HB HE1
  go_wp2_with fail
  refine (atoi_ok2 r v _ HRL.out HAT.out).mono ?_
  rintro e w4 ⟨rfl, hb⟩
  have HB4 := Lib.hid (HB3.out.trans (hb.mono HB3.out.size))
  clear hb HB3 HE3
  have hfz := bstr_size fr
  cases neg
  · go_wp2
    go_ret3
    exact ⟨by rw [HM.out]; rfl, HB4.out⟩
  · have hv0 := HV.out rfl
    go_wp2
    go_ret3
    exact ⟨by rw [HM.out]; rfl, HB4.out⟩
set_option maxRecDepth 100000 in
set_option maxHeartbeats 1000000 in
theorem dec_parse_5bt (s : ByteArray) (neg : Bool) (wh fr : List UInt8) (pt : Bool) (u r : List UInt8) (w : World) (he : Env w) (A : Apart s neg wh fr pt u r) (hd : digB wh = true) (hlen : 1 < wh.length) (hh : wh.head? ≠ some 48) (hp : pt = true) (hf : digB fr = true) (hf6 : fr.length ≤ 6) (hr : Pm.inR neg (Pm.val (wh ++ fr)) = false) :
    Calls Tryz.prog 49 #[.string s] w (Par (Pm.parseM s.data.toList) w) := by
  obtain ⟨hm, hat⟩ := A.good hd (fun e => hh e.2) (fun _ => ⟨hf, hf6⟩)
  rw [hr] at hm hat
  rw [if_neg (fun e => by cases e.1)] at hm
  rw [if_neg (by decide)] at hat
  have HAT := Lib.hid hat
  have HRL := Lib.hid A.rlen
  clear hat hr
  subst hp
  obtain ⟨PL, hPL⟩ : ∃ PL, PL = Pm.parseM s.data.toList := ⟨_, rfl⟩
  rw [← hPL] at hm ⊢
  clear hPL
  have HM := Lib.hid hm
  have HE := Lib.hid he
  have HA := Lib.hid A
  have hl := A.len.1
  have hl2 := A.len.2.1
  clear hm he A
  have HF := Lib.hid hf
  have HS : Hid (scB (fr.length : Int) = true) := by show _ = _; simp [scB]; omega
  clear hf hf6
  have HD := Lib.hid hd
  clear hd
  go_enter Tryz.func49, Tryz.ntmps49
  go_wp2_with fail
  refine (HA.out.cp2 _).mono ?_
  rintro e w' ⟨rfl, rfl⟩
  go_wp2_with fail
  refine (HA.out.cut2 _ HE.out).mono ?_
  rintro e w1 ⟨rfl, hb⟩
  have HB := Lib.hid hb
  have HE1 := Lib.hid (HE.out.keep hb)
  clear hb HE
  go_wp2_with fail
  refine (dec_digits (bstr wh) _ (by rw [bstr_size]; omega)).mono ?_
  rintro e w2 ⟨rfl, rfl⟩
  rw [bstr_data, HD.out]
  obtain ⟨W, hW⟩ : ∃ W, W = bstr wh := ⟨_, rfl⟩
  have hWz : W.size = wh.length := by rw [hW, bstr_size]
  have hWh : ∀ h : 0 < W.size, (W[0].toNat = 48) ↔ wh.head? = some 48 := by subst hW; exact zero_head wh
  rw [← hW]
  have i1 : (1 : Int) < (W.size : Int) := by omega
  have i0 : 0 < W.size := by omega
  have i2 : ((W[0].toNat : Int) == 48) = false := by simp; intro e; exact hh ((hWh i0).1 (by omega))
  clear hWh hWz hW hlen hh
  go_wp2_with fail
  refine (dec_digits (bstr fr) _ (by rw [bstr_size]; omega)).mono ?_
  rintro e w2 ⟨rfl, rfl⟩
  rw [bstr_data, HF.out]
  go_wp2_with fail
  rw [bstr_size]
  refine (dec_right (fr.length : Int) _).mono ?_
  rintro e w2 ⟨rfl, rfl⟩
  rw [HS.out]
  go_wp2_with fail
  refine (HA.out.rep2 _ HE1.out).mono ?_
  rintro e w3 ⟨rfl, hb⟩
  have HB3 := Lib.hid (HB.out.trans (hb.mono HB.out.size))
  have HE3 := Lib.hid (HE1.out.keep hb)
  clear hb HB HE1
  go_wp2_with fail
  refine (atoi_range2 r _ HE3.out HRL.out HAT.out).mono ?_
  rintro e w4 ⟨v, T, N, rfl, hb⟩
  have HB4 := Lib.hid (HB3.out.trans (hb.mono HB3.out.size))
  clear hb HB3 HE3
  go_wp2
  go_ret3
  exact ⟨by rw [HM.out]; rfl, HB4.out⟩
set_option maxRecDepth 100000 in
set_option maxHeartbeats 1000000 in
theorem dec_parse_6bt (s : ByteArray) (neg : Bool) (wh fr : List UInt8) (pt : Bool) (u r : List UInt8) (w : World) (he : Env w) (A : Apart s neg wh fr pt u r) (hd : digB wh = true) (hlen : 1 < wh.length) (hh : wh.head? ≠ some 48) (hp : pt = true) (hf : digB fr = true) (hf6 : fr.length ≤ 6) (hr : Pm.inR neg (Pm.val (wh ++ fr)) = true) (hz : neg = true ∧ Pm.val (wh ++ fr) = 0) :
    Calls Tryz.prog 49 #[.string s] w (Par (Pm.parseM s.data.toList) w) := by
  obtain ⟨hm, hat⟩ := A.good hd (fun e => hh e.2) (fun _ => ⟨hf, hf6⟩)
  rw [hr] at hm hat
  rw [if_neg (fun e => e.2 hz)] at hm
  rw [if_pos rfl, hz.2, hz.1] at hat
  have HAT : Hid (Lib.atoiAll r = .ok 0) := hat
  have HRL := Lib.hid A.rlen
  obtain ⟨hz1, _⟩ := hz
  clear hat hr
  subst hp hz1
  obtain ⟨PL, hPL⟩ : ∃ PL, PL = Pm.parseM s.data.toList := ⟨_, rfl⟩
  rw [← hPL] at hm ⊢
  clear hPL
  have HM := Lib.hid hm
  have HE := Lib.hid he
  have HA := Lib.hid A
  have hl := A.len.1
  have hl2 := A.len.2.1
  clear hm he A
  have HF := Lib.hid hf
  have HS : Hid (scB (fr.length : Int) = true) := by show _ = _; simp [scB]; omega
  clear hf hf6
  have HD := Lib.hid hd
  clear hd
  go_enter Tryz.func49, Tryz.ntmps49
  go_wp2_with fail
  refine (HA.out.cp2 _).mono ?_
  rintro e w' ⟨rfl, rfl⟩
  go_wp2_with fail
  refine (HA.out.cut2 _ HE.out).mono ?_
  rintro e w1 ⟨rfl, hb⟩
  have HB := Lib.hid hb
  have HE1 := Lib.hid (HE.out.keep hb)
  clear hb HE
  go_wp2_with fail
  refine (dec_digits (bstr wh) _ (by rw [bstr_size]; omega)).mono ?_
  rintro e w2 ⟨rfl, rfl⟩
  rw [bstr_data, HD.out]
  obtain ⟨W, hW⟩ : ∃ W, W = bstr wh := ⟨_, rfl⟩
  have hWz : W.size = wh.length := by rw [hW, bstr_size]
  have hWh : ∀ h : 0 < W.size, (W[0].toNat = 48) ↔ wh.head? = some 48 := by subst hW; exact zero_head wh
  rw [← hW]
  have i1 : (1 : Int) < (W.size : Int) := by omega
  have i0 : 0 < W.size := by omega
  have i2 : ((W[0].toNat : Int) == 48) = false := by simp; intro e; exact hh ((hWh i0).1 (by omega))
  clear hWh hWz hW hlen hh
  go_wp2_with fail
  refine (dec_digits (bstr fr) _ (by rw [bstr_size]; omega)).mono ?_
  rintro e w2 ⟨rfl, rfl⟩
  rw [bstr_data, HF.out]
  go_wp2_with fail
  rw [bstr_size]
  refine (dec_right (fr.length : Int) _).mono ?_
  rintro e w2 ⟨rfl, rfl⟩
  rw [HS.out]
  go_wp2_with fail
  refine (HA.out.rep2 _ HE1.out).mono ?_
  rintro e w3 ⟨rfl, hb⟩
  have HB3 := Lib.hid (HB.out.trans (hb.mono HB.out.size))
  have HE3 := Lib.hid (HE1.out.keep hb)
  clear hb HB HE1
  go_wp2_with fail
  refine (atoi_ok2 r 0 _ HRL.out HAT.out).mono ?_
  rintro e w4 ⟨rfl, hb⟩
  have HB4 := Lib.hid (HB3.out.trans (hb.mono HB3.out.size))
  clear hb HB3 HE3
  go_wp2
  go_ret3
  exact ⟨by rw [HM.out]; rfl, HB4.out⟩
set_option maxRecDepth 100000 in
set_option maxHeartbeats 1000000 in
theorem dec_parse_7bt (s : ByteArray) (neg : Bool) (wh fr : List UInt8) (pt : Bool) (u r : List UInt8) (w : World) (he : Env w) (A : Apart s neg wh fr pt u r) (hd : digB wh = true) (hlen : 1 < wh.length) (hh : wh.head? ≠ some 48) (hp : pt = true) (hf : digB fr = true) (hf6 : fr.length ≤ 6) (hr : Pm.inR neg (Pm.val (wh ++ fr)) = true) (hz : ¬ (neg = true ∧ Pm.val (wh ++ fr) = 0)) :
    Calls Tryz.prog 49 #[.string s] w (Par (Pm.parseM s.data.toList) w) := by
  obtain ⟨hm, hat⟩ := A.good hd (fun e => hh e.2) (fun _ => ⟨hf, hf6⟩)
  rw [hr] at hm hat
  rw [if_pos ⟨rfl, hz⟩] at hm
  rw [if_pos rfl] at hat
  have HAT := Lib.hid hat
  have HRL := Lib.hid A.rlen
  have hv : neg = true → (Pm.sgn neg (Pm.val (wh ++ fr)) == 0) = false := fun e => by rw [beq_eq_false_iff_ne, e]; intro e2; exact hz ⟨e, by simp [Pm.sgn] at e2; exact e2⟩
  have HV := Lib.hid hv
  clear hat hr hv hz
  subst hp
  revert HAT HV hm
  generalize Pm.sgn neg (Pm.val (wh ++ fr)) = v
  intro hm HAT HV
  obtain ⟨PL, hPL⟩ : ∃ PL, PL = Pm.parseM s.data.toList := ⟨_, rfl⟩
  rw [← hPL] at hm ⊢
  clear hPL
  have HM := Lib.hid hm
  have HE := Lib.hid he
  have HA := Lib.hid A
  have hl := A.len.1
  have hl2 := A.len.2.1
  clear hm he A
  have HF := Lib.hid hf
  have HS : Hid (scB (fr.length : Int) = true) := by show _ = _; simp [scB]; omega
  clear hf hf6
  have HD := Lib.hid hd
  clear hd
  go_enter Tryz.func49, Tryz.ntmps49
  go_wp2_with fail
  refine (HA.out.cp2 _).mono ?_
  rintro e w' ⟨rfl, rfl⟩
  go_wp2_with fail
  refine (HA.out.cut2 _ HE.out).mono ?_
  rintro e w1 ⟨rfl, hb⟩
  have HB := Lib.hid hb
  have HE1 := Lib.hid (HE.out.keep hb)
  clear hb HE
  go_wp2_with fail
  refine (dec_digits (bstr wh) _ (by rw [bstr_size]; omega)).mono ?_
  rintro e w2 ⟨rfl, rfl⟩
  rw [bstr_data, HD.out]
  obtain ⟨W, hW⟩ : ∃ W, W = bstr wh := ⟨_, rfl⟩
  have hWz : W.size = wh.length := by rw [hW, bstr_size]
  have hWh : ∀ h : 0 < W.size, (W[0].toNat = 48) ↔ wh.head? = some 48 := by subst hW; exact zero_head wh
  rw [← hW]
  have i1 : (1 : Int) < (W.size : Int) := by omega
  have i0 : 0 < W.size := by omega
  have i2 : ((W[0].toNat : Int) == 48) = false := by simp; intro e; exact hh ((hWh i0).1 (by omega))
  clear hWh hWz hW hlen hh
  go_wp2_with fail
  refine (dec_digits (bstr fr) _ (by rw [bstr_size]; omega)).mono ?_
  rintro e w2 ⟨rfl, rfl⟩
  rw [bstr_data, HF.out]
  go_wp2_with fail
  rw [bstr_size]
  refine (dec_right (fr.length : Int) _).mono ?_
  rintro e w2 ⟨rfl, rfl⟩
  rw [HS.out]
  go_wp2_with fail
  refine (HA.out.rep2 _ HE1.out).mono ?_
  rintro e w3 ⟨rfl, hb⟩
  have HB3 := Lib.hid (HB.out.trans (hb.mono HB.out.size))
  have HE3 := Lib.hid (HE1.out.keep hb)
  clear hb HB HE1
  go_wp2_with fail
  refine (atoi_ok2 r v _ HRL.out HAT.out).mono ?_
  rintro e w4 ⟨rfl, hb⟩
  have HB4 := Lib.hid (HB3.out.trans (hb.mono HB3.out.size))
  clear hb HB3 HE3
  have hfz := bstr_size fr
  cases neg
  · go_wp2
    go_ret3
    exact ⟨by rw [HM.out]; rfl, HB4.out⟩
  · have hv0 := HV.out rfl
    go_wp2
    go_ret3
    exact ⟨by rw [HM.out]; rfl, HB4.out⟩
theorem dec_parse (s : ByteArray) (w : World) (he : Env w) (hs : s.size ≤ 1000) : Calls Tryz.prog 49 #[.string s] w (Par (Pm.parseM s.data.toList) w) := by
  obtain ⟨neg, wh, fr, pt, u, r, A⟩ := apart s hs
  cases hd : digB wh
  · exact dec_parse_1 s neg wh fr pt u r w he A hd
  by_cases h2 : 1 < wh.length ∧ wh.head? = some 48
  · exact dec_parse_2 s neg wh fr pt u r w he A hd h2.1 h2.2
  by_cases hlen : wh.length ≤ 1
  · cases hp : pt
    · cases hr : Pm.inR neg (Pm.val (wh ++ fr))
      · exact dec_parse_5af s neg wh fr pt u r w he A hd hlen hp hr
      · by_cases hz : neg = true ∧ Pm.val (wh ++ fr) = 0
        · exact dec_parse_6af s neg wh fr pt u r w he A hd hlen hp hr hz
        · exact dec_parse_7af s neg wh fr pt u r w he A hd hlen hp hr hz
    · cases hf : digB fr
      · exact dec_parse_3a s neg wh fr pt u r w he A hd hlen hp hf
      by_cases hf6 : 6 < fr.length
      · exact dec_parse_4a s neg wh fr pt u r w he A hd hlen hp hf hf6
      cases hr : Pm.inR neg (Pm.val (wh ++ fr))
      · exact dec_parse_5at s neg wh fr pt u r w he A hd hlen hp hf (by omega) hr
      · by_cases hz : neg = true ∧ Pm.val (wh ++ fr) = 0
        · exact dec_parse_6at s neg wh fr pt u r w he A hd hlen hp hf (by omega) hr hz
        · exact dec_parse_7at s neg wh fr pt u r w he A hd hlen hp hf (by omega) hr hz
  · have hl2 : 1 < wh.length := by omega
    have hh : wh.head? ≠ some 48 := fun e => h2 ⟨hl2, e⟩
    cases hp : pt
    · cases hr : Pm.inR neg (Pm.val (wh ++ fr))
      · exact dec_parse_5bf s neg wh fr pt u r w he A hd hl2 hh hp hr
      · by_cases hz : neg = true ∧ Pm.val (wh ++ fr) = 0
        · exact dec_parse_6bf s neg wh fr pt u r w he A hd hl2 hh hp hr hz
        · exact dec_parse_7bf s neg wh fr pt u r w he A hd hl2 hh hp hr hz
    · cases hf : digB fr
      · exact dec_parse_3b s neg wh fr pt u r w he A hd hl2 hh hp hf
      by_cases hf6 : 6 < fr.length
      · exact dec_parse_4b s neg wh fr pt u r w he A hd hl2 hh hp hf hf6
      cases hr : Pm.inR neg (Pm.val (wh ++ fr))
      · exact dec_parse_5bt s neg wh fr pt u r w he A hd hl2 hh hp hf (by omega) hr
      · by_cases hz : neg = true ∧ Pm.val (wh ++ fr) = 0
        · exact dec_parse_6bt s neg wh fr pt u r w he A hd hl2 hh hp hf (by omega) hr hz
        · exact dec_parse_7bt s neg wh fr pt u r w he A hd hl2 hh hp hf (by omega) hr hz
end Go.Proofs.YtfnnhhhkdfgefaaGreatDoor
