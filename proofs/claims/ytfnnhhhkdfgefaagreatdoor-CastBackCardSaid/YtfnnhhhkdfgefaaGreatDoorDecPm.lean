/- Package decimal: digits. -/
import Derived.Test.YtfnnhhhkdfgefaaGreatDoorDecSm
import Derived.Test.YtfnnhhhkdfgefaaGreatDoorParMath
namespace Go.Proofs.YtfnnhhhkdfgefaaGreatDoor
open Go.RowKit

/-- digits, at least one -/
def digB (l : List UInt8) : Bool := !l.isEmpty && Pm.allD l
theorem take_snoc (s : ByteArray) (k : Nat) (h : k < s.size) : s.data.toList.take (k + 1) = s.data.toList.take k ++ [s[k]] := by
  rw [List.take_succ_eq_append_getElem (by simpa using h)]; rfl
theorem allD_snoc (l : List UInt8) (c : UInt8) : Pm.allD (l ++ [c]) = (Pm.allD l && Pm.isD c) := by simp [Pm.allD]
theorem allD_take (l : List UInt8) (k : Nat) (h : Pm.allD (l.take k) = false) : Pm.allD l = false := by
  cases hh : Pm.allD l with
  | false => rfl
  | true =>
    unfold Pm.allD at *
    rw [List.all_eq_true] at hh
    have : (l.take k).all Pm.isD = true := List.all_eq_true.2 fun x hx => hh x (List.mem_of_mem_take hx)
    rw [this] at h; cases h
set_option maxHeartbeats 400000 in
theorem dec_digits (s : ByteArray) (w : World) (hs : s.size ≤ 1000000) :
    Calls Tryz.prog 68 #[.string s] w fun e w' => e = .returned (.bool (digB s.data.toList)) ∧ w = w' := by
  go_enter Tryz.func68, Tryz.ntmps68
  go_wp2
  go_loop [6] (fun i => ∃ j : Nat, j ≤ s.size ∧ i = .int .i64 (j : Int) ∧ Hid (Pm.allD (s.data.toList.take j) = true)) (fun i => s.size - (Lib.intOf i).toNat)
  case atStart => exact ⟨0, Nat.zero_le _, rfl, rfl⟩
  case round =>
    obtain ⟨j, hj, rfl, HA⟩ := hrel
    by_cases hlt : j < s.size
    · have hsn := allD_snoc (s.data.toList.take j) s[j]
      rw [← take_snoc s j hlt, HA.out, Bool.true_and] at hsn
      have HS := Lib.hid hsn
      clear hsn
      by_cases hD : Pm.isD s[j] = true
      · obtain ⟨c1, c2⟩ := (Pm.isD_iff s[j]).1 hD
        have HD := Lib.hid hD
        have e1 : (48 : Int) ≤ (s[j].toNat : Int) := by omega
        have e2 : (s[j].toNat : Int) ≤ 57 := by omega
        clear hD
        go_wp2
        go_round
        case rel => exact ⟨j + 1, by omega, by go_num, by show _ = _; rw [HS.out, HD.out]⟩
        case measure => simp [Lib.intOf]; omega
      · have hbad : digB s.data.toList = false := by
          unfold digB
          rw [allD_take _ (j + 1) (by rw [HS.out]; simpa using hD), Bool.and_false]
        have HB := Lib.hid hbad
        have hD' : ¬ (48 ≤ s[j].toNat ∧ s[j].toNat ≤ 57) := fun h => hD ((Pm.isD_iff s[j]).2 h)
        clear hbad hD
        by_cases h48 : 48 ≤ s[j].toNat
        · have e1 : (48 : Int) ≤ (s[j].toNat : Int) := by omega
          have e2 : ¬ (s[j].toNat : Int) ≤ 57 := by omega
          clear hD' h48
          go_wp2
          go_ret
          exact ⟨by rw [HB.out]; rfl, rfl⟩
        · have e1 : ¬ (48 : Int) ≤ (s[j].toNat : Int) := by omega
          clear hD' h48
          go_wp2
          go_ret
          exact ⟨by rw [HB.out]; rfl, rfl⟩
    · have hall : Pm.allD s.data.toList = true := by
        have e := HA.out
        rwa [List.take_of_length_le (by simp; omega)] at e
      by_cases h0 : s.size = 0
      · have hf : digB s.data.toList = false := by
          unfold digB
          have : s.data.toList = [] := List.eq_nil_of_length_eq_zero (by simpa using h0)
          rw [this]; rfl
        have hq : s.toList.isEmpty = true := by
          rw [Lib.toList_data, List.isEmpty_iff]; exact List.eq_nil_of_length_eq_zero (by simpa using h0)
        have HF := Lib.hid hf
        clear hall hf
        go_wp2
        go_ret
        exact ⟨by rw [HF.out]; rfl, rfl⟩
      · have hq : s.toList.isEmpty = false := by
          rw [Lib.toList_data]
          cases hl : s.data.toList with
          | nil => exact absurd (by rw [ByteArray.size, ← Array.length_toList, hl]; rfl) h0
          | cons a b => rfl
        have hf : digB s.data.toList = true := by
          unfold digB
          rw [hall, ← Lib.toList_data, hq]; rfl
        have HF := Lib.hid hf
        clear hall hf
        go_wp2
        go_ret
        exact ⟨by rw [HF.out]; rfl, rfl⟩
end Go.Proofs.YtfnnhhhkdfgefaaGreatDoor
/- Package decimal: Parse, the head of the walk. -/
namespace Go.Proofs.YtfnnhhhkdfgefaaGreatDoor
open Go.RowKit

/-- what Parse leaves -/
def Par (p : Int × Int × Bool) (w : World) (e : Ending) (w' : World) : Prop := e = .returned (.tuple #[.int .i64 p.1, .int .i64 p.2.1, .bool p.2.2]) ∧ Below w.heap.size w w'
/-- a text taken apart as Parse takes it apart -/
structure Apart (s : ByteArray) (neg : Bool) (wh fr : List UInt8) (pt : Bool) (u r : List UInt8) : Prop where
  small : s.size ≤ 1000
  cp : (⟨(Lib.trimPrefix s.data.toList (⟨#[45]⟩ : ByteArray).data.toList).toArray⟩ : ByteArray) = bstr u
  has : Lib.hasPrefix s.data.toList (⟨#[45]⟩ : ByteArray).data.toList = neg
  cut : Lib.cut u [46] = (wh, fr, pt)
  len : wh.length ≤ 1000 ∧ fr.length ≤ 1000 ∧ u.length ≤ 1000
  rep : Lib.replace s.data.toList [46] [] 1 = r
  req : r = (if neg then 45 :: (wh ++ fr) else wh ++ fr)
  mod : Pm.parseM s.data.toList = match (if pt then (if Pm.allD wh = true ∧ wh ≠ [] ∧ Pm.allD fr = true then some (wh, some fr) else none) else (if Pm.allD wh = true then some (wh, none) else none)) with | none => (0, 0, false) | some (D, o) => Pm.fin neg D o
  fr0 : pt = false → fr = []
theorem has_head (l : List UInt8) : Lib.hasPrefix l [45] = decide (l.head? = some 45) := by
  cases l with
  | nil => rfl
  | cons c r => simp [Lib.hasPrefix, List.isPrefixOf]; rw [Bool.eq_iff_iff]; simp; exact eq_comm
theorem trim_head (l : List UInt8) : Lib.trimPrefix l [45] = if l.head? = some 45 then l.drop 1 else l := by
  unfold Lib.trimPrefix; rw [has_head]; simp
theorem apart (s : ByteArray) (h : s.size ≤ 1000) : ∃ neg wh fr pt u r, Apart s neg wh fr pt u r := by
  have hl : s.data.toList.length ≤ 1000 := by simpa using h
  obtain ⟨l, hle⟩ : ∃ l, l = s.data.toList := ⟨_, rfl⟩
  obtain ⟨u, hu⟩ : ∃ u, u = (if l.head? = some 45 then l.drop 1 else l) := ⟨_, rfl⟩
  have hlu : l = (if (decide (l.head? = some 45)) then 45 :: u else u) := by
    cases l with
    | nil => simp at hu; simp [hu]
    | cons c r =>
      by_cases hc : c = 45
      · subst hc; simp at hu; simp [hu]
      · simp [hc] at hu; simp [hc, hu]
  obtain ⟨b, hb⟩ : ∃ b, b = decide (l.head? = some 45) := ⟨_, rfl⟩
  rw [← hb] at hlu
  have hul : u.length ≤ 1000 := by
    rw [hu]; split
    · rw [List.length_drop]; rw [← hle] at hl; omega
    · rw [← hle] at hl; exact hl
  rcases Pm.parted u with hm | ⟨wh, fr, hw, hm⟩
  · refine ⟨b, u, [], false, u, _, h, ?_, ?_, Pm.cut_miss u hm, ⟨hul, by simp, hul⟩, ?_, rfl, ?_, fun _ => rfl⟩
    · show (⟨(Lib.trimPrefix s.data.toList [45]).toArray⟩ : ByteArray) = _
      rw [← hle, trim_head, ← hu]; rfl
    · show Lib.hasPrefix s.data.toList [45] = _
      rw [← hle, has_head, ← hb]
    · rw [← hle, hlu, List.append_nil]
      clear hlu hu hle hb
      cases b
      · exact Pm.replace_miss _ hm
      · exact Pm.replace_miss _ (by simp; exact hm)
    · unfold Pm.parseM
      rw [← hle, ← hu, Pm.scan_miss u hm, ← hb]; rfl
  · subst hw
    refine ⟨b, wh, fr, true, _, _, h, ?_, ?_, Pm.cut_hit wh fr hm, ⟨by simp at hul; omega, by simp at hul; omega, hul⟩, ?_, rfl, ?_, fun e => by cases e⟩
    · show (⟨(Lib.trimPrefix s.data.toList [45]).toArray⟩ : ByteArray) = _
      rw [← hle, trim_head, ← hu]; rfl
    · show Lib.hasPrefix s.data.toList [45] = _
      rw [← hle, has_head, ← hb]
    · rw [← hle, hlu]
      clear hlu hu hle hb
      cases b
      · exact Pm.replace_hit wh fr hm
      · have := Pm.replace_hit (45 :: wh) fr (by simp; exact hm)
        simpa using this
    · unfold Pm.parseM
      rw [← hle, ← hu, Pm.scan_hit wh fr hm, ← hb]; rfl
end Go.Proofs.YtfnnhhhkdfgefaaGreatDoor
/- Package decimal: Parse. -/
namespace Go.Proofs.YtfnnhhhkdfgefaaGreatDoor
open Go.RowKit

theorem Apart.cp2 {s : ByteArray} {neg pt : Bool} {wh fr u r : List UInt8} (A : Apart s neg wh fr pt u r) (w : World) :
    Calls Tryz.prog 66 #[.string s, .string ⟨#[45]⟩] w fun e w' => e = .returned (.tuple #[.string (bstr u), .bool neg]) ∧ w = w' :=
  (Tryz.strings_CutPrefix s ⟨#[45]⟩ w).mono fun e w' ⟨he, hw⟩ => ⟨by rw [he, A.cp, A.has], hw.symm⟩
theorem Apart.cut2 {s : ByteArray} {neg pt : Bool} {wh fr u r : List UInt8} (A : Apart s neg wh fr pt u r) (w : World) (he : Env w) :
    Calls Tryz.prog 67 #[.string (bstr u), .string ⟨#[46]⟩] w fun e w' => e = .returned (.tuple #[.string (bstr wh), .string (bstr fr), .bool pt]) ∧ Below w.heap.size w w' := by
  obtain ⟨m, hm⟩ := he.mx
  refine (Tryz.strings_Cut _ ⟨#[46]⟩ m w (by rw [bstr_size]; have := A.len.2.2; omega) hm).mono ?_
  rintro e w' ⟨rfl, n, rfl⟩
  refine ⟨?_, below_n (Below.refl _ _) _⟩
  rw [bstr_data]
  show Ending.returned (.tuple #[.string ⟨(Lib.cut u [46]).1.toArray⟩, .string ⟨(Lib.cut u [46]).2.1.toArray⟩, .bool (Lib.cut u [46]).2.2]) = _
  rw [A.cut]; rfl
theorem count_le (s : ByteArray) : s.size + Lib.countB s ⟨#[46]⟩ * (⟨#[]⟩ : ByteArray).size = s.size := by
  show s.size + Lib.countB s ⟨#[46]⟩ * 0 = _; omega
theorem Apart.rep2 {s : ByteArray} {neg pt : Bool} {wh fr u r : List UInt8} (A : Apart s neg wh fr pt u r) (w : World) (he : Env w) :
    Calls Tryz.prog 70 #[.string s, .string ⟨#[46]⟩, .string ⟨#[]⟩, .int .i64 1] w fun e w' => e = .returned (.string (bstr r)) ∧ Below w.heap.size w w' := by
  obtain ⟨m, hm⟩ := he.mx
  refine (Tryz.strings_Replace s ⟨#[46]⟩ ⟨#[]⟩ 1 m w (by have := A.small; omega) hm (by decide) (by rw [count_le]; have := A.small; omega)).mono ?_
  rintro e w' ⟨rfl, hb⟩
  refine ⟨?_, hb⟩
  show Ending.returned (.string ⟨(Lib.replace s.data.toList [46] [] 1).toArray⟩) = _
  rw [A.rep]; rfl
theorem digB_iff (l : List UInt8) : digB l = true ↔ l ≠ [] ∧ Pm.allD l = true := by
  unfold digB; cases l <;> simp
/-- the plain outcome, branch by branch -/
theorem Apart.m1 {s : ByteArray} {neg pt : Bool} {wh fr u r : List UInt8} (A : Apart s neg wh fr pt u r) (h : digB wh = false) : Pm.parseM s.data.toList = (0, 0, false) := by
  have hn : ¬ (wh ≠ [] ∧ Pm.allD wh = true) := fun e => by rw [(digB_iff wh).2 e] at h; cases h
  rw [A.mod]
  cases pt
  · by_cases h1 : Pm.allD wh = true
    · have h0 : wh = [] := Decidable.byContradiction fun h0 => hn ⟨h0, h1⟩
      subst h0; simp [Pm.fin, h1]
    · simp [h1]
  · rw [if_pos rfl, if_neg (fun e => hn ⟨e.2.1, e.1⟩)]
theorem Apart.m2 {s : ByteArray} {neg pt : Bool} {wh fr u r : List UInt8} (A : Apart s neg wh fr pt u r) (h1 : 1 < wh.length) (h2 : wh.head? = some 48) : Pm.parseM s.data.toList = (0, 0, false) := by
  rw [A.mod]
  have hf : ∀ o, Pm.fin neg wh o = (0, 0, false) := by
    intro o; unfold Pm.fin
    have hc : wh.length = 0 ∨ 1 < wh.length ∧ wh.head? = some 48 := .inr ⟨h1, h2⟩
    simp only [if_pos hc, ite_self]
  cases pt
  · by_cases h3 : Pm.allD wh = true
    · simp [h3, hf]
    · simp [h3]
  · by_cases h3 : Pm.allD wh = true ∧ wh ≠ [] ∧ Pm.allD fr = true
    · rw [if_pos rfl, if_pos h3]; exact hf _
    · rw [if_pos rfl, if_neg h3]
theorem Apart.m3 {s : ByteArray} {neg : Bool} {wh fr u r : List UInt8} (A : Apart s neg wh fr true u r) (h : digB fr = false ∨ 6 < fr.length) : Pm.parseM s.data.toList = (0, 0, false) := by
  rw [A.mod]
  by_cases h3 : Pm.allD wh = true ∧ wh ≠ [] ∧ Pm.allD fr = true
  · rw [if_pos rfl, if_pos h3]
    show Pm.fin neg wh (some fr) = _
    unfold Pm.fin
    rw [if_pos]
    rcases h with h | h
    · have h0 : fr = [] := Decidable.byContradiction fun h0 => by rw [(digB_iff fr).2 ⟨h0, h3.2.2⟩] at h; cases h
      subst h0; rfl
    · simp [h]
  · rw [if_pos rfl, if_neg h3]
theorem Apart.good {s : ByteArray} {neg pt : Bool} {wh fr u r : List UInt8} (A : Apart s neg wh fr pt u r) (h1 : digB wh = true) (h2 : ¬ (1 < wh.length ∧ wh.head? = some 48)) (h3 : pt = true → digB fr = true ∧ fr.length ≤ 6) :
    Pm.parseM s.data.toList = (if Pm.inR neg (Pm.val (wh ++ fr)) = true ∧ ¬ (neg = true ∧ Pm.val (wh ++ fr) = 0) then (Pm.sgn neg (Pm.val (wh ++ fr)), (fr.length : Int), true) else (0, 0, false)) ∧
    Lib.atoiAll r = (if Pm.inR neg (Pm.val (wh ++ fr)) then .ok (Pm.sgn neg (Pm.val (wh ++ fr))) else .range) := by
  obtain ⟨hw0, hwD⟩ := (digB_iff wh).1 h1
  have hlen : ¬ (wh.length = 0 ∨ 1 < wh.length ∧ wh.head? = some 48) := by
    rintro (e | e)
    · exact hw0 (List.eq_nil_of_length_eq_zero e)
    · exact h2 e
  have hfD : Pm.allD fr = true := by
    cases pt
    · rw [A.fr0 rfl]; rfl
    · exact ((digB_iff fr).1 (h3 rfl).1).2
  refine ⟨?_, ?_⟩
  · rw [A.mod]
    cases pt
    · have hf := A.fr0 rfl
      subst hf
      rw [if_neg (by decide), if_pos hwD]
      show Pm.fin neg wh none = _
      unfold Pm.fin
      rw [if_neg (by decide), if_neg hlen]
      rfl
    · obtain ⟨hf1, hf2⟩ := h3 rfl
      have hf0 : fr ≠ [] := ((digB_iff fr).1 hf1).1
      rw [if_pos rfl, if_pos ⟨hwD, hw0, hfD⟩]
      show Pm.fin neg wh (some fr) = _
      unfold Pm.fin
      rw [if_neg, if_neg hlen]
      · rfl
      · have : fr.length ≠ 0 := fun e => hf0 (List.eq_nil_of_length_eq_zero e)
        simp only [Bool.or_eq_true, decide_eq_true_eq]; omega
  · rw [A.req]
    exact Pm.atoi_digits neg (wh ++ fr) (by simp [hw0]) (by unfold Pm.allD at *; rw [List.all_append, hwD, hfD]; rfl)
theorem zero_head (l : List UInt8) (h : 0 < (bstr l).size) : ((bstr l)[0].toNat = 48) ↔ l.head? = some 48 := by
  cases l with
  | nil => simp [bstr_size] at h
  | cons c r =>
    have e : (bstr (c :: r))[0] = c := rfl
    rw [e]
    simp
    constructor
    · intro h; exact UInt8.toNat_inj.1 h
    · intro h; rw [h]; rfl
set_option maxRecDepth 100000 in
set_option maxHeartbeats 1000000 in
theorem dec_parse_1 (s : ByteArray) (neg : Bool) (wh fr : List UInt8) (pt : Bool) (u r : List UInt8) (w : World) (he : Env w) (A : Apart s neg wh fr pt u r) (hd : digB wh = false) :
    Calls Tryz.prog 49 #[.string s] w (Par (Pm.parseM s.data.toList) w) := by
  have hm := A.m1 hd
  obtain ⟨PL, hPL⟩ : ∃ PL, PL = Pm.parseM s.data.toList := ⟨_, rfl⟩
  rw [← hPL] at hm ⊢
  clear hPL
  have HM := Lib.hid hm
  have HE := Lib.hid he
  have HA := Lib.hid A
  have hl := A.len.1
  have hl2 := A.len.2.1
  clear hm he A
  have HD := Lib.hid hd
  clear hd
  go_enter Tryz.func49, Tryz.ntmps49
  go_wp2_with fail
  refine (HA.out.cp2 _).mono ?_
  rintro e w' ⟨rfl, rfl⟩
  go_wp2_with fail
  refine (HA.out.cut2 _ HE.out).mono ?_
  rintro e w1 ⟨rfl, hb⟩
  have HB := Lib.hid hb
  have HE1 := Lib.hid (HE.out.keep hb)
  clear hb HE
  go_wp2_with fail
  refine (dec_digits (bstr wh) _ (by rw [bstr_size]; omega)).mono ?_
  rintro e w2 ⟨rfl, rfl⟩
  rw [bstr_data, HD.out]
  go_wp2
  go_ret3
  exact ⟨by rw [HM.out]; rfl, HB.out⟩
set_option maxRecDepth 100000 in
set_option maxHeartbeats 1000000 in
theorem dec_parse_2 (s : ByteArray) (neg : Bool) (wh fr : List UInt8) (pt : Bool) (u r : List UInt8) (w : World) (he : Env w) (A : Apart s neg wh fr pt u r) (hd : digB wh = true) (h1 : 1 < wh.length) (h2 : wh.head? = some 48) :
    Calls Tryz.prog 49 #[.string s] w (Par (Pm.parseM s.data.toList) w) := by
  have hm := A.m2 h1 h2
  obtain ⟨PL, hPL⟩ : ∃ PL, PL = Pm.parseM s.data.toList := ⟨_, rfl⟩
  rw [← hPL] at hm ⊢
  clear hPL
  have HM := Lib.hid hm
  have HE := Lib.hid he
  have HA := Lib.hid A
  have hl := A.len.1
  have hl2 := A.len.2.1
  clear hm he A
  have HD := Lib.hid hd
  clear hd
  go_enter Tryz.func49, Tryz.ntmps49
  go_wp2_with fail
  refine (HA.out.cp2 _).mono ?_
  rintro e w' ⟨rfl, rfl⟩
  go_wp2_with fail
  refine (HA.out.cut2 _ HE.out).mono ?_
  rintro e w1 ⟨rfl, hb⟩
  have HB := Lib.hid hb
  have HE1 := Lib.hid (HE.out.keep hb)
  clear hb HE
  go_wp2_with fail
  refine (dec_digits (bstr wh) _ (by rw [bstr_size]; omega)).mono ?_
  rintro e w2 ⟨rfl, rfl⟩
  rw [bstr_data, HD.out]
  obtain ⟨W, hW⟩ : ∃ W, W = bstr wh := ⟨_, rfl⟩
  have hWz : W.size = wh.length := by rw [hW, bstr_size]
  have hWh : ∀ h : 0 < W.size, (W[0].toNat = 48) ↔ wh.head? = some 48 := by subst hW; exact zero_head wh
  rw [← hW]
  have i1 : (1 : Int) < (W.size : Int) := by omega
  have i0 : 0 < W.size := by omega
  have i2 : ((W[0].toNat : Int) == 48) = true := by simp; have := (hWh i0).2 h2; omega
  clear hWh hWz hW h1 h2
  go_wp2
  go_ret3
  exact ⟨by rw [HM.out]; rfl, HB.out⟩
set_option maxRecDepth 100000 in
set_option maxHeartbeats 1000000 in
theorem dec_parse_3a (s : ByteArray) (neg : Bool) (wh fr : List UInt8) (pt : Bool) (u r : List UInt8) (w : World) (he : Env w) (A : Apart s neg wh fr pt u r) (hd : digB wh = true) (hlen : wh.length ≤ 1) (hp : pt = true) (hf : digB fr = false) :
    Calls Tryz.prog 49 #[.string s] w (Par (Pm.parseM s.data.toList) w) := by
  subst hp
  have hm := A.m3 (.inl hf)
  obtain ⟨PL, hPL⟩ : ∃ PL, PL = Pm.parseM s.data.toList := ⟨_, rfl⟩
  rw [← hPL] at hm ⊢
  clear hPL
  have HM := Lib.hid hm
  have HE := Lib.hid he
  have HA := Lib.hid A
  have hl := A.len.1
  have hl2 := A.len.2.1
  clear hm he A
  have HF := Lib.hid hf
  clear hf
  have HD := Lib.hid hd
  clear hd
  go_enter Tryz.func49, Tryz.ntmps49
  go_wp2_with fail
  refine (HA.out.cp2 _).mono ?_
  rintro e w' ⟨rfl, rfl⟩
  go_wp2_with fail
  refine (HA.out.cut2 _ HE.out).mono ?_
  rintro e w1 ⟨rfl, hb⟩
  have HB := Lib.hid hb
  have HE1 := Lib.hid (HE.out.keep hb)
  clear hb HE
  go_wp2_with fail
  refine (dec_digits (bstr wh) _ (by rw [bstr_size]; omega)).mono ?_
  rintro e w2 ⟨rfl, rfl⟩
  rw [bstr_data, HD.out]
  obtain ⟨W, hW⟩ : ∃ W, W = bstr wh := ⟨_, rfl⟩
  have hWz : W.size = wh.length := by rw [hW, bstr_size]
  have hWh : ∀ h : 0 < W.size, (W[0].toNat = 48) ↔ wh.head? = some 48 := by subst hW; exact zero_head wh
  rw [← hW]
  have i1 : (W.size : Int) ≤ 1 := by omega
  clear hWh hWz hW hlen
  go_wp2_with fail
  refine (dec_digits (bstr fr) _ (by rw [bstr_size]; omega)).mono ?_
  rintro e w2 ⟨rfl, rfl⟩
  rw [bstr_data, HF.out]
  go_wp2
  go_ret3
  exact ⟨by rw [HM.out]; rfl, HB.out⟩
set_option maxRecDepth 100000 in
set_option maxHeartbeats 1000000 in
theorem dec_parse_4a (s : ByteArray) (neg : Bool) (wh fr : List UInt8) (pt : Bool) (u r : List UInt8) (w : World) (he : Env w) (A : Apart s neg wh fr pt u r) (hd : digB wh = true) (hlen : wh.length ≤ 1) (hp : pt = true) (hf : digB fr = true) (hf6 : 6 < fr.length) :
    Calls Tryz.prog 49 #[.string s] w (Par (Pm.parseM s.data.toList) w) := by
  subst hp
  have hm := A.m3 (.inr hf6)
  obtain ⟨PL, hPL⟩ : ∃ PL, PL = Pm.parseM s.data.toList := ⟨_, rfl⟩
  rw [← hPL] at hm ⊢
  clear hPL
  have HM := Lib.hid hm
  have HE := Lib.hid he
  have HA := Lib.hid A
  have hl := A.len.1
  have hl2 := A.len.2.1
  clear hm he A
  have HF := Lib.hid hf
  have HS : Hid (scB (fr.length : Int) = false) := by show _ = _; simp [scB]; omega
  clear hf hf6
  have HD := Lib.hid hd
  clear hd
  go_enter Tryz.func49, Tryz.ntmps49
  go_wp2_with fail
  refine (HA.out.cp2 _).mono ?_
  rintro e w' ⟨rfl, rfl⟩
  go_wp2_with fail
  refine (HA.out.cut2 _ HE.out).mono ?_
  rintro e w1 ⟨rfl, hb⟩
  have HB := Lib.hid hb
  have HE1 := Lib.hid (HE.out.keep hb)
  clear hb HE
  go_wp2_with fail
  refine (dec_digits (bstr wh) _ (by rw [bstr_size]; omega)).mono ?_
  rintro e w2 ⟨rfl, rfl⟩
  rw [bstr_data, HD.out]
  obtain ⟨W, hW⟩ : ∃ W, W = bstr wh := ⟨_, rfl⟩
  have hWz : W.size = wh.length := by rw [hW, bstr_size]
  have hWh : ∀ h : 0 < W.size, (W[0].toNat = 48) ↔ wh.head? = some 48 := by subst hW; exact zero_head wh
  rw [← hW]
  have i1 : (W.size : Int) ≤ 1 := by omega
  clear hWh hWz hW hlen
  go_wp2_with fail
  refine (dec_digits (bstr fr) _ (by rw [bstr_size]; omega)).mono ?_
  rintro e w2 ⟨rfl, rfl⟩
  rw [bstr_data, HF.out]
  go_wp2_with fail
  rw [bstr_size]
  refine (dec_right (fr.length : Int) _).mono ?_
  rintro e w2 ⟨rfl, rfl⟩
  rw [HS.out]
  go_wp2
  go_ret3
  exact ⟨by rw [HM.out]; rfl, HB.out⟩
set_option maxRecDepth 100000 in
set_option maxHeartbeats 1000000 in
theorem dec_parse_3b (s : ByteArray) (neg : Bool) (wh fr : List UInt8) (pt : Bool) (u r : List UInt8) (w : World) (he : Env w) (A : Apart s neg wh fr pt u r) (hd : digB wh = true) (hlen : 1 < wh.length) (hh : wh.head? ≠ some 48) (hp : pt = true) (hf : digB fr = false) :
    Calls Tryz.prog 49 #[.string s] w (Par (Pm.parseM s.data.toList) w) := by
  subst hp
  have hm := A.m3 (.inl hf)
  obtain ⟨PL, hPL⟩ : ∃ PL, PL = Pm.parseM s.data.toList := ⟨_, rfl⟩
  rw [← hPL] at hm ⊢
  clear hPL
  have HM := Lib.hid hm
  have HE := Lib.hid he
  have HA := Lib.hid A
  have hl := A.len.1
  have hl2 := A.len.2.1
  clear hm he A
  have HF := Lib.hid hf
  clear hf
  have HD := Lib.hid hd
  clear hd
  go_enter Tryz.func49, Tryz.ntmps49
  go_wp2_with fail
  refine (HA.out.cp2 _).mono ?_
  rintro e w' ⟨rfl, rfl⟩
  go_wp2_with fail
  refine (HA.out.cut2 _ HE.out).mono ?_
  rintro e w1 ⟨rfl, hb⟩
  have HB := Lib.hid hb
  have HE1 := Lib.hid (HE.out.keep hb)
  clear hb HE
  go_wp2_with fail
  refine (dec_digits (bstr wh) _ (by rw [bstr_size]; omega)).mono ?_
  rintro e w2 ⟨rfl, rfl⟩
  rw [bstr_data, HD.out]
  obtain ⟨W, hW⟩ : ∃ W, W = bstr wh := ⟨_, rfl⟩
  have hWz : W.size = wh.length := by rw [hW, bstr_size]
  have hWh : ∀ h : 0 < W.size, (W[0].toNat = 48) ↔ wh.head? = some 48 := by subst hW; exact zero_head wh
  rw [← hW]
  have i1 : (1 : Int) < (W.size : Int) := by omega
  have i0 : 0 < W.size := by omega
  have i2 : ((W[0].toNat : Int) == 48) = false := by simp; intro e; exact hh ((hWh i0).1 (by omega))
  clear hWh hWz hW hlen hh
  go_wp2_with fail
  refine (dec_digits (bstr fr) _ (by rw [bstr_size]; omega)).mono ?_
  rintro e w2 ⟨rfl, rfl⟩
  rw [bstr_data, HF.out]
  go_wp2
  go_ret3
  exact ⟨by rw [HM.out]; rfl, HB.out⟩
set_option maxRecDepth 100000 in
set_option maxHeartbeats 1000000 in
theorem dec_parse_4b (s : ByteArray) (neg : Bool) (wh fr : List UInt8) (pt : Bool) (u r : List UInt8) (w : World) (he : Env w) (A : Apart s neg wh fr pt u r) (hd : digB wh = true) (hlen : 1 < wh.length) (hh : wh.head? ≠ some 48) (hp : pt = true) (hf : digB fr = true) (hf6 : 6 < fr.length) :
    Calls Tryz.prog 49 #[.string s] w (Par (Pm.parseM s.data.toList) w) := by
  subst hp
  have hm := A.m3 (.inr hf6)
  obtain ⟨PL, hPL⟩ : ∃ PL, PL = Pm.parseM s.data.toList := ⟨_, rfl⟩
  rw [← hPL] at hm ⊢
  clear hPL
  have HM := Lib.hid hm
  have HE := Lib.hid he
  have HA := Lib.hid A
  have hl := A.len.1
  have hl2 := A.len.2.1
  clear hm he A
  have HF := Lib.hid hf
  have HS : Hid (scB (fr.length : Int) = false) := by show _ = _; simp [scB]; omega
  clear hf hf6
  have HD := Lib.hid hd
  clear hd
  go_enter Tryz.func49, Tryz.ntmps49
  go_wp2_with fail
  refine (HA.out.cp2 _).mono ?_
  rintro e w' ⟨rfl, rfl⟩
  go_wp2_with fail
  refine (HA.out.cut2 _ HE.out).mono ?_
  rintro e w1 ⟨rfl, hb⟩
  have HB := Lib.hid hb
  have HE1 := Lib.hid (HE.out.keep hb)
  clear hb HE
  go_wp2_with fail
  refine (dec_digits (bstr wh) _ (by rw [bstr_size]; omega)).mono ?_
  rintro e w2 ⟨rfl, rfl⟩
  rw [bstr_data, HD.out]
  obtain ⟨W, hW⟩ : ∃ W, W = bstr wh := ⟨_, rfl⟩
  have hWz : W.size = wh.length := by rw [hW, bstr_size]
  have hWh : ∀ h : 0 < W.size, (W[0].toNat = 48) ↔ wh.head? = some 48 := by subst hW; exact zero_head wh
  rw [← hW]
  have i1 : (1 : Int) < (W.size : Int) := by omega
  have i0 : 0 < W.size := by omega
  have i2 : ((W[0].toNat : Int) == 48) = false := by simp; intro e; exact hh ((hWh i0).1 (by omega))
  clear hWh hWz hW hlen hh
  go_wp2_with fail
  refine (dec_digits (bstr fr) _ (by rw [bstr_size]; omega)).mono ?_
  rintro e w2 ⟨rfl, rfl⟩
  rw [bstr_data, HF.out]
  go_wp2_with fail
  rw [bstr_size]
  refine (dec_right (fr.length : Int) _).mono ?_
  rintro e w2 ⟨rfl, rfl⟩
  rw [HS.out]
  go_wp2
  go_ret3
  exact ⟨by rw [HM.out]; rfl, HB.out⟩
end Go.Proofs.YtfnnhhhkdfgefaaGreatDoor
