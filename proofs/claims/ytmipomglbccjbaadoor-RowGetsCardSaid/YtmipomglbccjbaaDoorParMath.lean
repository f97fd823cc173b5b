/- The texts of decimals, in plain words: how a text is gone through, and what it spells. No program is named here. -/
import Derived.Lib.Replace
import Derived.Lib.IndexMore
import Derived.Lib.AtoiAllCases
import Derived.Lib.Strings
namespace Go.Proofs.YtmipomglbccjbaaDoor.Pm

def isD (c : UInt8) : Bool := decide (48 ≤ c.toNat) && decide (c.toNat ≤ 57)
def allD (l : List UInt8) : Bool := l.all isD
def valA (acc : Nat) (l : List UInt8) : Nat := l.foldl (fun a c => a * 10 + (c.toNat - 48)) acc
def val (l : List UInt8) : Nat := valA 0 l
/-- going through a text: the digits ahead of the point; the point, if any, with the digits behind it -/
def scan : List UInt8 → Option (List UInt8) → List UInt8 → Option (List UInt8 × Option (List UInt8))
  | D, o, [] => some (D, o)
  | D, none, c :: r => if c = 46 ∧ D ≠ [] then scan D (some []) r else if isD c then scan (D ++ [c]) none r else none
  | D, some E, c :: r => if isD c then scan D (some (E ++ [c])) r else none
theorem isD_46 : isD 46 = false := by decide
theorem scan_digits : ∀ (r D : List UInt8) (s : List UInt8), allD r = true → scan D none (r ++ s) = scan (D ++ r) none s := by
  intro r
  induction r with
  | nil => intro D s _; simp
  | cons c r ih =>
    intro D s h
    have hc : isD c = true := by simp [allD] at h; exact h.1
    have hr : allD r = true := by simp [allD] at h ⊢; exact h.2
    have hn : ¬ (c = 46 ∧ D ≠ []) := fun h => by rw [h.1, isD_46] at hc; cases hc
    rw [List.cons_append, scan, if_neg hn, if_pos hc, ih _ _ hr]
    simp
theorem scan_bad : ∀ (r D : List UInt8) (s : List UInt8), allD r = false → (46 : UInt8) ∉ r → scan D none (r ++ s) = none := by
  intro r
  induction r with
  | nil => intro D s h; simp [allD] at h
  | cons c r ih =>
    intro D s h h46
    have hc46 : c ≠ 46 := fun e => h46 (by rw [e]; exact List.mem_cons_self)
    rw [List.cons_append, scan, if_neg (fun h => hc46 h.1)]
    by_cases hc : isD c = true
    · rw [if_pos hc]
      refine ih _ _ ?_ (fun hm => h46 (List.mem_cons_of_mem _ hm))
      simp [allD, hc] at h ⊢; exact h
    · rw [if_neg hc]
theorem scan_behind : ∀ (r D E : List UInt8), scan D (some E) r = if allD r then some (D, some (E ++ r)) else none := by
  intro r
  induction r with
  | nil => intro D E; simp [scan, allD]
  | cons c r ih =>
    intro D E
    rw [scan]
    by_cases hc : isD c = true
    · rw [if_pos hc, ih]; simp [allD, hc]
    · rw [if_neg hc]; simp [allD, hc]
/-- a text with a point, and one without -/
theorem scan_hit (wh fr : List UInt8) (h : (46 : UInt8) ∉ wh) : scan [] none (wh ++ 46 :: fr) = if allD wh = true ∧ wh ≠ [] ∧ allD fr = true then some (wh, some fr) else none := by
  by_cases hw : allD wh = true
  · rw [scan_digits wh [] _ hw, List.nil_append, scan]
    by_cases h0 : wh = []
    · rw [if_neg (fun h => h.2 h0), isD_46]; simp [h0]
    · rw [if_pos ⟨rfl, h0⟩, scan_behind]; simp [hw, h0]
  · rw [scan_bad wh [] _ (by simpa using hw) h]; simp [hw]
theorem scan_miss (wh : List UInt8) (h : (46 : UInt8) ∉ wh) : scan [] none wh = if allD wh = true then some (wh, none) else none := by
  by_cases hw : allD wh = true
  · have := scan_digits wh [] [] hw
    rw [List.append_nil] at this
    rw [this, if_pos hw]; simp [scan]
  · have := scan_bad wh [] [] (by simpa using hw) h
    rw [List.append_nil] at this
    rw [this, if_neg hw]
theorem parted : ∀ u : List UInt8, (46 : UInt8) ∉ u ∨ ∃ wh fr, u = wh ++ 46 :: fr ∧ (46 : UInt8) ∉ wh := by
  intro u
  induction u with
  | nil => left; simp
  | cons c r ih =>
    by_cases h : c = 46
    · right; exact ⟨[], r, by rw [h]; rfl, by simp⟩
    · rcases ih with h1 | ⟨wh, fr, rfl, h2⟩
      · left; simp; exact ⟨fun e => h e.symm, h1⟩
      · right; exact ⟨c :: wh, fr, rfl, by simp; exact ⟨fun e => h e.symm, h2⟩⟩
theorem index_hit : ∀ (wh fr : List UInt8), (46 : UInt8) ∉ wh → Lib.index (wh ++ 46 :: fr) [46] = (wh.length : Int) := by
  intro wh
  induction wh with
  | nil => intro fr _; simp [Lib.index, List.isPrefixOf]
  | cons c r ih =>
    intro fr h
    have hc : c ≠ 46 := fun e => h (by rw [e]; exact List.mem_cons_self)
    have hp : List.isPrefixOf [46] (c :: (r ++ 46 :: fr)) = false := by simp [List.isPrefixOf]; exact fun e => hc e.symm
    rw [List.cons_append, Lib.index, hp, ih fr (fun hm => h (List.mem_cons_of_mem _ hm))]
    have : ((r.length : Int) == -1) = false := by rw [beq_eq_false_iff_ne]; omega
    rw [this]; simp
theorem index_miss : ∀ (u : List UInt8), (46 : UInt8) ∉ u → Lib.index u [46] = -1 := by
  intro u
  induction u with
  | nil => intro _; rfl
  | cons c r ih =>
    intro h
    have hc : c ≠ 46 := fun e => h (by rw [e]; exact List.mem_cons_self)
    have hp : List.isPrefixOf [46] (c :: r) = false := by simp [List.isPrefixOf]; exact fun e => hc e.symm
    rw [Lib.index, hp, ih (fun hm => h (List.mem_cons_of_mem _ hm))]; rfl
theorem cut_hit (wh fr : List UInt8) (h : (46 : UInt8) ∉ wh) : Lib.cut (wh ++ 46 :: fr) [46] = (wh, fr, true) := by
  unfold Lib.cut
  rw [index_hit wh fr h, if_pos (by omega), Int.toNat_natCast]
  simp
theorem cut_miss (u : List UInt8) (h : (46 : UInt8) ∉ u) : Lib.cut u [46] = (u, [], false) := by
  unfold Lib.cut
  rw [index_miss u h, if_neg (by omega)]
theorem replaceK_miss (k : Nat) (u : List UInt8) (h : (46 : UInt8) ∉ u) : Lib.replaceK [46] [] k u = u := by
  cases k with
  | zero => rfl
  | succ k => rw [Lib.replaceK, index_miss u h]; rfl
theorem replace_hit (wh fr : List UInt8) (h : (46 : UInt8) ∉ wh) : Lib.replace (wh ++ 46 :: fr) [46] [] 1 = wh ++ fr := by
  have hc : 1 ≤ Lib.count (wh ++ 46 :: fr) [46] := by
    unfold Lib.count
    cases hn : (wh ++ 46 :: fr).length with
    | zero => simp at hn
    | succ n =>
      rw [Lib.countFrom, index_hit wh fr h]
      have : ((wh.length : Int) == -1) = false := by rw [beq_eq_false_iff_ne]; omega
      rw [this]; simp
  unfold Lib.replace Lib.replaceNum
  rw [if_neg (by decide), if_neg (by omega)]
  show Lib.replaceK [46] [] 1 _ = _
  rw [Lib.replaceK_hit _ _ _ _ _ (index_hit wh fr h)]
  simp [Lib.replaceK]
theorem replace_miss (u : List UInt8) (h : (46 : UInt8) ∉ u) : Lib.replace u [46] [] 1 = u := by
  unfold Lib.replace
  rw [if_neg (by decide), replaceK_miss _ u h]
theorem valA_cons (acc : Nat) (c : UInt8) (r : List UInt8) : valA acc (c :: r) = valA (acc * 10 + (c.toNat - 48)) r := by unfold valA; rw [List.foldl_cons]
theorem valA_ge : ∀ (l : List UInt8) (acc : Nat), acc ≤ valA acc l := by
  intro l
  induction l with
  | nil => intro acc; exact Nat.le_refl _
  | cons c r ih => intro acc; rw [valA_cons]; have := ih (acc * 10 + (c.toNat - 48)); omega
theorem val_snoc (l : List UInt8) (c : UInt8) : val (l ++ [c]) = val l * 10 + (c.toNat - 48) := by simp [val, valA]
theorem isD_iff (c : UInt8) : isD c = true ↔ 48 ≤ c.toNat ∧ c.toNat ≤ 57 := by simp [isD]
theorem val_lt : ∀ (n : Nat) (l : List UInt8), l.length = n → allD l = true → val l < 10 ^ n := by
  intro n
  induction n with
  | zero => intro l h _; have e : l = [] := List.eq_nil_of_length_eq_zero h; subst e; simp [val, valA]
  | succ n ih =>
    intro l h hD
    obtain ⟨r, c, rfl⟩ : ∃ r c, l = r ++ [c] := ⟨l.dropLast, l.getLast (by intro e; subst e; simp at h), (List.dropLast_concat_getLast _).symm⟩
    simp [allD] at hD
    have hc := (isD_iff c).1 hD.2
    have hr := ih r (by simpa using h) (by simp [allD]; exact hD.1)
    rw [val_snoc, Nat.pow_succ]
    omega
theorem parse10 : ∀ (l : List UInt8) (acc : Nat), allD l = true → acc < 18446744073709551616 →
    Lib.parseUint10 acc l = if valA acc l < 18446744073709551616 then .ok (valA acc l) else .range := by
  intro l
  induction l with
  | nil => intro acc _ h; rw [Lib.parseUint10, if_pos (show valA acc [] < _ from h)]; rfl
  | cons c r ih =>
    intro acc hD h
    have hc : isD c = true := by simp [allD] at hD; exact hD.1
    have hr : allD r = true := by simp [allD] at hD ⊢; exact hD.2
    have hc' := (isD_iff c).1 hc
    rw [Lib.parseUint10, if_pos hc', valA_cons]
    have hge := valA_ge r (acc * 10 + (c.toNat - 48))
    by_cases h1 : 1844674407370955162 ≤ acc
    · rw [if_pos h1, if_neg (by omega)]
    · rw [if_neg h1]
      by_cases h2 : 18446744073709551616 ≤ acc * 10 + (c.toNat - 48)
      · rw [if_pos h2, if_neg (by omega)]
      · rw [if_neg h2, ih _ hr (by omega)]
theorem mag10 (l : List UInt8) (hne : l ≠ []) (hD : allD l = true) : Lib.parseMag l = if val l < 18446744073709551616 then .ok (val l) else .range := by
  unfold Lib.parseMag
  rw [if_neg hne, parse10 l 0 hD (by omega)]; rfl
/-- what a text spells: with or without a sign -/
def inR (neg : Bool) (V : Nat) : Bool := if neg then decide (V ≤ 9223372036854775808) else decide (V ≤ 9223372036854775807)
def sgn (neg : Bool) (V : Nat) : Int := if neg then -(V : Int) else (V : Int)
theorem atoi_digits (neg : Bool) (l : List UInt8) (hne : l ≠ []) (hD : allD l = true) :
    Lib.atoiAll (if neg then 45 :: l else l) = if inR neg (val l) then .ok (sgn neg (val l)) else .range := by
  cases neg
  · obtain ⟨c, r, rfl⟩ : ∃ c r, l = c :: r := List.exists_cons_of_ne_nil hne
    have hc : isD c = true := by simp [allD] at hD; exact hD.1
    have hc' := (isD_iff c).1 hc
    show Lib.atoiAll (c :: r) = _
    rw [Lib.atoiAll_plain c r (by omega) (by omega), mag10 _ hne hD]
    unfold inR sgn Lib.signless
    by_cases h1 : val (c :: r) < 18446744073709551616
    · rw [if_pos h1]
      by_cases h2 : val (c :: r) ≤ 9223372036854775807
      · simp [h2]; omega
      · simp [h2]; omega
    · rw [if_neg h1]; simp; omega
  · show Lib.atoiAll (45 :: l) = _
    rw [Lib.atoiAll_minus, mag10 _ hne hD]
    unfold inR sgn Lib.signed
    by_cases h1 : val l < 18446744073709551616
    · rw [if_pos h1]
      by_cases h2 : val l ≤ 9223372036854775808
      · simp [h2]
      · simp [h2]
    · rw [if_neg h1]; simp; omega
/-- what Parse answers, once the text is gone through -/
def fin (neg : Bool) (D : List UInt8) (o : Option (List UInt8)) : Int × Int × Bool :=
  if (match o with | none => false | some E => decide (E.length = 0) || decide (6 < E.length)) then (0, 0, false)
  else if (D.length = 0 ∨ 1 < D.length ∧ D.head? = some 48) then (0, 0, false)
  else if inR neg (val (D ++ o.getD [])) = true ∧ ¬ (neg = true ∧ val (D ++ o.getD []) = 0) then (sgn neg (val (D ++ o.getD [])), ((o.getD []).length : Int), true)
  else (0, 0, false)
/-- Parse in plain words -/
def parseM (l : List UInt8) : Int × Int × Bool :=
  match scan [] none (if l.head? = some 45 then l.drop 1 else l) with
  | none => (0, 0, false)
  | some (D, o) => fin (decide (l.head? = some 45)) D o
end Go.Proofs.YtmipomglbccjbaaDoor.Pm
