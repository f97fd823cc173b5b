/- Parse by guessing and printing again, in plain words. -/
import Derived.Test.YtpbmjknhfgdnnaaGreatDoorValMm
namespace Go.Proofs.YtpbmjknhfgdnnaaGreatDoor.Vm

/-- what stands between the first and the last character, if both are apostrophes -/
def unq (l : List UInt8) : Option (List UInt8) := if l.head? = some 39 ∧ (l.drop 1).getLast? = some 39 then some (l.drop 1).dropLast else none
/-- two apostrophes made one -/
def half : List UInt8 → List UInt8
  | [] => []
  | [c] => [c]
  | c :: d :: r => if c = 39 ∧ d = 39 then 39 :: half r else c :: half (d :: r)
def guessBytes (l : List UInt8) : Cl :=
  match unq l with
  | none => nil
  | some h => if h.length % 2 ≠ 0 ∨ 400 < h.length then nil else (match unhex h with | none => nil | some t => ⟨5, 0, 0, ⟨t.toArray⟩⟩)
def guessNum (l : List UInt8) : Cl :=
  if l.getLast? = some 46 then
    (if (Pm.parseM l.dropLast).2.2 = true then ⟨3, (Pm.parseM l.dropLast).1, (Pm.parseM l.dropLast).2.1, ⟨#[]⟩⟩ else nil)
  else if (Pm.parseM l).2.2 = true then (if (Pm.parseM l).2.1 = 0 then ⟨2, (Pm.parseM l).1, 0, ⟨#[]⟩⟩ else ⟨3, (Pm.parseM l).1, (Pm.parseM l).2.1, ⟨#[]⟩⟩)
  else nil
def guess (l : List UInt8) : Cl :=
  if l = [84, 82, 85, 69] then ⟨1, 1, 0, ⟨#[]⟩⟩
  else if l = [70, 65, 76, 83, 69] then ⟨1, 0, 0, ⟨#[]⟩⟩
  else match unq l with
    | some t => ⟨4, 0, 0, ⟨(half t).toArray⟩⟩
    | none => if l.head? = some 88 then guessBytes (l.drop 1) else guessNum l

theorem half_esc : ∀ (t u : List UInt8), unesc t = some u → half t = u ∧ esc u = t
  | [], u, h => by simp [unesc] at h; subst h; exact ⟨rfl, rfl⟩
  | [c], u, h => by
    simp only [unesc] at h
    split at h
    · cases h
    · rename_i hc
      simp at h; subst h
      exact ⟨rfl, by simp [esc, hc]⟩
  | c :: d :: r, u, h => by
    simp only [unesc] at h
    by_cases hc : c = 39
    · rw [if_pos hc] at h
      by_cases hd : d = 39
      · rw [if_pos hd] at h
        cases hu : unesc r with
        | none => rw [hu] at h; cases h
        | some v =>
          rw [hu] at h
          simp at h; subst h
          obtain ⟨i1, i2⟩ := half_esc r v hu
          refine ⟨?_, ?_⟩
          · rw [half, if_pos ⟨hc, hd⟩, i1]
          · rw [esc, if_pos rfl, i2, hc, hd]
      · rw [if_neg hd] at h; cases h
    · rw [if_neg hc] at h
      cases hu : unesc (d :: r) with
      | none => rw [hu] at h; cases h
      | some v =>
        rw [hu] at h
        simp at h; subst h
        obtain ⟨i1, i2⟩ := half_esc (d :: r) v hu
        refine ⟨?_, ?_⟩
        · rw [half, if_neg (fun e => hc e.1), i1]
        · rw [esc, if_neg hc, i2]
theorem hexd_unhexd (c : UInt8) (n : Nat) (h : unhexd c = some n) : hexd n = c ∧ n < 16 := by
  have : ∀ c : Fin 256, ∀ n, unhexd (UInt8.ofNat c.val) = some n → hexd n = UInt8.ofNat c.val ∧ n < 16 := by
    intro c n
    have key : ∀ c : Fin 256, (match unhexd (UInt8.ofNat c.val) with | none => true | some n => decide (hexd n = UInt8.ofNat c.val) && decide (n < 16)) = true := by decide +kernel
    intro h
    have k := key c
    rw [h] at k
    simpa using k
  have h2 := this ⟨c.toNat, c.toNat_lt⟩ n
  rw [show UInt8.ofNat (⟨c.toNat, c.toNat_lt⟩ : Fin 256).val = c from UInt8.ofNat_toNat] at h2
  exact h2 h
theorem hex_unhex : ∀ (l t : List UInt8), unhex l = some t → hex t = l ∧ l.length = 2 * t.length
  | [], t, h => by simp [unhex] at h; subst h; exact ⟨rfl, rfl⟩
  | [_], t, h => by simp [unhex] at h
  | a :: b :: r, t, h => by
    rw [unhex] at h
    cases ha : unhexd a with
    | none => rw [ha] at h; simp at h
    | some x =>
      cases hb : unhexd b with
      | none => rw [ha, hb] at h; simp at h
      | some y =>
        cases hr : unhex r with
        | none => rw [ha, hb, hr] at h; simp at h
        | some v =>
          rw [ha, hb, hr] at h
          have h := Option.some.inj h; subst h
          obtain ⟨x1, x2⟩ := hexd_unhexd a x ha
          obtain ⟨y1, y2⟩ := hexd_unhexd b y hb
          obtain ⟨r1, r2⟩ := hex_unhex r v hr
          have e : (UInt8.ofNat (16 * x + y)).toNat = 16 * x + y := by simp; omega
          refine ⟨?_, by simp only [List.length_cons]; omega⟩
          rw [hex, e, show (16 * x + y) / 16 = x by omega, show (16 * x + y) % 16 = y by omega, x1, y1, r1]
theorem inner_unq (l t : List UInt8) (h : inner l = some t) : ∃ u, unq l = some u ∧ unesc u = some t ∧ l = 39 :: (u ++ [39]) := by
  unfold inner at h
  split at h
  · cases h
  · rename_i hh
    have h1 : 2 ≤ l.length := by omega
    have h2 : l.head? = some 39 := by by_cases e : l.head? = some 39; exact e; exact absurd (.inr (.inl e)) hh
    have h3 : l.getLast? = some 39 := by by_cases e : l.getLast? = some 39; exact e; exact absurd (.inr (.inr e)) hh
    obtain ⟨c, r, rfl⟩ : ∃ c r, l = c :: r := by cases l; simp at h1; exact ⟨_, _, rfl⟩
    simp at h2
    subst h2
    have hr : r ≠ [] := by intro e; subst e; simp at h1
    have hl : r.getLast? = some 39 := by
      cases r with
      | nil => exact absurd rfl hr
      | cons d q => simpa using h3
    have er : r.dropLast ++ [39] = r := by
      have := List.dropLast_concat_getLast hr
      have e2 : r.getLast hr = 39 := by
        rw [List.getLast?_eq_some_getLast hr] at hl
        exact Option.some.inj hl
      rw [e2] at this
      exact this
    refine ⟨r.dropLast, ?_, ?_, ?_⟩
    · unfold unq
      rw [if_pos ⟨rfl, by simpa using hl⟩]; rfl
    · have : (List.drop 1 (39 :: r)).take ((39 :: r).length - 2) = r.dropLast := by
        simp [List.dropLast_eq_take]
      rw [this] at h
      exact h
    · rw [er]
/-- a text that is read as a decimal is that decimal's text -/
theorem digits_print (l : List UInt8) (hD : Pm.allD l = true) (h0 : l ≠ []) (hh : 1 < l.length → l.head? ≠ some 48) : Lib.decDigits (Pm.val l) = l := by
  induction hn : l.length using Nat.strongRecOn generalizing l with
  | _ n ih =>
    obtain ⟨r, c, rfl⟩ : ∃ r c, l = r ++ [c] := ⟨l.dropLast, l.getLast h0, (List.dropLast_concat_getLast _).symm⟩
    have hc : Pm.isD c = true := by simp [Pm.allD] at hD; exact hD.2
    have hr : Pm.allD r = true := by simp [Pm.allD] at hD ⊢; exact hD.1
    have hc' := (Pm.isD_iff c).1 hc
    have ec : UInt8.ofNat (48 + (c.toNat - 48)) = c := by rw [show 48 + (c.toNat - 48) = c.toNat by omega, UInt8.ofNat_toNat]
    rw [Pm.val_snoc, Lib.decDigits]
    by_cases hr0 : r = []
    · subst hr0
      rw [dif_pos (by simp [Pm.val, Pm.valA]; omega)]
      simp [Pm.val, Pm.valA, ec]
    · have hne : 1 ≤ Pm.val r := by
        rcases Nat.eq_zero_or_pos (Pm.val r) with e | e
        · exfalso
          obtain ⟨d, q, rfl⟩ := List.exists_cons_of_ne_nil hr0
          have hh2 := hh (by simp)
          simp at hh2
          have hd : Pm.isD d = true := by simp [Pm.allD] at hr; exact hr.1
          have hd' := (Pm.isD_iff d).1 hd
          have : d.toNat - 48 ≤ Pm.val (d :: q) := by
            unfold Pm.val; rw [Pm.valA_cons]
            have := Pm.valA_ge q (0 * 10 + (d.toNat - 48)); omega
          have : d.toNat = 48 := by omega
          exact hh2 (by rw [← UInt8.ofNat_toNat (x := d), this]; rfl)
        · exact e
      rw [dif_neg (by omega), show (Pm.val r * 10 + (c.toNat - 48)) / 10 = Pm.val r by omega, show (Pm.val r * 10 + (c.toNat - 48)) % 10 = c.toNat - 48 by omega, ec]
      rw [ih r.length (by subst hn; simp) r hr hr0 (fun h => by
        have := hh (by simp; omega)
        intro e
        apply this
        rw [List.head?_append, e]; rfl) rfl]
theorem val_zero : ∀ (l : List UInt8), Pm.allD l = true → Pm.val l = 0 → l = List.replicate l.length 48
  | [], _, _ => rfl
  | c :: r, hD, h0 => by
    have hc : Pm.isD c = true := by simp [Pm.allD] at hD; exact hD.1
    have hr : Pm.allD r = true := by simp [Pm.allD] at hD ⊢; exact hD.2
    have hc' := (Pm.isD_iff c).1 hc
    have h1 : Pm.valA (0 * 10 + (c.toNat - 48)) r = 0 := by have := h0; unfold Pm.val at this; rwa [Pm.valA_cons] at this
    have h2 := Pm.valA_ge r (0 * 10 + (c.toNat - 48))
    have h3 : c.toNat = 48 := by omega
    have ec : c = 48 := by rw [← UInt8.ofNat_toNat (x := c), h3]; rfl
    subst ec
    have := val_zero r hr h1
    rw [List.length_cons, List.replicate_succ, ← this]
/-- the digits of a decimal, with noughts ahead -/
theorem pad_print (D E : List UInt8) (hD : Pm.allD D = true) (hE : Pm.allD E = true) (h0 : D ≠ []) (hh : 1 < D.length → D.head? ≠ some 48) : padD (Pm.val (D ++ E)) E.length = D ++ E := by
  have hall : Pm.allD (D ++ E) = true := by unfold Pm.allD at *; rw [List.all_append, hD, hE]; rfl
  by_cases hz : D = [48]
  · subst hz
    show padD (Pm.val (48 :: E)) E.length = 48 :: E
    have hv : Pm.val (48 :: E) = Pm.val E := by unfold Pm.val; rw [Pm.valA_cons]; rfl
    rw [hv]
    clear hv hall hD h0 hh
    induction E with
    | nil => simp [padD, Pm.val, Pm.valA, Lib.decDigits]
    | cons c r ih =>
      have hc : Pm.isD c = true := by simp [Pm.allD] at hE; exact hE.1
      have hr : Pm.allD r = true := by simp [Pm.allD] at hE ⊢; exact hE.2
      by_cases hc0 : c = 48
      · subst hc0
        have hv : Pm.val (48 :: r) = Pm.val r := by unfold Pm.val; rw [Pm.valA_cons]; rfl
        have i := ih hr
        unfold padD at i ⊢
        rw [hv]
        have hl : (Lib.decDigits (Pm.val r)).length ≤ r.length + 1 := by
          have := congrArg List.length i
          simp at this; omega
        rw [show (48 :: r).length + 1 - (Lib.decDigits (Pm.val r)).length = (r.length + 1 - (Lib.decDigits (Pm.val r)).length) + 1 by simp; omega, List.replicate_succ, List.cons_append, i]
      · have e := digits_print (c :: r) hE (by simp) (fun _ => by simpa using hc0)
        unfold padD
        rw [e, show (c :: r).length + 1 - (c :: r).length = 1 by omega]; rfl
  · have hne : D.head? ≠ some 48 := by
      by_cases h1 : 1 < D.length
      · exact hh h1
      · intro e
        obtain ⟨c, q, rfl⟩ := List.exists_cons_of_ne_nil h0
        have : q = [] := by
          cases q with
          | nil => rfl
          | cons _ _ => simp at h1
        subst this
        simp at e
        exact hz (by rw [e])
    have e := digits_print (D ++ E) hall (by simp [h0]) (fun _ => by
      intro e
      obtain ⟨c, q, rfl⟩ := List.exists_cons_of_ne_nil h0
      exact hne (by simpa using e))
    unfold padD
    have : 1 ≤ D.length := by
      rcases Nat.eq_zero_or_pos D.length with e | e
      · exact absurd (List.eq_nil_of_length_eq_zero e) h0
      · exact e
    rw [e, show E.length + 1 - (D ++ E).length = 0 by simp; omega]; rfl
theorem dot_print (D E : List UInt8) (hD : Pm.allD D = true) (hE : Pm.allD E = true) (h0 : D ≠ []) (hh : 1 < D.length → D.head? ≠ some 48) : dotD (Pm.val (D ++ E)) E.length = if E.length = 0 then D else D ++ 46 :: E := by
  have hp := pad_print D E hD hE h0 hh
  unfold dotD
  rw [hp]
  by_cases he : E.length = 0
  · have : E = [] := List.eq_nil_of_length_eq_zero he
    subst this
    simp
  · rw [if_neg he, if_neg he]
    have : (D ++ E).length - E.length = D.length := by simp
    rw [this]; simp
theorem fin_true (neg : Bool) (D : List UInt8) (o : Option (List UInt8)) (n s : Int) (h : Pm.fin neg D o = (n, s, true)) :
    (o.getD []).length ≤ 6 ∧ (∀ E, o = some E → E.length ≠ 0) ∧ D ≠ [] ∧ (1 < D.length → D.head? ≠ some 48) ∧ n = Pm.sgn neg (Pm.val (D ++ o.getD [])) ∧ s = ((o.getD []).length : Int) ∧ ¬ (neg = true ∧ Pm.val (D ++ o.getD []) = 0) := by
  unfold Pm.fin at h
  have fin2 : ∀ (X : Int × Int × Bool) (Y : Prop) [Decidable Y], ((if (D.length = 0 ∨ 1 < D.length ∧ D.head? = some 48) then (0, 0, false) else if Y then X else (0, 0, false)) = (n, s, true)) → D ≠ [] ∧ (1 < D.length → D.head? ≠ some 48) ∧ Y ∧ X = (n, s, true) := by
    intro X Y _ h
    by_cases g2 : (D.length = 0 ∨ 1 < D.length ∧ D.head? = some 48)
    · rw [if_pos g2] at h; simp at h
    · rw [if_neg g2] at h
      by_cases g3 : Y
      · rw [if_pos g3] at h
        exact ⟨fun e => g2 (.inl (by rw [e]; rfl)), fun a b => g2 (.inr ⟨a, b⟩), g3, h⟩
      · rw [if_neg g3] at h; simp at h
  cases o with
  | none =>
    dsimp only at h
    rw [if_neg (by simp)] at h
    obtain ⟨a, b, c, d⟩ := fin2 _ _ h
    simp only [Prod.mk.injEq, and_true] at d
    exact ⟨by simp, fun E e => (by cases e), a, b, d.1.symm, d.2.symm, c.2⟩
  | some E =>
    dsimp only at h
    by_cases g1 : (decide (E.length = 0) || decide (6 < E.length)) = true
    · rw [if_pos g1] at h; simp at h
    · rw [if_neg g1] at h
      obtain ⟨a, b, c, d⟩ := fin2 _ _ h
      simp only [Prod.mk.injEq, and_true] at d
      simp only [Bool.or_eq_true, decide_eq_true_eq] at g1
      refine ⟨?_, fun E' e => ?_, a, b, d.1.symm, d.2.symm, c.2⟩
      · show E.length ≤ 6; omega
      · cases e; omega
def withO (D : List UInt8) : Option (List UInt8) → List UInt8
  | none => D
  | some E => D ++ 46 :: E
theorem scan_parts (u D : List UInt8) (o : Option (List UInt8)) (hs : Pm.scan [] none u = some (D, o)) : Pm.allD D = true ∧ Pm.allD (o.getD []) = true ∧ u = withO D o := by
  rcases Pm.parted u with h1 | ⟨wh, fr, e, h2⟩
  · rw [Pm.scan_miss u h1] at hs
    by_cases ha : Pm.allD u = true
    · rw [if_pos ha] at hs
      have hs := Option.some.inj hs
      simp only [Prod.mk.injEq] at hs
      obtain ⟨rfl, rfl⟩ := hs
      exact ⟨ha, rfl, rfl⟩
    · rw [if_neg ha] at hs; cases hs
  · subst e
    rw [Pm.scan_hit wh fr h2] at hs
    by_cases ha : Pm.allD wh = true ∧ wh ≠ [] ∧ Pm.allD fr = true
    · rw [if_pos ha] at hs
      have hs := Option.some.inj hs
      simp only [Prod.mk.injEq] at hs
      obtain ⟨rfl, rfl⟩ := hs
      exact ⟨ha.1, ha.2.2, rfl⟩
    · rw [if_neg ha] at hs; cases hs
theorem parse_canon (l : List UInt8) (n s : Int) (h : Pm.parseM l = (n, s, true)) : printM n s = l ∧ scB s = true := by
  unfold Pm.parseM at h
  cases hs : Pm.scan [] none (if l.head? = some 45 then l.drop 1 else l) with
  | none => rw [hs] at h; simp at h
  | some p =>
    obtain ⟨D, o⟩ := p
    rw [hs] at h
    dsimp only at h
    obtain ⟨u, hu⟩ : ∃ u, u = (if l.head? = some 45 then l.drop 1 else l) := ⟨_, rfl⟩
    rw [← hu] at hs
    obtain ⟨hD1, hD2, hD3⟩ := scan_parts u D o hs
    obtain ⟨hE, hE0, h0, hh, rfl, rfl, g5⟩ := fin_true _ D o n s h
    have hd := dot_print D (o.getD []) hD1 hD2 h0 hh
    have hu2 : dotD (Pm.val (D ++ o.getD [])) (o.getD []).length = u := by
      rw [hd, hD3]
      cases o with
      | none => rfl
      | some E =>
        have : E.length ≠ 0 := hE0 E rfl
        show (if E.length = 0 then D else D ++ 46 :: E) = D ++ 46 :: E
        rw [if_neg this]
    have hsc : scB ((o.getD []).length : Int) = true := by simp [scB]; omega
    refine ⟨?_, hsc⟩
    unfold printM
    rw [hsc, if_pos rfl, Int.toNat_natCast]
    by_cases hneg : l.head? = some 45
    · rw [if_pos hneg] at hu
      have hl : l = 45 :: u := by
        cases l with
        | nil => simp at hneg
        | cons c r => simp at hneg; subst hneg; rw [hu]; rfl
      have hv : Pm.val (D ++ o.getD []) ≠ 0 := fun e => g5 ⟨by simpa using hneg, e⟩
      rw [decide_eq_true hneg]
      have e1 : Pm.sgn true (Pm.val (D ++ o.getD [])) = -(Pm.val (D ++ o.getD []) : Int) := rfl
      rw [e1, if_pos (by omega), Int.natAbs_neg, Int.natAbs_natCast, hu2, hl]
    · rw [if_neg hneg] at hu
      rw [decide_eq_false hneg]
      have e1 : Pm.sgn false (Pm.val (D ++ o.getD [])) = (Pm.val (D ++ o.getD []) : Int) := rfl
      rw [e1, if_neg (by omega), Int.natAbs_natCast, hu2, hu]
theorem parse_i64 (l : List UInt8) (n s : Int) (h : Pm.parseM l = (n, s, true)) : i64 n := by
  unfold Pm.parseM at h
  cases hs : Pm.scan [] none (if l.head? = some 45 then l.drop 1 else l) with
  | none => rw [hs] at h; simp at h
  | some p =>
    obtain ⟨D, o⟩ := p
    rw [hs] at h
    dsimp only at h
    have hr : Pm.inR (decide (l.head? = some 45)) (Pm.val (D ++ o.getD [])) = true := by
      cases hi : Pm.inR (decide (l.head? = some 45)) (Pm.val (D ++ o.getD []))
      · exfalso
        unfold Pm.fin at h
        rw [hi] at h
        simp only [Bool.false_eq_true, false_and, if_false, ite_self, Prod.mk.injEq, and_false] at h
      · rfl
    obtain ⟨_, _, _, _, rfl, rfl, _⟩ := fin_true _ D o n s h
    unfold Pm.inR at hr
    unfold Pm.sgn
    split at hr
    · rename_i hx; rw [if_pos hx]; simp at hr; exact ⟨by omega, by omega⟩
    · rename_i hx; rw [if_neg hx]; simp at hr; exact ⟨by omega, by omega⟩
/-- reading by guessing -/
theorem guess_null : guess [78, 85, 76, 76] = nil := by decide +kernel
theorem guess_i64 (l : List UInt8) : i64 (guess l).n := by
  have z : i64 0 := ⟨by decide, by decide⟩
  have o : i64 1 := ⟨by decide, by decide⟩
  have num : i64 (guessNum l).n := by
    unfold guessNum
    repeat' split
    all_goals first | exact z | skip
    all_goals
      rename_i h
      first
      | exact parse_i64 _ _ _ (Prod.ext rfl (Prod.ext rfl h))
      | (rename_i h2 _; exact parse_i64 _ _ _ (Prod.ext rfl (Prod.ext rfl h2)))
      | (rename_i h2; exact parse_i64 _ _ _ (Prod.ext rfl (Prod.ext rfl h2)))
  unfold guess
  split
  · exact o
  split
  · exact z
  split
  · exact z
  split
  · unfold guessBytes; repeat' split
    all_goals exact z
  · exact num
theorem parse_false (l : List UInt8) (h : (parse l).2 = false) : parse l = (nil, false) := by
  unfold parse number ok at *
  repeat' split at h
  all_goals first | (exact absurd h (by decide)) | skip
  all_goals simp_all
theorem parse_true (l : List UInt8) (h : (parse l).2 = true) : (parse l).1 = guess l ∧ rightB (guess l) = true ∧ print (guess l) = l := by
  unfold parse at h ⊢
  by_cases e0 : l = [78, 85, 76, 76]
  · subst e0; exact ⟨by decide +kernel, by decide +kernel, by decide +kernel⟩
  rw [if_neg e0] at h ⊢
  by_cases e1 : l = [84, 82, 85, 69]
  · subst e1; exact ⟨rfl, rfl, rfl⟩
  rw [if_neg e1] at h ⊢
  by_cases e2 : l = [70, 65, 76, 83, 69]
  · subst e2; exact ⟨rfl, rfl, rfl⟩
  rw [if_neg e2] at h ⊢
  by_cases e3 : l.head? = some 39
  · rw [if_pos e3] at h ⊢
    cases hi : inner l with
    | none => rw [hi] at h; simp at h
    | some t =>
      rw [hi] at h
      dsimp only at h ⊢
      obtain ⟨u, h1, h2, h3⟩ := inner_unq l t hi
      obtain ⟨h4, h5⟩ := half_esc u t h2
      have hg : guess l = ⟨4, 0, 0, ⟨t.toArray⟩⟩ := by unfold guess; rw [if_neg e1, if_neg e2, h1]; dsimp only; rw [h4]
      have hr : rightB ⟨4, 0, 0, ⟨t.toArray⟩⟩ = true := by
        unfold ok at h
        split at h
        · rename_i hr; exact hr
        · cases h
      rw [hg, ok_right hr]
      refine ⟨rfl, hr, ?_⟩
      show 39 :: (esc t ++ [39]) = l
      rw [h5, h3]
  rw [if_neg e3] at h ⊢
  have hu : unq l = none := by unfold unq; rw [if_neg (fun e => e3 e.1)]
  by_cases e4 : l.head? = some 88
  · rw [if_pos e4] at h ⊢
    have hg : guess l = guessBytes (l.drop 1) := by unfold guess; rw [if_neg e1, if_neg e2, hu]; dsimp only; rw [if_pos e4]
    rw [hg]
    cases hi : inner (l.drop 1) with
    | none => rw [hi] at h; simp at h
    | some t =>
      rw [hi] at h
      dsimp only at h ⊢
      cases hx : unhex t with
      | none => rw [hx] at h; simp at h
      | some x =>
        rw [hx] at h
        dsimp only at h ⊢
        obtain ⟨u, h1, h2, h3⟩ := inner_unq _ t hi
        obtain ⟨h4, h5⟩ := half_esc u t h2
        obtain ⟨h6, h7⟩ := hex_unhex t x hx
        have hut : u = t := by
          have : esc t = t := by rw [← h6]; exact hex_no x
          rw [← h5, this]
        subst hut
        have hr : rightB ⟨5, 0, 0, ⟨x.toArray⟩⟩ = true := by
          unfold ok at h
          split at h
          · rename_i hr; exact hr
          · cases h
        have hlen : x.length ≤ 200 := by
          have := hr
          simp [rightB, ByteArray.size] at this
          exact this
        have hgb : guessBytes (l.drop 1) = ⟨5, 0, 0, ⟨x.toArray⟩⟩ := by
          unfold guessBytes
          rw [h1]
          dsimp only
          rw [if_neg (by omega), hx]
        rw [hgb, ok_right hr]
        refine ⟨rfl, hr, ?_⟩
        show 88 :: 39 :: (hex x ++ [39]) = l
        cases l with
        | nil => simp at e4
        | cons c r =>
          simp at e4 h3
          rw [e4, h6, h3]
  rw [if_neg e4] at h ⊢
  have hg : guess l = guessNum l := by unfold guess; rw [if_neg e1, if_neg e2, hu]; dsimp only; rw [if_neg e4]
  rw [hg]
  unfold number at h ⊢
  unfold guessNum
  by_cases e5 : l.getLast? = some 46
  · rw [if_pos e5] at h ⊢
    rw [if_pos e5]
    by_cases e6 : (Pm.parseM l.dropLast).2.2 = true ∧ ¬ 0 < (Pm.parseM l.dropLast).2.1
    · rw [if_pos e6, if_pos e6.1]
      obtain ⟨c1, c2⟩ := parse_canon l.dropLast (Pm.parseM l.dropLast).1 (Pm.parseM l.dropLast).2.1 (Prod.ext rfl (Prod.ext rfl e6.1))
      have hs0 : (Pm.parseM l.dropLast).2.1 = 0 := by have := scB_true c2; omega
      rw [hs0] at c1 ⊢
      refine ⟨rfl, rfl, ?_⟩
      show printM (Pm.parseM l.dropLast).1 0 ++ [46] = l
      rw [c1]
      have hne : l ≠ [] := by intro e; subst e; simp at e5
      have := List.dropLast_concat_getLast hne
      rw [List.getLast?_eq_some_getLast hne] at e5
      rw [Option.some.inj e5] at this
      exact this
    · rw [if_neg e6] at h; cases h
  · rw [if_neg e5] at h ⊢
    rw [if_neg e5]
    by_cases e6 : (Pm.parseM l).2.2 = true
    · rw [if_pos e6] at h ⊢
      rw [if_pos e6]
      obtain ⟨c1, c2⟩ := parse_canon l (Pm.parseM l).1 (Pm.parseM l).2.1 (Prod.ext rfl (Prod.ext rfl e6))
      have := scB_true c2
      by_cases e7 : 0 < (Pm.parseM l).2.1
      · rw [if_pos e7, if_neg (by omega)]
        refine ⟨rfl, by simp [rightB, c2, ByteArray.size], ?_⟩
        show (if (Pm.parseM l).2.1 = 0 then _ else printM (Pm.parseM l).1 (Pm.parseM l).2.1) = l
        rw [if_neg (by omega), c1]
      · have hs0 : (Pm.parseM l).2.1 = 0 := by omega
        rw [if_neg e7, if_pos hs0]
        rw [hs0] at c1
        exact ⟨rfl, rfl, c1⟩
    · rw [if_neg e6] at h; cases h
/-- a text is read by guessing a value and holding its text against it -/
theorem parse_guess (l : List UInt8) : parse l = if print (plain (guess l)) = l then (guess l, true) else (nil, false) := by
  by_cases e : print (plain (guess l)) = l
  · rw [if_pos e]
    by_cases hr : rightB (guess l) = true
    · have hp : plain (guess l) = guess l := by unfold plain; rw [if_pos hr]
      rw [hp] at e
      have := parse_print (guess l) (guess_i64 l) hr
      rw [e] at this
      exact this
    · have hp : plain (guess l) = nil := by unfold plain; rw [if_neg hr]
      rw [hp] at e
      have : guess l = nil := by rw [← e]; exact guess_null
      rw [this] at hr
      exact absurd rfl hr
  · rw [if_neg e]
    cases h : (parse l).2
    · exact parse_false l h
    · exfalso
      obtain ⟨_, h2, h3⟩ := parse_true l h
      apply e
      unfold plain
      rw [if_pos h2, h3]
end Go.Proofs.YtpbmjknhfgdnnaaGreatDoor.Vm
