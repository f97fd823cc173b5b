/- Parse by guessing and printing again, in plain words. -/
import Derived.Test.YtfnnhhhkdfgefaaGreatDoorValMm
namespace Go.Proofs.YtfnnhhhkdfgefaaGreatDoor.Vm
theorem fin_true (neg : Bool) (D : List UInt8) (o : Option (List UInt8)) (n s : Int) (h : Pm.fin neg D o = (n, s, true)) :
    (o.getD []).length ≤ 6 ∧ (∀ E, o = some E → E.length ≠ 0) ∧ D ≠ [] ∧ (1 < D.length → D.head? ≠ some 48) ∧ n = Pm.sgn neg (Pm.val (D ++ o.getD [])) ∧ s = ((o.getD []).length : Int) ∧ ¬ (neg = true ∧ Pm.val (D ++ o.getD []) = 0) := by
  unfold Pm.fin at h
  have fin2 : ∀ (X : Int × Int × Bool) (Y : Prop) [Decidable Y], ((if (D.length = 0 ∨ 1 < D.length ∧ D.head? = some 48) then (0, 0, false) else if Y then X else (0, 0, false)) = (n, s, true)) → D ≠ [] ∧ (1 < D.length → D.head? ≠ some 48) ∧ Y ∧ X = (n, s, true) := by
    intro X Y _ h
    by_cases g2 : (D.length = 0 ∨ 1 < D.length ∧ D.head? = some 48)
    · rw [if_pos g2] at h; simp at h
    · rw [if_neg g2] at h
      by_cases g3 : Y
      · rw [if_pos g3] at h
        exact ⟨fun e => g2 (.inl (by rw [e]; rfl)), fun a b => g2 (.inr ⟨a, b⟩), g3, h⟩
      · rw [if_neg g3] at h; simp at h
  cases o with
  | none =>
    dsimp only at h
    rw [if_neg (by simp)] at h
    obtain ⟨a, b, c, d⟩ := fin2 _ _ h
    simp only [Prod.mk.injEq, and_true] at d
    exact ⟨by simp, fun E e => (by cases e), a, b, d.1.symm, d.2.symm, c.2⟩
  | some E =>
    dsimp only at h
    by_cases g1 : (decide (E.length = 0) || decide (6 < E.length)) = true
    · rw [if_pos g1] at h; simp at h
    · rw [if_neg g1] at h
      obtain ⟨a, b, c, d⟩ := fin2 _ _ h
      simp only [Prod.mk.injEq, and_true] at d
      simp only [Bool.or_eq_true, decide_eq_true_eq] at g1
      refine ⟨?_, fun E' e => ?_, a, b, d.1.symm, d.2.symm, c.2⟩
      · show E.length ≤ 6; omega
      · cases e; omega
theorem parse_i64 (l : List UInt8) (n s : Int) (h : Pm.parseM l = (n, s, true)) : i64 n := by
  unfold Pm.parseM at h
  cases hs : Pm.scan [] none (if l.head? = some 45 then l.drop 1 else l) with
  | none => rw [hs] at h; simp at h
  | some p =>
    obtain ⟨D, o⟩ := p
    rw [hs] at h
    dsimp only at h
    have hr : Pm.inR (decide (l.head? = some 45)) (Pm.val (D ++ o.getD [])) = true := by
      cases hi : Pm.inR (decide (l.head? = some 45)) (Pm.val (D ++ o.getD []))
      · exfalso
        unfold Pm.fin at h
        rw [hi] at h
        simp only [Bool.false_eq_true, false_and, if_false, ite_self, Prod.mk.injEq, and_false] at h
      · rfl
    obtain ⟨_, _, _, _, rfl, rfl, _⟩ := fin_true _ D o n s h
    unfold Pm.inR at hr
    unfold Pm.sgn
    split at hr
    · rename_i hx; rw [if_pos hx]; simp at hr; exact ⟨by omega, by omega⟩
    · rename_i hx; rw [if_neg hx]; simp at hr; exact ⟨by omega, by omega⟩
end Go.Proofs.YtfnnhhhkdfgefaaGreatDoor.Vm
