/- The reference of layer 8: Delete. -/
import Derived.Test.YtdchapcpimhjaaaTreE3
import Derived.Test.YtdchapcpimhjaaaTreC2
import Derived.OwnWalk
import Derived.Laws.OwnMore
namespace Go.Proofs.Ytdchapcpimhjaaa
open Go.RowKit

theorem Tm.del_lt : ∀ (l : List Tm.E) (k : Tm.K), decide ((Tm.del l k).length < l.length) = Tm.has l k
  | [], _ => rfl
  | p :: r, k => by
    have ih := Tm.del_lt r k
    have hle : (Tm.del r k).length ≤ r.length := List.length_filter_le _ _
    have hh : Tm.has (p :: r) k = (p.1 == k || Tm.has r k) := by simp [Tm.has]
    rw [hh, ← ih]
    by_cases e : p.1 = k
    · have : Tm.del (p :: r) k = Tm.del r k := by simp [Tm.del, e]
      rw [this, show (p.1 == k) = true by simpa using e, Bool.true_or]
      exact decide_eq_true (by rw [List.length_cons]; omega)
    · have : Tm.del (p :: r) k = p :: Tm.del r k := by simp [Tm.del, e]
      rw [this, show (p.1 == k) = false by simpa using e, Bool.false_or]
      simp
end Go.Proofs.Ytdchapcpimhjaaa
