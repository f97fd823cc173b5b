/- The reference of layer 8: Back, Levels, Same. -/
import Derived.Test.YtdchapcpimhjaaaTreE4
import Derived.Test.YtdchapcpimhjaaaTreC2
import Derived.OwnWalk
import Derived.Laws.OwnMore
namespace Go.Proofs.Ytdchapcpimhjaaa
open Go.RowKit

theorem Tm.le_not (a b : Tm.K) : (Tm.lt a b || decide (a = b)) = !Tm.lt b a := by
  cases h : Tm.lt b a with
  | true =>
    have h1 : Tm.lt a b = false := by
      cases h2 : Tm.lt a b with
      | true => have := Tm.lt_trans h h2; rw [Tm.lt_irrefl] at this; cases this
      | false => rfl
    rw [h1, decide_eq_false (fun e => by rw [e, Tm.lt_irrefl] at h; cases h)]; rfl
  | false =>
    by_cases e : a = b
    · rw [decide_eq_true e]; simp
    · rw [Tm.lt_of_not h (fun e2 => e e2.symm)]; rfl
end Go.Proofs.Ytdchapcpimhjaaa
