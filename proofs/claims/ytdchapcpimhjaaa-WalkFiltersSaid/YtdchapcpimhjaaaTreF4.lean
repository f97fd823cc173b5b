/- Package tree: what any node hands out from a key on, backwards, for every loop body. -/
import Derived.RangeFuncWrites
import Derived.RangeFuncBound
import Derived.RangeFuncCalls
import Derived.RangeFuncLeaves
import Derived.Shelf.Abstract
import Derived.Shelf.RegionOpen
import Derived.WalkKit
import Derived.OwnWalkIn
import Derived.TacticsInMore
import Derived.LoopNIn
import Derived.LoopIn
import Derived.BigRegionIn
import Derived.Test.YtdchapcpimhjaaaTreF2
namespace Go.Proofs.Ytdchapcpimhjaaa
open Go.RowKit Go.Shelf

attribute [local go_sem] Oper.semAt_some

theorem bk_app (A C : List Tm.E) (k : Tm.K) : Tm.back (A ++ C) k = Tm.back C k ++ Tm.back A k := by simp [Tm.back]
theorem bk_hi {A : List Tm.E} {k : Tm.K} (h : Tm.Hi A k) : Tm.back A k = [] := by
  unfold Tm.back
  rw [List.reverse_eq_nil_iff, List.filter_eq_nil_iff]
  intro p hp
  rw [h p hp]; decide
end Go.Proofs.Ytdchapcpimhjaaa
