/- The reference of layer 8: From. -/
import Derived.Test.YtdchapcpimhjaaaTreE2
import Derived.Test.YtdchapcpimhjaaaTreC2
import Derived.OwnWalk
import Derived.Laws.OwnMore
namespace Go.Proofs.Ytdchapcpimhjaaa
open Go.RowKit

theorem own_formp {w : World} {B : Nat} {e : TypeId} {sz : Nat} {v : Value} {n : Nat} {xs : List Value} (h : w.ownsRow B e sz v n xs) : ∃ a c, v = .slice a n c := by
  obtain ⟨_, h2⟩ := h
  rcases h2 with ⟨rfl, rfl⟩ | ⟨g, cap, cur, rfl, _⟩
  · exact ⟨_, _, rfl⟩
  · exact ⟨_, _, rfl⟩
theorem bstr_lt8 (a b : List UInt8) : Op.bytesLess (bstr a).toList (bstr b).toList = Tm.lt a b := by rw [bstr_toList, bstr_toList]
end Go.Proofs.Ytdchapcpimhjaaa
