/- Package tree: Rank. -/
import Derived.Test.YtdchapcpimhjaaaTreD4
namespace Go.Proofs.Ytdchapcpimhjaaa
open Go.RowKit

theorem Tm.flats_take1 (h : Nat) (ks : List Tm.T) {j : Nat} (hj : j < ks.length) : (Tm.flats h (ks.take (j + 1))).length = (Tm.flats h (ks.take j)).length + (Tm.flat h (ks.getD j (.leaf []))).length := by
  rw [List.take_add_one, List.getElem?_eq_getElem hj, Tm.flats_app]
  simp only [Option.toList_some, Tm.flats_one, List.getD, List.getElem?_eq_getElem hj, Option.getD_some, List.length_append]
theorem Tm.flats_take_le (h : Nat) (ks : List Tm.T) (j : Nat) : (Tm.flats h (ks.take j)).length ≤ (Tm.flats h ks).length := by
  have := Tm.flats_len h ks j; omega
end Go.Proofs.Ytdchapcpimhjaaa
