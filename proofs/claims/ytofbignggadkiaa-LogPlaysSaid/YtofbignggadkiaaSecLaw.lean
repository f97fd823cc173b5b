/- Layer 6 in plain words: what the laws without the reference say of a device (SectorTears, SectorAlone). -/
import Derived.Test.YtofbignggadkiaaSecMath
namespace Go.Proofs.Ytofbignggadkiaa.Sm
theorem last_64 {d : Dv} (h : Ok d) {i : Nat} (hi : i < d.kept.length) : (last (d.kept.getD i []) i d.ws).length = 64 := by
  rw [← apply_at d.ws d.kept i (fun x hx => (h.w x hx).1)]
  exact getD_64 (apply_64 _ _ h.k fun x hx => (h.w x hx).2) (by rw [apply_len]; exact hi)
def more (may : List (List UInt8)) (x : List UInt8) : List (List UInt8) := List.zipWith (fun m c => m ++ [c]) may x
end Go.Proofs.Ytofbignggadkiaa.Sm
