/- Layer 6 in plain words: what the laws without the reference say of a device (SectorTears, SectorAlone). -/
import Derived.Test.YtmcjkaoddjakhaaSecMath
namespace Go.Proofs.Ytmcjkaoddjakhaa.Sm
def more (may : List (List UInt8)) (x : List UInt8) : List (List UInt8) := List.zipWith (fun m c => m ++ [c]) may x
end Go.Proofs.Ytmcjkaoddjakhaa.Sm
