/- The contracts of the landed package cast. -/
import Derived.Test.YtfnnhhhkdfgefaaGreatDoorCastC3
import Derived.Test.YtfnnhhhkdfgefaaGreatDoorCastC4
import Derived.Test.YtfnnhhhkdfgefaaGreatDoorCastCon
namespace Go.Proofs.YtfnnhhhkdfgefaaGreatDoor
open Go.RowKit
theorem castCon : CastCon where
  cast c k s w he hn hz := cast_cast c k s w he hn hz
  safe k s l t w _ := cast_safe k s l t w
  fits k s l t w _ := cast_fits k s l t w
end Go.Proofs.YtfnnhhhkdfgefaaGreatDoor
