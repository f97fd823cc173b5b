/- The reference of layer 2: Parse in one. -/
import Derived.Test.YtfnnhhhkdfgefaaGreatDoorDecP5e
import Derived.Test.YtfnnhhhkdfgefaaGreatDoorDecP5p
import Derived.Test.YtfnnhhhkdfgefaaGreatDoorDecP5m
namespace Go.Proofs.YtfnnhhhkdfgefaaGreatDoor

theorem ref_parse (s : ByteArray) (w : World) (hs : s.size ≤ 1000) : Calls Tryz.prog 26 #[.string s] w (Par (Pm.parseM s.data.toList) w) := by
  by_cases h0 : s.size = 0
  · exact ref_parse_e s w hs h0
  · have hne : 0 < s.size := by omega
    by_cases h : s[0] = 45
    · exact ref_parse_m s w hs hne h
    · exact ref_parse_p s w hs hne h
end Go.Proofs.YtfnnhhhkdfgefaaGreatDoor
