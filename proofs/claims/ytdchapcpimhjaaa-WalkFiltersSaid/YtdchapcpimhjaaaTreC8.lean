/- Package tree: without, with. -/
import Derived.Test.YtdchapcpimhjaaaTreC7
namespace Go.Proofs.Ytdchapcpimhjaaa
open Go.RowKit

/-- what a drawn region may rely on -/
theorem Hs.one_of {ex : Nat → Prop} {h : Nat} {ts : List Tm.T} {a : Option Addr} {n c : Nat} {W : World} (hs : Hs ex h ts a n c W) : n = ts.length := hs.1
end Go.Proofs.Ytdchapcpimhjaaa
