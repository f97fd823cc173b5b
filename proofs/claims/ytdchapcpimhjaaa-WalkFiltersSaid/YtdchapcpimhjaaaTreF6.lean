/- Package tree: From and Back. -/
import Derived.Test.YtdchapcpimhjaaaTreF5
namespace Go.Proofs.Ytdchapcpimhjaaa
open Go.RowKit

theorem tre_From {o : Option Addr} {S : ByteArray} {W : World} : Calls Try.prog 15 #[.pointer o, .string S] W fun e w' => e = .returned (.func (.func 41) #[] #[.pointer (some ⟨W.heap.size, 0, none⟩), .pointer (some ⟨W.heap.size + 1, 0, none⟩)]) ∧ w' = (W.alloc (.cells #[.pointer o] 24)).alloc (.cells #[.string S] 9) := by
  go_enter Try.func15, Try.ntmps15
  go_wp2
  go_ret
  exact ⟨rfl, rfl⟩
end Go.Proofs.Ytdchapcpimhjaaa
