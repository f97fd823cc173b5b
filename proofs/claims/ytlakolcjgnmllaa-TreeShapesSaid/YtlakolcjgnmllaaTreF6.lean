/- Package tree: From and Back. -/
import Derived.Test.YtlakolcjgnmllaaTreF5
namespace Go.Proofs.Ytlakolcjgnmllaa
open Go.RowKit

theorem tre_From {o : Option Addr} {S : ByteArray} {W : World} : Calls Try.prog 21 #[.pointer o, .string S] W fun e w' => e = .returned (.func (.func 34) #[] #[.pointer (some ⟨W.heap.size, 0, none⟩), .pointer (some ⟨W.heap.size + 1, 0, none⟩)]) ∧ w' = (W.alloc (.cells #[.pointer o] 24)).alloc (.cells #[.string S] 9) := by
  go_enter Try.func21, Try.ntmps21
  go_wp2
  go_ret
  exact ⟨rfl, rfl⟩
theorem tre_Back {o : Option Addr} {S : ByteArray} {W : World} : Calls Try.prog 22 #[.pointer o, .string S] W fun e w' => e = .returned (.func (.func 36) #[] #[.pointer (some ⟨W.heap.size, 0, none⟩), .pointer (some ⟨W.heap.size + 1, 0, none⟩)]) ∧ w' = (W.alloc (.cells #[.pointer o] 24)).alloc (.cells #[.string S] 9) := by
  go_enter Try.func22, Try.ntmps22
  go_wp2
  go_ret
  exact ⟨rfl, rfl⟩
end Go.Proofs.Ytlakolcjgnmllaa
