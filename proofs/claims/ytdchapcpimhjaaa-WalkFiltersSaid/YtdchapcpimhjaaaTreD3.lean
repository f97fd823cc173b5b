/- Package tree: Delete; what a nil tree answers. -/
import Derived.Test.YtdchapcpimhjaaaTreD2
namespace Go.Proofs.Ytdchapcpimhjaaa
open Go.RowKit
theorem tre_put_nil {W : World} (S : ByteArray) (v : Int) : Calls Try.prog 35 #[.pointer none, .string S, .int .i64 v] W fun e w' => e = .returned (.bool false) ∧ W = w' := by
  go_enter Try.func35, Try.ntmps35
  go_wp2
  go_ret
  exact ⟨rfl, rfl⟩
theorem tre_copy_nil {W : World} : Calls Try.prog 50 #[.pointer none] W fun e w' => e = .returned (.pointer none) ∧ W = w' := by
  go_enter Try.func50, Try.ntmps50
  go_wp2
  go_ret
  exact ⟨rfl, rfl⟩
/-- the root that is left, and where its kids lie -/
theorem Tn.kidn {ex : Nat → Prop} {h p : Nat} {t : Tm.T} {W : World} (ht : Tn ex h p t W) : ∃ ba bc, W.cell? ⟨p, 2, none⟩ = some (.slice ba t.ks.length bc) := by
  obtain ⟨ka, kc, va, vn, vc, ba, bn, bc, hn, _, hb, _⟩ := ht.node
  subst hb
  exact ⟨ba, bc, by rw [Lib.cell_of_heap hn]; rfl⟩
end Go.Proofs.Ytdchapcpimhjaaa
