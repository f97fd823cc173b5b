/- The calls of package wire that write: bytes.Clone, Writer.Number. -/
import Derived.Test.YtgpeombkdompdaaWireKit
import Derived.Test.YtgpeombkdompdaaWireLen
import Derived.Deep.RegionLaw
namespace Go.Proofs.Ytgpeombkdompdaa
open Go.RowKit

/-- what bytes.Clone leaves: bytes of its own, and nothing else changed -/
def Cloned (l : List UInt8) (w : World) (e : Ending) (w' : World) : Prop :=
  ∃ v, e = .returned v ∧ w'.ownsRow w.heap.size 5 1 v l.length (bc l) ∧ Below w.heap.size w w'

theorem clone_nil (w : World) : Calls Try.prog 27 #[.slice none 0 0] w (Cloned [] w) := by
  have q22 : ∀ (w : World) (a : Option Addr) (n c n' c' : Nat), (binOp .eql 24 (.slice a n c) (.slice none n' c')).run Try.prog w = .ok (.bool a.isNone) w := fun w a n c n' c' => Lib.run_eql_slice_nil w _ _ a n c n' c' Try.underlying24
  go_enter Try.func27, Try.ntmps27
  go_wp2
  go_ret
  exact ⟨_, rfl, World.ownsRow_nil _ _ _ _, Below.refl _ _⟩

set_option maxHeartbeats 1000000 in
set_option maxRecDepth 100000 in
theorem clone_at (g off cap : Nat) (l : List UInt8) (w : World) (cs : Array Value) (t : TypeId) (fr : Nat × Nat) (hg : w.heap[g]? = some (.cells cs t fr)) (hbig : l.length ≤ 140737488355328)
    (hc : ∀ j, j < l.length → cs[off + j]? = some (Value.int .u8 (l.getD j 0).toNat)) :
    Calls Try.prog 27 #[.slice (some ⟨g, off, none⟩) l.length cap] w (Cloned l w) := by
  have q22 : ∀ (w : World) (a : Option Addr) (n c n' c' : Nat), (binOp .eql 24 (.slice a n c) (.slice none n' c')).run Try.prog w = .ok (.bool a.isNone) w := fun w a n c n' c' => Lib.run_eql_slice_nil w _ _ a n c n' c' Try.underlying24
  have HC := Lib.hid hc
  have HG := Lib.hid hg
  clear hc hg
  go_enter Try.func27, Try.ntmps27
  go_wp2_with (at_builtin; refine wpList_append_own _ rfl _ _ 24 rfl w.heap.size 5 _ (.int .u8 0) 1 1 Try.underlying24 rfl rfl rfl rfl rfl (by decide) _ _ _ rfl (World.ownsRow_made w #[] 0 (Nat.le_refl _) (Nat.zero_le _) rfl) ⟨g, off, none⟩ l.length cap (bc l) rfl ?qc1 ?qc2 ?qc3 ?qc4 ?qc5 ?qc6 ?_)
  case qc1 => simp [bc_length]
  case qc2 =>
    intro j u hj
    have hjn : j < l.length := by
      have := (List.getElem?_eq_some_iff.1 hj).1
      rwa [bc_length] at this
    refine Lib.cell?_alloc_some _ ?_
    rw [bc_get] at hj
    have hadd : (⟨g, off, none⟩ : Addr).add j = ⟨g, off + j, none⟩ := by unfold Addr.add; split <;> simp_all
    rw [hadd, Lib.cell_of_heap HG.out, HC.out j hjn]
    simpa [List.getD, hjn] using hj
  case qc3 => exact bc_one l
  case qc4 => unfold maxLen; omega
  case qc5 => omega
  case qc6 => simp
  intro v' w1 hown hgrow hnil
  go_wp2
  go_ret
  refine ⟨v', rfl, by simpa using hown, ?_⟩
  exact ((Below.refl _ w).alloc (Nat.le_refl _) _).grown hgrow (by simp) (by intro k hk; simp [Value.ownBlock] at hk; omega)

theorem clone_any (v : Value) (l : List UInt8) (w : World) (h : Byt v l w) (hbig : l.length ≤ 140737488355328) :
    Calls Try.prog 27 #[v] w (Cloned l w) := by
  rcases h with ⟨rfl, rfl⟩ | ⟨g, off, cap, cs, t, fr, rfl, _, hg, _, _, _, hc⟩
  · exact clone_nil w
  · exact clone_at g off cap l w cs t fr hg hbig hc

end Go.Proofs.Ytgpeombkdompdaa
