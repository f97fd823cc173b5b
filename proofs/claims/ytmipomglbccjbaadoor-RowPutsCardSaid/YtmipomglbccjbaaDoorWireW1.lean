/- The calls of package wire that write: bytes.Clone, Writer.Number. -/
import Derived.Test.YtmipomglbccjbaaDoorWireKit
import Derived.Test.YtmipomglbccjbaaDoorWireLen
import Derived.Test.YtmipomglbccjbaaDoorKitAppend
import Derived.Deep.RegionLaw
namespace Go.Proofs.YtmipomglbccjbaaDoor
open Go.RowKit

/-- what bytes.Clone leaves: bytes of its own, and nothing else changed -/
def Cloned (l : List UInt8) (w : World) (e : Ending) (w' : World) : Prop :=
  ∃ v, e = .returned v ∧ w'.ownsRow w.heap.size 5 1 v l.length (bc l) ∧ Below w.heap.size w w'
theorem clone_nil (w : World) : Calls Tryd.prog 46 #[.slice none 0 0] w (Cloned [] w) := by
  have q22 : ∀ (w : World) (a : Option Addr) (n c n' c' : Nat), (binOp .eql 25 (.slice a n c) (.slice none n' c')).run Tryd.prog w = .ok (.bool a.isNone) w := fun w a n c n' c' => Lib.run_eql_slice_nil w _ _ a n c n' c' Tryd.underlying25
  go_enter Tryd.func46, Tryd.ntmps46
  go_wp2
  go_ret
  exact ⟨_, rfl, World.ownsRow_nil _ _ _ _, Below.refl _ _⟩
theorem info5 : (Tryd.prog.info? 5).map (fun i => (i.zero, i.size, i.bytes)) = some (some (.int .u8 0), 1, 1) := by kernel_rfl
/-- bytes in memory as what is appended -/
theorem Byt.src {v : Value} {l : List UInt8} {w : World} (h : Byt v l w) : Src Tryd.prog 1 25 v l.length (bc l) w := by
  rcases h with ⟨rfl, rfl⟩ | ⟨g, off, cap, cs, t, fr, rfl, _, hg, _, _, _, hc⟩
  · exact Src.ofNil w Tryd.underlying25 0
  · refine Src.ofSlice w Tryd.underlying25 ⟨g, off, none⟩ l.length cap (bc l) (by rw [bc_length]; omega) ?_ (bcw_one l)
    intro j u hj
    have hjn : j < l.length := by
      have := (List.getElem?_eq_some_iff.1 hj).1
      rwa [bc_length] at this
    rw [bc_get] at hj
    have hadd : (⟨g, off, none⟩ : Addr).add j = ⟨g, off + j, none⟩ := by unfold Addr.add; split <;> simp_all
    rw [hadd, Lib.cell_of_heap hg, hc j hjn]
    simpa [List.getD, hjn] using hj
set_option maxHeartbeats 1000000 in
set_option maxRecDepth 100000 in
theorem clone_some (a : Addr) (n cap : Nat) (l : List UInt8) (w : World) (hb : Byt (.slice (some a) n cap) l w) (hn : n = l.length) (hbig : n ≤ 140737488355328) :
    Calls Tryd.prog 46 #[.slice (some a) n cap] w (Cloned l w) := by
  obtain ⟨i0, hi0, hz0, hz1, hz2⟩ := info_parts info5
  have hnil : ∀ (wx : World), (binOp .eql 25 (.slice (some a) n cap) (.slice none 0 0)).run Tryd.prog wx = .ok (.bool false) wx := fun wx => Lib.run_eql_slice_nil wx _ _ _ n cap 0 0 Tryd.underlying25
  have hsrc := (hb.keep (p := fun _ => False) ((Only.refl _ w).alloc (.cells #[] 5)) (fun _ _ => id)).src
  rw [← hn] at hsrc
  have HS := Lib.hid hsrc
  have HN := Lib.hid hn
  clear hb hsrc hn
  go_enter Tryd.func46, Tryd.ntmps46
  go_wp2_with (at_builtin; refine wpList_append_src _ rfl _ _ 25 25 rfl w.heap.size 5 i0 (.int .u8 0) 1 1 Tryd.underlying25 hi0 hz0 hz1 hz2 rfl _ 0 [] rfl (World.ownsRow_made w #[] 0 (Nat.le_refl _) (Nat.zero_le _) rfl) _ n (bc l) rfl HS.out ?ca ?cb ?cc ?_)
  case ca => unfold maxLen; omega
  case cb => omega
  case cc => simp
  intro v' w1 hown hgrow _
  have hB : Below w.heap.size w w1 := ((Below.refl _ w).alloc (Nat.le_refl _) _).grown hgrow (by simp) (fun k hk => by simp [Value.ownBlock] at hk; omega)
  go_wp2
  go_ret
  exact ⟨v', rfl, by rw [← HN.out]; exact hown, hB⟩
theorem clone_any (v : Value) (l : List UInt8) (w : World) (h : Byt v l w) (hbig : l.length ≤ 140737488355328) :
    Calls Tryd.prog 46 #[v] w (Cloned l w) := by
  have h' := h
  rcases h with ⟨rfl, rfl⟩ | ⟨g, off, cap, cs, t, fr, rfl, _⟩
  · exact clone_nil w
  · exact clone_some _ _ _ l w h' rfl hbig
end Go.Proofs.YtmipomglbccjbaaDoor
