/- Package sector: Read. -/
import Derived.Test.YtofbignggadkiaaSecCa
import Derived.Test.YtofbignggadkiaaSecKit
namespace Go.Proofs.Ytofbignggadkiaa
open Go.RowKit

theorem infoB2 : (Try.prog.info? 87).map (·.size) = some 64 := by kernel_rfl
theorem infoBz : (Try.prog.info? 87).map (fun i => (i.zero, i.size)) = some (some (.agg (Array.replicate 64 (.int .u8 0))), 64) := by kernel_rfl
/-- the zeros of a sector -/
def z64 : Array Value := Array.replicate 64 (.int .u8 0)
set_option maxHeartbeats 2000000 in
theorem sec_read (g kb nb : Nat) (wa : Option Addr) (wc : Nat) (lim : Bool) (lf : Int) (nw : List (List UInt8)) (d : Sm.Dv) (i : Int) (w : World) (h : Dk g kb nb wa wc lim lf nw d w) (hv : Nv nw d) :
    Calls Try.prog 26 #[.pointer (some ⟨g, 0, none⟩), .int .i64 i] w fun e w' => ∃ a c n, e = .returned (.tuple #[.slice a n c, .int .i64 (Sm.read d i).2]) ∧ n = (Sm.read d i).1.length ∧ w'.ownsRow w.heap.size 87 1 (.slice a n c) n (yc (Sm.read d i).1) ∧ Below w.heap.size w w' := by
  have HF := Lib.hid (sec_fault g kb nb wa wc lim lf nw d i 0 w h)
  by_cases hc : Sm.check d i 0 = 0
  case neg =>
    have HR : Hid (Sm.read d i = ([], Sm.check d i 0)) := by show _ = _; unfold Sm.read; rw [if_neg hc]
    have q : (Sm.check d i 0 != 0) = true := by simpa using hc
    rw [HR.out]
    clear HR h hc
    generalize Sm.check d i 0 = E at *
    go_enter Try.func26, Try.ntmps26
    go_wp2_with fail
    refine HF.out.mono ?_
    rintro e w1 ⟨rfl, rfl⟩
    go_wp2
    go_ret2
    exact ⟨none, 0, 0, rfl, rfl, World.ownsRow_nil _ _ _ _, Below.refl _ _⟩
  obtain ⟨i0, i1, -, -⟩ := Sm.check_0 hc
  obtain ⟨n, rfl⟩ : ∃ n : Nat, i = (n : Int) := ⟨i.toNat, by omega⟩
  have hn : n < d.kept.length := by omega
  obtain ⟨s, hs⟩ : ∃ s, s = nw.getD n [] := ⟨_, rfl⟩
  have HR : Hid (Sm.read d (n : Int) = (s, 0)) := by
    show _ = _; unfold Sm.read; rw [if_pos hc, hs, hv n hn]; rfl
  have hs64 : s.length = 64 := by
    rw [hs]; exact Sm.getD_64 h.n64 (by rw [h.nl]; exact hn)
  have hrg : w.rangeAt nb (n * 64) (yc s) := by rw [hs]; exact h.nr.cs n (by rw [h.nl]; exact hn)
  have HRG := Lib.hid hrg
  rw [hc] at HF
  rw [HR.out]
  have c1 := h.c1
  obtain ⟨K, hK⟩ : ∃ K, K = d.kept.length := ⟨_, rfl⟩
  rw [← hK] at c1 hn
  have hni : (n : Int) < (K : Int) := by omega
  obtain ⟨cs, hcs⟩ : ∃ cs, cs = yc s := ⟨_, rfl⟩
  rw [← hcs] at HRG
  have hl : cs.length = 64 := by rw [hcs, yc_length]; exact hs64
  clear HR hc h hK i0 i1 hrg hs
  go_enter Try.func26, Try.ntmps26
  go_wp2_with fail
  refine HF.out.mono ?_
  rintro e w1 ⟨rfl, rfl⟩
  clear HF
  obtain ⟨z, Z, hz, hZ, hZs⟩ : ∃ (z : Value) (Z : Array Value), (∀ w, (zeroValue 87).run Try.prog w = .ok z w) ∧ z.cells = Z ∧ Z.size = 64 := ⟨_, z64, (zero_of_info infoBz).1, rfl, Array.size_replicate⟩
  have HZ := Lib.hid hz; have HZ1 := Lib.hid hZ; have HZS := Lib.hid hZs
  have HI : Hid ((Try.prog.info? 87).map (·.size) = some cs.length) := by show _ = _; rw [hl]; exact infoB2
  have HA : Hid (cs.toArray.all (·.oneCell') = true) := all_oneCell_toArray (by rw [hcs]; exact yc_one s)
  have HL := Lib.hid hl
  have HCS := Lib.hid hcs
  clear hl hcs hz hZ hZs
  go_wp2_with (first
    | (with_reducible refine wpList_load_mid ?_ 87 (.tmp 19) ?_ nb (n * 64) ?_ cs (.array 64 5) ?_ ?_ ?_ ?_ ?_
       · rfl
       · rfl
       · rfl
       · exact HRG.out
       · exact Try.underlying87
       · rfl
       · exact HI.out)
    | (with_reducible refine wpList_alloc_of ?_ 87 ?_ z Z ?_ ?_ ?_
       · rfl
       · rfl
       · exact HZ.out
       · exact HZ1.out)
    | (with_reducible refine wpList_store_last ?_ 87 (.tmp 7) (.tmp 20) ?_ w Z cs.toArray ?_ ?_ ?_ ?_ ?_ ?_ ?_
       · rfl
       · rfl
       · rfl
       · rfl
       · rfl
       · exact HI.out
       · rw [HZS.out]; exact HL.out.symm
       · exact HA.out))
  go_ret2
  refine ⟨_, _, _, rfl, hs64.symm, ?_, (Below.refl _ _).alloc (Nat.le_refl _) _⟩
  rw [← HCS.out]
  exact ⟨by rw [HL.out], .inr ⟨_, 64, cs.toArray, rfl, Nat.le_refl _, heap_alloc_new w _, Nat.le_refl _, by decide, by rw [List.size_toArray, HL.out], by rw [List.toList_toArray]; exact List.take_of_length_le (by have := HL.out; omega)⟩⟩
end Go.Proofs.Ytofbignggadkiaa
