/- Layer 5: long; what the laws take of package keys, as one bundle. -/
import Derived.Test.YtamclbagafcmgaaDoorKeyRef1
import Derived.Test.YtamclbagafcmgaaDoorKeyRef5
import Derived.Test.YtamclbagafcmgaaDoorValFrame
namespace Go.Proofs.YtamclbagafcmgaaDoor
open Go.RowKit

/-- what long leaves -/
def LongA (cs : List Vm.Cl) (w : World) (e : Ending) (w' : World) : Prop :=
  ∃ b, e = .returned (.bool b) ∧ Below w.heap.size w w' ∧ (b = false → cs.length ≤ 20 ∧ ∀ c ∈ cs, c.s.size ≤ 500)

set_option maxHeartbeats 1000000 in
set_option maxRecDepth 100000 in
theorem law5_long (a : Option Addr) (n cap : Nat) (cs : List Vm.Cl) (w : World) (hv : Vs (.slice a n cap) cs w) (hl : n ≤ maxLen) (hi : ∀ c ∈ cs, c.s.size ≤ maxLen) :
    Calls Tryd.prog 9 #[.slice a n cap] w (LongA cs w) := by
  have hnl : n = cs.length := by obtain ⟨b, d, e⟩ := hv.form; injection e
  have hn1 : n ≤ cs.length := by omega
  have hn2 : cs.length ≤ n := by omega
  unfold maxLen at hl
  clear hnl
  have HV := Lib.hid hv
  have HI := Lib.hid hi
  clear hv hi
  go_enter Tryd.func9, Tryd.ntmps9
  go_wp2
  go_loopw [7] (fun iv wr => ∃ j : Nat, j ≤ n ∧ iv = .int .i64 (j : Int) ∧ j ≤ 20 ∧ Hid (∀ c ∈ cs.take j, c.s.size ≤ 500) ∧ Hid (Below w.heap.size w wr)) (fun iv _ => n - (Lib.intOf iv).toNat)
  case atStart => exact ⟨0, by omega, rfl, by omega, fun c hc => by simp at hc, Below.refl _ _⟩
  case round =>
    obtain ⟨j, hj, rfl, hj20, HA, HB⟩ := hrel
    have hwr := HB.out.size
    by_cases hlt : j < n
    · have hjl : j < cs.length := by omega
      obtain ⟨g, off, ha, -, hg, hb⟩ := (HV.out.keep HB.out).at j hjl
      obtain ⟨c, hc⟩ : ∃ c, c = cs[j] := ⟨_, rfl⟩
      rw [← hc] at hb
      have hci := HI.out c (by rw [hc]; exact List.getElem_mem hjl)
      have HT : Hid (c.s.size ≤ 500 → ∀ d ∈ cs.take (j + 1), d.s.size ≤ 500) := by
        intro h d hd
        rw [← List.take_append_getElem hjl, ← hc, List.mem_append, List.mem_singleton] at hd
        rcases hd with hd | rfl
        · exact HA.out d hd
        · exact h
      unfold maxLen at hci
      clear hc
      subst ha
      obtain ⟨ck, cn, cc, cz⟩ := c
      obtain ⟨c0, c1, c2, c3⟩ := hb
      dsimp only at c0 c1 c2 c3 HT hci
      have HB2 := Lib.hid (HB.out.alloc HB.out.size (.cells #[.int .i64 ck, .int .i64 cn, .int .i64 cc, .string cz] 29))
      by_cases h20 : j = 20
      · have q : decide ((j : Int) < 20) = false := by simp; omega
        have q2 : (20 : Int) ≤ (j : Int) := by omega
        clear h20 hj20
        go_wp2
        go_ret
        exact ⟨true, rfl, HB2.out, fun h => by cases h⟩
      · have q2 : (j : Int) < 20 := by omega
        by_cases h5 : cz.size ≤ 500
        · have hz : (cz.size : Int) ≤ 500 := by omega
          have HA2 := Lib.hid (HT.out h5)
          clear h5 HT HA
          go_wp2
          go_roundw
          case rel => exact ⟨j + 1, by omega, by go_num, by omega, HA2, HB2⟩
          case measure => simp [Lib.intOf]; omega
        · have hz : (500 : Int) < (cz.size : Int) := by omega
          clear h5 HT
          go_wp2
          go_ret
          exact ⟨true, rfl, HB2.out, fun h => by cases h⟩
    · have hjn : j = cs.length := by omega
      have HF : Hid (cs.length ≤ 20 ∧ ∀ c ∈ cs, c.s.size ≤ 500) := by
        refine ⟨by omega, ?_⟩
        have := HA.out
        rw [hjn, List.take_length] at this; exact this
      clear hjn HA
      go_wp2
      go_ret
      exact ⟨false, rfl, HB.out, fun _ => HF.out⟩

/-- what a function that answers bytes leaves -/
def YtA (l : List UInt8) (w : World) (e : Ending) (w' : World) : Prop :=
  ∃ a n cap, e = .returned (.slice a n cap) ∧ n = l.length ∧ Yt (.slice a n cap) l w' ∧ Below w.heap.size w w'
/-- what keys.Next leaves -/
def NtA (l : List UInt8) (w : World) (e : Ending) (w' : World) : Prop :=
  ∃ a n cap, e = .returned (.tuple #[.agg #[.int .i64 (Vm.nxt l).1.k, .int .i64 (Vm.nxt l).1.n, .int .i64 (Vm.nxt l).1.sc, .string (Vm.nxt l).1.s], .slice a n cap, .bool (Vm.next l).isSome]) ∧
    n = (if (Vm.next l).isSome then l.drop (Vm.nxt l).2 else []).length ∧ Yt (.slice a n cap) (if (Vm.next l).isSome then l.drop (Vm.nxt l).2 else []) w' ∧ Below w.heap.size w w'

/-- the contracts of package keys -/
structure KeyCon : Prop where
  put : ∀ (a : Option Addr) (n cap : Nat) (cs : List Vm.Cl) (w : World) (_he : EnvV w) (_hv : Vs (.slice a n cap) cs w) (_hl : cs.length ≤ 100) (_hi : ∀ c ∈ cs, i64 c.n ∧ c.s.size ≤ 500), Calls Tryd.prog 10 #[.slice a n cap] w (YtA (Vm.put cs) w)
  get : ∀ (a : Option Addr) (n cap : Nat) (l : List UInt8) (w : World) (_he : EnvV w) (_hv : Yt (.slice a n cap) l w) (_hl : l.length ≤ 50000), Calls Tryd.prog 12 #[.slice a n cap] w (GtA (Vm.get l) w)
  next : ∀ (a : Option Addr) (n cap : Nat) (l : List UInt8) (w : World) (_he : EnvV w) (_hv : Yt (.slice a n cap) l w) (_hl : l.length ≤ 50000), Calls Tryd.prog 16 #[.slice a n cap] w (NtA l w)
  above : ∀ (a : Option Addr) (n cap : Nat) (l : List UInt8) (w : World) (_he : EnvV w) (_hv : Yt (.slice a n cap) l w) (_hl : l.length ≤ 50000), Calls Tryd.prog 21 #[.slice a n cap] w (YtA (Vm.above l) w)
end Go.Proofs.YtamclbagafcmgaaDoor
