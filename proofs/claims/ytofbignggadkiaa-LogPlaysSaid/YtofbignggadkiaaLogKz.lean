/- Package log: the parts of a batch, as the function that writeBatch ranges over hands them out. -/
import Derived.RangeFuncWrites
import Derived.RangeFuncBound
import Derived.RangeFuncCalls
import Derived.RangeFuncLeaves
import Derived.Shelf.Abstract
import Derived.Shelf.RegionOpen
import Derived.WalkKit
import Derived.OwnWalkIn
import Derived.TacticsInMore
import Derived.LoopNIn
import Derived.LoopIn
import Derived.Test.YtofbignggadkiaaLogKd
namespace Go.Proofs.Ytofbignggadkiaa
open Go.RowKit Go.Shelf

attribute [local go_sem] Oper.semAt_some

/-- a part: the slice, its bytes, whether it is the last one -/
structure Pt where
  v : Value
  b : List UInt8
  last : Bool
/-- a part of bytes that stand in W0 apart from F -/
def PtOk (F : Nat → Prop) (W0 : World) (x : Pt) : Prop :=
  ∃ a m c, x.v = .slice a m c ∧ Yt (.slice a m c) x.b W0 ∧ x.b.length ≤ 46 ∧ (0 < x.b.length → ∀ y, a = some y → ¬ F y.block)
abbrev Pts (F : Nat → Prop) (W0 : World) : Type := { x : Pt // PtOk F W0 x }
abbrev Pts.tag {F : Nat → Prop} {W0 : World} (x : Pts F W0) : List UInt8 × Bool := (x.1.b, x.1.last)
abbrev Pts.enc {F : Nat → Prop} {W0 : World} (x : Pts F W0) : Array Value := #[x.1.v, .bool x.1.last]
def lenOf : Value → Nat
  | .slice _ n _ => n
  | _ => 0
theorem yt_takeN {g off n c k : Nat} {l : List UInt8} {w : World} (h : Yt (.slice (some ⟨g, off, none⟩) n c) l w) (hk : k ≤ l.length) : Yt (.slice (some ⟨g, off, none⟩) k c) (l.take k) w := by
  rcases h with ⟨_, _, e, rfl⟩ | ⟨g', off', cap, e, hc, hg, hcell⟩
  · obtain rfl : k = 0 := by simpa using hk
    exact .inl ⟨_, _, rfl, rfl⟩
  · injection e with e1 e2 e3
    injection e1 with e1
    injection e1 with e1 e4 e5
    subst e1 e2 e3 e4
    refine .inr ⟨g, off, c, by rw [List.length_take, Nat.min_eq_left hk], by rw [List.length_take]; omega, hg, fun j hj => ?_⟩
    rw [List.length_take] at hj
    rw [hcell j (by omega)]
    simp [List.getD, show j < k by omega]
theorem yt_dropN {g off n c k : Nat} {l : List UInt8} {w : World} (h : Yt (.slice (some ⟨g, off, none⟩) n c) l w) (hk : k < l.length) : Yt (.slice (some ⟨g, off + k, none⟩) (n - k) (c - k)) (l.drop k) w := by
  rcases h with ⟨_, _, e, rfl⟩ | ⟨g', off', cap, e, hc, hg, hcell⟩
  · exact absurd hk (Nat.not_lt_zero _)
  · injection e with e1 e2 e3
    injection e1 with e1
    injection e1 with e1 e4 e5
    subst e1 e2 e3 e4
    refine .inr ⟨g, off + k, c - k, by rw [List.length_drop], by rw [List.length_drop]; omega, hg, fun j hj => ?_⟩
    rw [List.length_drop] at hj
    rw [show off + k + j = off + (k + j) by omega, hcell (k + j) (by omega)]
    simp [List.getD, List.getElem?_drop]
end Go.Proofs.Ytofbignggadkiaa
/- Package log: the function that writeBatch ranges over: for every loop body. -/
namespace Go.Proofs.Ytofbignggadkiaa
open Go.RowKit Go.Shelf

attribute [local go_sem] Oper.semAt_some

set_option maxHeartbeats 2000000 in
set_option maxRecDepth 100000 in
theorem parts_stops (m : Nat) (F0 : Nat → Prop) (W0 w : World) (B : Nat) (a : Option Addr) (n c : Nat) (b : List UInt8) (hy : Yt (.slice a n c) b W0) (hx : 0 < b.length → ∀ y, a = some y → ¬ F0 y.block)
    (hB : w.cell? ⟨B, 0, none⟩ = some (.slice a n c)) (hBl : B < w.heap.size) (hbl : b.length ≤ 65536) :
    SeqStopsK Fence.wide (m + 1) Try.prog 63 #[.pointer (some ⟨B, 0, none⟩)] (fun x : Pts F0 W0 => x.enc) (fun _ _ => True)
      (fun xs => xs.map Pts.tag = Lm.tg (Lm.parts b)) (fun pre => pre.map Pts.tag <+: Lm.tg (Lm.parts b)) (Lm.tg (Lm.parts b)).length w := fun l J Jx W hbw _ _ hY h0 => by
  have hBW : W.cell? ⟨B, 0, none⟩ = some (.slice a n c) := (hbw.cell (p := ⟨B, 0, none⟩) hBl).trans hB
  obtain ⟨T, hT⟩ : ∃ T, T = Lm.tg (Lm.parts b) := ⟨_, rfl⟩
  rw [← hT] at hY ⊢
  refine callsIn_of_wp Try.func63 rfl trivial ?_ rfl
  simp only [Try.ntmps63, List.size_toArray, List.length_cons, List.length_nil, Nat.reduceAdd, Nat.reduceSub, Array.replicate_succ, Array.replicate_zero, List.push_toArray, List.append_toArray, List.nil_append, List.cons_append]
  gi_wp2
  clear hB hBl hbw hBW
  gi_loopw [3] (fun p wr => ∃ (pre : List (Pts F0 W0)) (rb : List UInt8) (ra : Option Addr) (rn rc : Nat), p = .slice ra rn rc ∧ Hid (Yt (.slice ra rn rc) rb W0) ∧ Hid (0 < rb.length → ∀ y, ra = some y → ¬ F0 y.block) ∧ rn = rb.length ∧ Hid (pre.map Pts.tag ++ Lm.tg (Lm.parts rb) = T) ∧ (rn : Int) ≤ 65536 ∧ J pre wr)
    (fun p _ => lenOf p)
  case atStart =>
    exact ⟨[], b, a, n, c, rfl, hy, hx, by obtain ⟨_, _, e⟩ := hy.form; injection e, hT.symm, by obtain ⟨_, _, e⟩ := hy.form; injection e with e1 e2; omega, h0⟩
  case round =>
    obtain ⟨pre, rb, ra, rn, rc, rfl, HYR, HXR, hrn, HTR, hbig, hJ⟩ := hrel
    by_cases hlong : (46 : Int) < (rn : Int)
    case pos =>
      have hlr : 46 < rb.length := by omega
      obtain ⟨g, off, cap, e, hc, hg⟩ : ∃ g off cap, Value.slice ra rn rc = .slice (some ⟨g, off, none⟩) rb.length cap ∧ rb.length ≤ cap ∧ g < W0.heap.size := by
        rcases HYR.out with ⟨_, _, _, e⟩ | ⟨g, off, cap, e, hc, hg, _⟩
        · rw [e] at hlr; exact absurd hlr (by decide)
        · exact ⟨g, off, cap, e, hc, hg⟩
      injection e with e1 e2 e3
      subst e1 e3
      have hpl : pre.length < T.length := by
        rw [← HTR.out, List.length_append, List.length_map, Lm.tg_long hlr, List.length_cons]; omega
      have hyx : Yt (.slice (some ⟨g, off, none⟩) 46 rc) (rb.take 46) W0 := yt_takeN HYR.out (by omega)
      obtain ⟨x, hxv, hxb, hxl⟩ : ∃ x : Pts F0 W0, x.1.v = .slice (some ⟨g, off, none⟩) 46 rc ∧ x.1.b = rb.take 46 ∧ x.1.last = false :=
        ⟨⟨⟨.slice (some ⟨g, off, none⟩) 46 rc, rb.take 46, false⟩, ⟨_, _, _, rfl, hyx, by simp; omega, fun _ y e => HXR.out (by omega) y e⟩⟩, rfl, rfl, rfl⟩
      obtain ⟨fn, tmps, assign, body, hyy, hR⟩ := hY pre x wr hJ hpl
      simp only [Pts.enc, hxv, hxl] at hyy
      have hcap : (46 : Int) < (rc : Int) := by omega
      have HRN := Lib.hid hrn; have HC := Lib.hid hc; have HLR := Lib.hid hlr
      clear hrn hc hlr e2 hyx
      gi_wp2
      refine hR.mono ?_
      rintro e W1 (⟨rfl, hJ1, _⟩ | ⟨rfl, hJx⟩)
      · gi_wp2
        go_roundw
        case rel =>
          refine ⟨pre ++ [x], rb.drop 46, some ⟨g, off + 46, none⟩, rn - 46, rc - 46, rfl, ?_, ?_, ?_, ?_, ?_, hJ1⟩
          · exact yt_dropN HYR.out HLR.out
          · exact fun _ y e => by injection e with e; subst e; exact HXR.out (by have := HLR.out; omega) ⟨g, off, none⟩ rfl
          · have := HRN.out; rw [List.length_drop]; omega
          · show _ = _
            rw [← HTR.out, List.map_append, List.append_assoc, Lm.tg_long HLR.out]
            simp [Pts.tag, hxb, hxl]
          · omega
        case measure =>
          show rn - 46 < rn
          omega
      · gi_wp2
        refine bodyPost_ret (results_none rfl _ _ _) rfl ?_
        refine ⟨⟨_, rfl⟩, .inr ⟨pre ++ [x], ?_, hJx⟩⟩
        rw [← HTR.out, Lm.tg_long HLR.out]
        exact ⟨Lm.tg (Lm.parts (rb.drop 46)), by simp [Pts.tag, hxb, hxl]⟩
    case neg =>
      have hlr : rb.length ≤ 46 := by omega
      have hpl : pre.length < T.length := by
        rw [← HTR.out, List.length_append, List.length_map, Lm.tg_short hlr, List.length_cons]; omega
      obtain ⟨x, hxv, hxb, hxl⟩ : ∃ x : Pts F0 W0, x.1.v = .slice ra rn rc ∧ x.1.b = rb ∧ x.1.last = true :=
        ⟨⟨⟨.slice ra rn rc, rb, true⟩, ⟨_, _, _, rfl, HYR.out, hlr, HXR.out⟩⟩, rfl, rfl, rfl⟩
      obtain ⟨fn, tmps, assign, body, hyy, hR⟩ := hY pre x wr hJ hpl
      simp only [Pts.enc, hxv, hxl] at hyy
      have HRN := Lib.hid hrn; have HLR := Lib.hid hlr
      have hle : (rn : Int) ≤ 46 := by omega
      clear hrn hlr hlong
      gi_wp2
      refine hR.mono ?_
      rintro e W1 (⟨rfl, hJ1, _⟩ | ⟨rfl, hJx⟩)
      · gi_wp2
        go_end0
        refine ⟨⟨_, rfl⟩, .inl ⟨pre ++ [x], ?_, hJ1⟩⟩
        rw [← HTR.out, Lm.tg_short HLR.out]
        simp [Pts.tag, hxb, hxl]
      · gi_wp2
        go_end0
        refine ⟨⟨_, rfl⟩, .inr ⟨pre ++ [x], ?_, hJx⟩⟩
        rw [← HTR.out, Lm.tg_short HLR.out]
        exact ⟨[], by simp [Pts.tag, hxb, hxl]⟩
end Go.Proofs.Ytofbignggadkiaa
