/- Package log: the parts of a batch, as the function that writeBatch ranges over hands them out. -/
import Derived.RangeFuncWrites
import Derived.RangeFuncBound
import Derived.RangeFuncCalls
import Derived.RangeFuncLeaves
import Derived.Shelf.Abstract
import Derived.Shelf.RegionOpen
import Derived.WalkKit
import Derived.OwnWalkIn
import Derived.TacticsInMore
import Derived.LoopNIn
import Derived.LoopIn
import Derived.Test.YtmcjkaoddjakhaaLogKd
namespace Go.Proofs.Ytmcjkaoddjakhaa
open Go.RowKit Go.Shelf

attribute [local go_sem] Oper.semAt_some

namespace Lm
theorem cut_more : ∀ (n m : Nat) (b : List UInt8), b.length ≤ n → b.length ≤ m → cut n b = cut m b
  | 0, 0, _, _, _ => rfl
  | 0, m + 1, b, h, _ => by
    have : ¬ 46 < b.length := by omega
    simp [cut, this]
  | n + 1, 0, b, _, h => by
    have : ¬ 46 < b.length := by omega
    simp [cut, this]
  | n + 1, m + 1, b, h1, h2 => by
    unfold cut
    by_cases hb : 46 < b.length
    · rw [if_pos hb, if_pos hb, cut_more n m (b.drop 46) (by rw [List.length_drop]; omega) (by rw [List.length_drop]; omega)]
    · rw [if_neg hb, if_neg hb]
theorem parts_long {b : List UInt8} (h : 46 < b.length) : parts b = b.take 46 :: parts (b.drop 46) := by
  unfold parts
  obtain ⟨n, hn⟩ : ∃ n, b.length = n + 1 := ⟨b.length - 1, by omega⟩
  rw [hn, cut, if_pos h, cut_more n (b.drop 46).length _ (by rw [List.length_drop]; omega) (Nat.le_refl _)]
theorem parts_short {b : List UInt8} (h : b.length ≤ 46) : parts b = [b] := by
  unfold parts
  cases hb : b.length with
  | zero => rfl
  | succ n => rw [cut, if_neg (by omega)]
/-- each part with the word whether it is the last one -/
def tg : List (List UInt8) → List (List UInt8 × Bool)
  | [] => []
  | p :: r => (p, r.isEmpty) :: tg r
theorem tg_len : ∀ l, (tg l).length = l.length
  | [] => rfl
  | _ :: r => by simp [tg, tg_len r]
theorem tg_long {b : List UInt8} (h : 46 < b.length) : tg (parts b) = (b.take 46, false) :: tg (parts (b.drop 46)) := by
  rw [parts_long h, tg]
  have := parts_ne (b.drop 46)
  cases hp : parts (b.drop 46) with
  | nil => exact absurd hp this
  | cons x r => rfl
theorem tg_short {b : List UInt8} (h : b.length ≤ 46) : tg (parts b) = [(b, true)] := by rw [parts_short h]; rfl
/-- frames are written till one fails -/
def wr (ep : Nat) : List (List UInt8 × Bool) → Nat → Sm.Dv → Sm.Dv × Int
  | [], _, d => (d, 0)
  | p :: r, k, d =>
    if (Sm.write d ((2 + k : Nat) : Int) (fsec ep k p.2 p.1)).2 ≠ 0 then Sm.write d ((2 + k : Nat) : Int) (fsec ep k p.2 p.1)
    else wr ep r (k + 1) (Sm.write d ((2 + k : Nat) : Int) (fsec ep k p.2 p.1)).1
theorem wr_put (ep : Nat) : ∀ (ps : List (List UInt8)) (k : Nat) (d : Sm.Dv), wr ep (tg ps) k d = put ep ps k d
  | [], _, _ => rfl
  | p :: r, k, d => by simp only [tg, wr, put, wr_put ep r]
theorem wr_snoc (ep : Nat) (x : List UInt8 × Bool) : ∀ (l : List (List UInt8 × Bool)) (k : Nat) (d : Sm.Dv), (wr ep l k d).2 = 0 → wr ep (l ++ [x]) k d = Sm.write (wr ep l k d).1 ((2 + (k + l.length) : Nat) : Int) (fsec ep (k + l.length) x.2 x.1)
  | [], k, d, _ => by
    simp only [List.nil_append, wr, List.length_nil, Nat.add_zero]
    by_cases h : (Sm.write d ((2 + k : Nat) : Int) (fsec ep k x.2 x.1)).2 = 0
    · rw [if_neg (fun c => c h)]; exact Prod.ext rfl h.symm
    · rw [if_pos h]
  | p :: r, k, d, h => by
    simp only [List.cons_append, wr] at h ⊢
    by_cases h1 : (Sm.write d ((2 + k : Nat) : Int) (fsec ep k p.2 p.1)).2 = 0
    · rw [if_neg (fun c => c h1)] at h ⊢
      rw [if_neg (fun c => c h1), wr_snoc ep x r (k + 1) _ h, List.length_cons, show k + 1 + r.length = k + (r.length + 1) by omega]
    · rw [if_pos h1] at h; exact absurd h h1
theorem wr_stop (ep : Nat) : ∀ (l m : List (List UInt8 × Bool)) (k : Nat) (d : Sm.Dv), (wr ep l k d).2 ≠ 0 → wr ep (l ++ m) k d = wr ep l k d
  | [], _, _, _, h => absurd rfl h
  | p :: r, m, k, d, h => by
    simp only [List.cons_append, wr] at h ⊢
    by_cases h1 : (Sm.write d ((2 + k : Nat) : Int) (fsec ep k p.2 p.1)).2 = 0
    · rw [if_neg (fun c => c h1)] at h ⊢
      rw [if_neg (fun c => c h1), wr_stop ep r m _ _ h]
    · rw [if_pos h1, if_pos h1]
end Lm
/-- a part: the slice, its bytes, whether it is the last one -/
structure Pt where
  v : Value
  b : List UInt8
  last : Bool
/-- a part of bytes that stand in W0 apart from F -/
def PtOk (F : Nat → Prop) (W0 : World) (x : Pt) : Prop :=
  ∃ a m c, x.v = .slice a m c ∧ Yt (.slice a m c) x.b W0 ∧ x.b.length ≤ 46 ∧ (0 < x.b.length → ∀ y, a = some y → ¬ F y.block)
abbrev Pts (F : Nat → Prop) (W0 : World) : Type := { x : Pt // PtOk F W0 x }
abbrev Pts.tag {F : Nat → Prop} {W0 : World} (x : Pts F W0) : List UInt8 × Bool := (x.1.b, x.1.last)
abbrev Pts.enc {F : Nat → Prop} {W0 : World} (x : Pts F W0) : Array Value := #[x.1.v, .bool x.1.last]
def lenOf : Value → Nat
  | .slice _ n _ => n
  | _ => 0
theorem yt_takeN {g off n c k : Nat} {l : List UInt8} {w : World} (h : Yt (.slice (some ⟨g, off, none⟩) n c) l w) (hk : k ≤ l.length) : Yt (.slice (some ⟨g, off, none⟩) k c) (l.take k) w := by
  rcases h with ⟨_, _, e, rfl⟩ | ⟨g', off', cap, e, hc, hg, hcell⟩
  · obtain rfl : k = 0 := by simpa using hk
    exact .inl ⟨_, _, rfl, rfl⟩
  · injection e with e1 e2 e3
    injection e1 with e1
    injection e1 with e1 e4 e5
    subst e1 e2 e3 e4
    refine .inr ⟨g, off, c, by rw [List.length_take, Nat.min_eq_left hk], by rw [List.length_take]; omega, hg, fun j hj => ?_⟩
    rw [List.length_take] at hj
    rw [hcell j (by omega)]
    simp [List.getD, show j < k by omega]
theorem yt_dropN {g off n c k : Nat} {l : List UInt8} {w : World} (h : Yt (.slice (some ⟨g, off, none⟩) n c) l w) (hk : k < l.length) : Yt (.slice (some ⟨g, off + k, none⟩) (n - k) (c - k)) (l.drop k) w := by
  rcases h with ⟨_, _, e, rfl⟩ | ⟨g', off', cap, e, hc, hg, hcell⟩
  · exact absurd hk (Nat.not_lt_zero _)
  · injection e with e1 e2 e3
    injection e1 with e1
    injection e1 with e1 e4 e5
    subst e1 e2 e3 e4
    refine .inr ⟨g, off + k, c - k, by rw [List.length_drop], by rw [List.length_drop]; omega, hg, fun j hj => ?_⟩
    rw [List.length_drop] at hj
    rw [show off + k + j = off + (k + j) by omega, hcell (k + j) (by omega)]
    simp [List.getD, List.getElem?_drop]
end Go.Proofs.Ytmcjkaoddjakhaa
/- Package log: the function that writeBatch ranges over: for every loop body. -/
namespace Go.Proofs.Ytmcjkaoddjakhaa
open Go.RowKit Go.Shelf

attribute [local go_sem] Oper.semAt_some

set_option maxHeartbeats 2000000 in
set_option maxRecDepth 100000 in
theorem parts_stops (m : Nat) (F0 : Nat → Prop) (W0 w : World) (B : Nat) (a : Option Addr) (n c : Nat) (b : List UInt8) (hy : Yt (.slice a n c) b W0) (hx : 0 < b.length → ∀ y, a = some y → ¬ F0 y.block)
    (hB : w.cell? ⟨B, 0, none⟩ = some (.slice a n c)) (hBl : B < w.heap.size) (hbl : b.length ≤ 65536) :
    SeqStopsK Fence.wide (m + 1) Try.prog 67 #[.pointer (some ⟨B, 0, none⟩)] (fun x : Pts F0 W0 => x.enc) (fun _ _ => True)
      (fun xs => xs.map Pts.tag = Lm.tg (Lm.parts b)) (fun pre => pre.map Pts.tag <+: Lm.tg (Lm.parts b)) (Lm.tg (Lm.parts b)).length w := fun l J Jx W hbw _ _ hY h0 => by
  have hBW : W.cell? ⟨B, 0, none⟩ = some (.slice a n c) := (hbw.cell (p := ⟨B, 0, none⟩) hBl).trans hB
  obtain ⟨T, hT⟩ : ∃ T, T = Lm.tg (Lm.parts b) := ⟨_, rfl⟩
  rw [← hT] at hY ⊢
  refine callsIn_of_wp Try.func67 rfl trivial ?_ rfl
  simp only [Try.ntmps67, List.size_toArray, List.length_cons, List.length_nil, Nat.reduceAdd, Nat.reduceSub, Array.replicate_succ, Array.replicate_zero, List.push_toArray, List.append_toArray, List.nil_append, List.cons_append]
  gi_wp2
  clear hB hBl hbw hBW
  gi_loopw [3] (fun p wr => ∃ (pre : List (Pts F0 W0)) (rb : List UInt8) (ra : Option Addr) (rn rc : Nat), p = .slice ra rn rc ∧ Hid (Yt (.slice ra rn rc) rb W0) ∧ Hid (0 < rb.length → ∀ y, ra = some y → ¬ F0 y.block) ∧ rn = rb.length ∧ Hid (pre.map Pts.tag ++ Lm.tg (Lm.parts rb) = T) ∧ (rn : Int) ≤ 65536 ∧ J pre wr)
    (fun p _ => lenOf p)
  case atStart =>
    exact ⟨[], b, a, n, c, rfl, hy, hx, by obtain ⟨_, _, e⟩ := hy.form; injection e, hT.symm, by obtain ⟨_, _, e⟩ := hy.form; injection e with e1 e2; omega, h0⟩
  case round =>
    obtain ⟨pre, rb, ra, rn, rc, rfl, HYR, HXR, hrn, HTR, hbig, hJ⟩ := hrel
    by_cases hlong : (46 : Int) < (rn : Int)
    case pos =>
      have hlr : 46 < rb.length := by omega
      obtain ⟨g, off, cap, e, hc, hg⟩ : ∃ g off cap, Value.slice ra rn rc = .slice (some ⟨g, off, none⟩) rb.length cap ∧ rb.length ≤ cap ∧ g < W0.heap.size := by
        rcases HYR.out with ⟨_, _, _, e⟩ | ⟨g, off, cap, e, hc, hg, _⟩
        · rw [e] at hlr; exact absurd hlr (by decide)
        · exact ⟨g, off, cap, e, hc, hg⟩
      injection e with e1 e2 e3
      subst e1 e3
      have hpl : pre.length < T.length := by
        rw [← HTR.out, List.length_append, List.length_map, Lm.tg_long hlr, List.length_cons]; omega
      have hyx : Yt (.slice (some ⟨g, off, none⟩) 46 rc) (rb.take 46) W0 := yt_takeN HYR.out (by omega)
      obtain ⟨x, hxv, hxb, hxl⟩ : ∃ x : Pts F0 W0, x.1.v = .slice (some ⟨g, off, none⟩) 46 rc ∧ x.1.b = rb.take 46 ∧ x.1.last = false :=
        ⟨⟨⟨.slice (some ⟨g, off, none⟩) 46 rc, rb.take 46, false⟩, ⟨_, _, _, rfl, hyx, by simp; omega, fun _ y e => HXR.out (by omega) y e⟩⟩, rfl, rfl, rfl⟩
      obtain ⟨fn, tmps, assign, body, hyy, hR⟩ := hY pre x wr hJ hpl
      simp only [Pts.enc, hxv, hxl] at hyy
      have hcap : (46 : Int) < (rc : Int) := by omega
      have HRN := Lib.hid hrn; have HC := Lib.hid hc; have HLR := Lib.hid hlr
      clear hrn hc hlr e2 hyx
      gi_wp2
      refine hR.mono ?_
      rintro e W1 (⟨rfl, hJ1, _⟩ | ⟨rfl, hJx⟩)
      · gi_wp2
        go_roundw
        case rel =>
          refine ⟨pre ++ [x], rb.drop 46, some ⟨g, off + 46, none⟩, rn - 46, rc - 46, rfl, ?_, ?_, ?_, ?_, ?_, hJ1⟩
          · exact yt_dropN HYR.out HLR.out
          · exact fun _ y e => by injection e with e; subst e; exact HXR.out (by have := HLR.out; omega) ⟨g, off, none⟩ rfl
          · have := HRN.out; rw [List.length_drop]; omega
          · show _ = _
            rw [← HTR.out, List.map_append, List.append_assoc, Lm.tg_long HLR.out]
            simp [Pts.tag, hxb, hxl]
          · omega
        case measure =>
          show rn - 46 < rn
          omega
      · gi_wp2
        refine bodyPost_ret (results_none rfl _ _ _) rfl ?_
        refine ⟨⟨_, rfl⟩, .inr ⟨pre ++ [x], ?_, hJx⟩⟩
        rw [← HTR.out, Lm.tg_long HLR.out]
        exact ⟨Lm.tg (Lm.parts (rb.drop 46)), by simp [Pts.tag, hxb, hxl]⟩
    case neg =>
      have hlr : rb.length ≤ 46 := by omega
      have hpl : pre.length < T.length := by
        rw [← HTR.out, List.length_append, List.length_map, Lm.tg_short hlr, List.length_cons]; omega
      obtain ⟨x, hxv, hxb, hxl⟩ : ∃ x : Pts F0 W0, x.1.v = .slice ra rn rc ∧ x.1.b = rb ∧ x.1.last = true :=
        ⟨⟨⟨.slice ra rn rc, rb, true⟩, ⟨_, _, _, rfl, HYR.out, hlr, HXR.out⟩⟩, rfl, rfl, rfl⟩
      obtain ⟨fn, tmps, assign, body, hyy, hR⟩ := hY pre x wr hJ hpl
      simp only [Pts.enc, hxv, hxl] at hyy
      have HRN := Lib.hid hrn; have HLR := Lib.hid hlr
      have hle : (rn : Int) ≤ 46 := by omega
      clear hrn hlr hlong
      gi_wp2
      refine hR.mono ?_
      rintro e W1 (⟨rfl, hJ1, _⟩ | ⟨rfl, hJx⟩)
      · gi_wp2
        go_end0
        refine ⟨⟨_, rfl⟩, .inl ⟨pre ++ [x], ?_, hJ1⟩⟩
        rw [← HTR.out, Lm.tg_short HLR.out]
        simp [Pts.tag, hxb, hxl]
      · gi_wp2
        go_end0
        refine ⟨⟨_, rfl⟩, .inr ⟨pre ++ [x], ?_, hJx⟩⟩
        rw [← HTR.out, Lm.tg_short HLR.out]
        exact ⟨[], by simp [Pts.tag, hxb, hxl]⟩
end Go.Proofs.Ytmcjkaoddjakhaa
