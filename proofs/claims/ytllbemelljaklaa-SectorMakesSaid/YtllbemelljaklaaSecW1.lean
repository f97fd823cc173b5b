/- Layer 6: the walk of SectorMakes. -/
import Derived.Test.YtllbemelljaklaaSecW0
import Derived.Deep.RegionHeld3
namespace Go.Proofs.Ytllbemelljaklaa
open Go.RowKit

namespace Sm
theorem read_new {n i : Nat} (hi : i < n) : read (new n) (i : Int) = (full [], 0) := by
  rw [read_free rfl (by omega) (by show (i : Int) < ((List.replicate n (full [])).length : Int); rw [List.length_replicate]; omega)]
  show (last ((List.replicate n (full [])).getD i []) i [], 0) = _
  rw [last, List.getD, List.getElem?_replicate, if_pos hi]; rfl
theorem read_none (n : Nat) : read (new n) (n : Int) = ([], 2) := by
  have hc : check (new n) (n : Int) 0 = 2 := by
    unfold check
    rw [if_pos (.inr (.inl (by show ((List.replicate n (full [])).length : Int) ≤ (n : Int); rw [List.length_replicate]; omega)))]
  unfold read
  rw [hc]; rfl
end Sm
structure MkS (Dev : Nat → Sm.Dv → (Nat → Prop) → World → Prop) (g : Nat) (d : Sm.Dv) (F : Nat → Prop) (w : World) (a : Option Addr) (n c : Nat) (l : List UInt8) (W : World) : Prop where
  d : Dev g d F W
  y : Yt (.slice a n c) l W
  b : Below w.heap.size w W
abbrev MkC (Dev : Nat → Sm.Dv → (Nat → Prop) → World → Prop) (g : Nat) (d : Sm.Dv) (F : Nat → Prop) (w : World) (a : Option Addr) (n c : Nat) (l : List UInt8) (S : ByteArray) (W : World) : Prop :=
  (convert 31 9 (.slice a n c)).run Try.prog W = .ok (.string S) W ∧ Hid (MkS Dev g d F w a n c l W)
theorem MkC.of {Dev : Nat → Sm.Dv → (Nat → Prop) → World → Prop} {g : Nat} {d : Sm.Dv} {F : Nat → Prop} {w : World} {a : Option Addr} {n c : Nat} {l : List UInt8} {W : World} (h : MkS Dev g d F w a n c l W) (S : ByteArray) (hS : S = bstr l) : MkC Dev g d F w a n c l S W :=
  ⟨by rw [hS]; exact Yt.str h.y, h⟩
theorem MkC.keep {Dev : Nat → Sm.Dv → (Nat → Prop) → World → Prop} (V : SecCon Dev) {g : Nat} {d : Sm.Dv} {F : Nat → Prop} {w : World} {a : Option Addr} {n c : Nat} {l : List UInt8} {W W' : World} {S' : ByteArray} (h : MkC Dev g d F w a n c l S' W) (hb : Below W.heap.size W W') (S : ByteArray) (hS : S = bstr l) : MkC Dev g d F w a n c l S W' :=
  MkC.of ⟨V.below h.2.out.d hb, h.2.out.y.keep hb, h.2.out.b.trans (hb.mono h.2.out.b.size)⟩ S hS
theorem MkC.dev {Dev : Nat → Sm.Dv → (Nat → Prop) → World → Prop} {g : Nat} {d : Sm.Dv} {F : Nat → Prop} {w : World} {a : Option Addr} {n c : Nat} {l : List UInt8} {W : World} {S : ByteArray} (h : MkC Dev g d F w a n c l S W) : Dev g d F W := h.2.out.d
set_option maxHeartbeats 4000000 in
set_option maxRecDepth 100000 in
theorem walk_makes_good {Dev : Nat → Sm.Dv → (Nat → Prop) → World → Prop} (V : SecCon Dev) (m : Nat) (w : World) (h1 : 1 ≤ (m : Int)) (h2 : (m : Int) ≤ 65536) : Calls Try.prog 4 #[.int .i64 (m : Int)] w fun e w' => e = .returned (.bool true) ∧ Below w.heap.size w w' := by
  have HV := Lib.hid V
  clear V
  have q1 : decide ((1 : Int) ≤ (m : Int)) = true := by simpa using h1
  have hw : IntKind.i64.wrap ((m : Int) - 1) = ((m - 1 : Nat) : Int) := by rw [IntWalk.i64_in _ (by omega)]; omega
  go_enter Try.func4, Try.ntmps4
  go_wp2_with fail
  refine (walk_first HV.out w).mono ?_
  rintro e w1 ⟨rfl, hb1⟩
  have HB1 := Lib.hid hb1
  clear hb1
  go_wp2_with fail
  refine (HV.out.new m w1 (by omega) (by omega)).mono ?_
  rintro e w2 ⟨g, F, rfl, hd, hF, hb⟩
  have HD2 := Lib.hid hd; have HB2 := Lib.hid (HB1.out.trans (hb.mono HB1.out.size))
  clear hd hF hb HB1
  go_wp2_with fail
  refine (HV.out.read ((m - 1 : Nat) : Int) HD2.out (by show ([] : List Sm.Wr).length ≤ 1000; decide)).mono ?_
  rintro e w3 ⟨a3, c3, n3, rfl, hn3, ho3, hb⟩
  rw [Sm.read_new (by omega)] at hn3 ho3 ⊢
  replace hn3 : n3 = 64 := hn3
  subst hn3
  have HD3 := Lib.hid (HV.out.below HD2.out hb); have HB3 := Lib.hid (HB2.out.trans (hb.mono HB2.out.size)); have HY3 := Lib.hid (Yt.of_own ho3)
  clear hb HD2 HB2 ho3
  dsimp only
  go_wp2_with fail
  refine (HV.out.read (m : Int) HD3.out (by show ([] : List Sm.Wr).length ≤ 1000; decide)).mono ?_
  rintro e w4 ⟨a4, c4, n4, rfl, hn4, ho4, hb⟩
  rw [Sm.read_none] at hn4 ho4 ⊢
  have HD4 := Lib.hid (HV.out.below HD3.out (hb.trans (⟨rfl, rfl, rfl, Nat.le_refl _, fun _ _ => rfl⟩ : Below w3.heap.size w4 w4.drew))); have HB4 := Lib.hid (HB3.out.trans ((hb.trans (⟨rfl, rfl, rfl, Nat.le_refl _, fun _ _ => rfl⟩ : Below w3.heap.size w4 w4.drew)).mono HB3.out.size)); have HY4 := Lib.hid (HY3.out.keep (hb.trans (⟨rfl, rfl, rfl, Nat.le_refl _, fun _ _ => rfl⟩ : Below w3.heap.size w4 w4.drew)))
  obtain ⟨S, hS⟩ : ∃ S, S = bstr (Sm.full []) := ⟨_, rfl⟩
  have hSS : (S.toList == S.toList) = true := by simp
  have HFU : Hid (∀ W, Calls Try.prog 23 #[.string ⟨#[]⟩] W fun e w' => e = .returned (.string S) ∧ W = w') := fun W => by rw [hS]; exact ref6_full [] W (by decide)
  have HS := Lib.hid hS
  have HM : Hid (((Sm.new m).kept.length : Int) = (m : Int)) := by show ((List.replicate m (Sm.full [])).length : Int) = (m : Int); rw [List.length_replicate]
  clear hb HD3 HB3 HY3 ho4 hn4 hS h1 h2 q1 hw
  dsimp only
  go_upto_region 7 with (fail)
  have S0 := Lib.hid (MkC.of (show MkS Dev g (Sm.new m) F w a3 64 c3 (Sm.full []) w4.drew from ⟨HD4.out, HY4.out, HB4.out⟩) S HS.out)
  clear HD4 HY4 HB4
  go_region_held3 (fun w' => (convert 31 9 (.slice a3 64 c3)).run Try.prog w' = .ok (.string S) w' ∧ Hid (MkS Dev g (Sm.new m) F w a3 64 c3 (Sm.full []) w')) (first | exact S0.out | exact MkC.keep HV.out (by assumption) hb S HS.out)
    (first
    | (go_at_call 23; refine (HFU.out _).mono ?_; rintro e w5 ⟨rfl, rfl⟩)
    | (go_at_call 22; refine (HV.out.sectors (MkC.dev (by assumption))).mono ?_; rintro e w6 ⟨rfl, hb⟩; rw [HM.out]))
  all_goals
    rename_i w9 hHeld
    have HF := Lib.hid hHeld.2.out.b
    clear hHeld
    go_wp2
    go_ret
    exact ⟨rfl, HF.out⟩

set_option maxHeartbeats 4000000 in
set_option maxRecDepth 100000 in
theorem walk_makes_bad {Dev : Nat → Sm.Dv → (Nat → Prop) → World → Prop} (V : SecCon Dev) (n : Int) (w : World) (h : ¬(1 ≤ n ∧ n ≤ 65536)) : Calls Try.prog 4 #[.int .i64 n] w fun e w' => e = .returned (.bool true) ∧ Below w.heap.size w w' := by
  have HV := Lib.hid V
  clear V
  have HE := Lib.hid (HV.out.bad n · (by omega))
  obtain ⟨b0, hb0⟩ : ∃ b0, b0 = decide ((1 : Int) ≤ n) := ⟨_, rfl⟩
  rcases (show n < 1 ∨ 65536 < n by omega) with h1 | h1
  all_goals
    go_enter Try.func4, Try.ntmps4
    go_wp2_with fail
    refine (walk_first HV.out w).mono ?_
    rintro e w1 ⟨rfl, hb1⟩
    have HB1 := Lib.hid hb1
    clear hb1
    go_wp2_with fail
    refine (HE.out w1).mono ?_
    rintro e w2 ⟨rfl, hb⟩
    have HB2 := Lib.hid (HB1.out.trans (hb.mono HB1.out.size))
    clear hb HB1
    go_wp2_with fail
    refine (HV.out.nLimit w2 1).mono ?_
    rintro e w3 ⟨rfl, hb⟩
    have HB3 := Lib.hid (HB2.out.trans (hb.mono HB2.out.size))
    clear hb HB2
    go_wp2_with fail
    refine (HV.out.nCrash _ _).mono ?_
    rintro e w4 ⟨rfl, hb⟩
    have HB4 := Lib.hid (HB3.out.trans (((one_bs w3 _).trans (hb.mono (by simp))).mono HB3.out.size))
    clear hb HB3
    go_wp2_with fail
    refine (HV.out.nRead w4 0).mono ?_
    rintro e w5 ⟨v5, rfl, hb⟩
    have HB5 := Lib.hid (HB4.out.trans (hb.mono HB4.out.size))
    clear hb HB4
    go_wp2_with fail
    refine (HV.out.nWrite w5 0).mono ?_
    rintro e w6 ⟨rfl, hb⟩
    have HB6 := Lib.hid (HB5.out.trans (hb.mono HB5.out.size))
    clear hb HB5
    go_wp2_with fail
    refine (HV.out.nFlush w6).mono ?_
    rintro e w7 ⟨rfl, hb⟩
    have HB7 := Lib.hid (HB6.out.trans (hb.mono HB6.out.size))
    clear hb HB6
    go_wp2_with fail
    refine (HV.out.nSectors w7).mono ?_
    rintro e w8 ⟨rfl, hb⟩
    have HB8 := Lib.hid (HB7.out.trans (hb.mono HB7.out.size))
    clear hb HB7
    go_wp2_with fail
    refine (HV.out.nWaiting w8).mono ?_
    rintro e w9 ⟨rfl, hb⟩
    have HB9 := Lib.hid (HB8.out.trans (hb.mono HB8.out.size))
    clear hb HB8
    go_wp2_with fail
    refine (HV.out.nCalls w9).mono ?_
    rintro e wa ⟨rfl, hb⟩
    have HBA := Lib.hid (HB9.out.trans (hb.mono HB9.out.size))
    clear hb HB9
    go_wp2
    go_ret
    exact ⟨rfl, HBA.out⟩
theorem walk_makes {Dev : Nat → Sm.Dv → (Nat → Prop) → World → Prop} (V : SecCon Dev) (n : Int) (w : World) : Calls Try.prog 4 #[.int .i64 n] w fun e w' => e = .returned (.bool true) ∧ Below w.heap.size w w' := by
  by_cases h : 1 ≤ n ∧ n ≤ 65536
  · obtain ⟨m, rfl⟩ : ∃ m : Nat, n = (m : Int) := ⟨n.toNat, by omega⟩
    exact walk_makes_good V m w h.1 h.2
  · exact walk_makes_bad V n w h
end Go.Proofs.Ytllbemelljaklaa
