/- The reference's Open in plain words: the newest head, step by step; what speaks against a frame. -/
import Derived.Test.YtofbignggadkiaaLogRa
namespace Go.Proofs.Ytofbignggadkiaa
open Go.RowKit

theorem Sm.read_curR {d : Sm.Dv} {i : Nat} (hc : Sm.check d (i : Int) 0 = 0) : Sm.read d (i : Int) = (Lm.cur d i, 0) := by
  unfold Sm.read Lm.cur
  rw [if_pos hc, Int.toNat_natCast]
theorem Sm.check_inR {d : Sm.Dv} {i : Nat} (h : i < d.kept.length) (hl : d.left ≠ 0) : Sm.check d (i : Int) 0 = 0 := by
  unfold Sm.check; rw [if_neg (by omega), if_neg hl]
theorem Sm.check_offR {d : Sm.Dv} {i : Nat} (h : i < d.kept.length) (hl : d.left = 0) : Sm.check d (i : Int) 0 = 60 := by
  unfold Sm.check; rw [if_neg (by omega), if_pos hl]
namespace Lm
theorem last_64 : ∀ (ws : List Sm.Wr) (s : List UInt8) (i : Nat), s.length = 64 → (∀ w ∈ ws, w.b.length = 64) → (Sm.last s i ws).length = 64
  | [], _, _, h, _ => h
  | w :: r, s, i, h, hw => by
    unfold Sm.last
    refine last_64 r _ i ?_ (fun x hx => hw x (List.mem_cons_of_mem _ hx))
    split
    · exact hw w List.mem_cons_self
    · exact h
def hv : Option Hd → Hd
  | none => ⟨0, 0, 0, []⟩
  | some h => h
/-- the newest of the heads in the sectors before i -/
def hsR (d : Sm.Dv) : Nat → Hd
  | 0 => ⟨0, 0, 0, []⟩
  | i + 1 => if (rhead (cur d i) i).isSome = true ∧ (hsR d i).n < (hv (rhead (cur d i) i)).n then hv (rhead (cur d i) i) else hsR d i
theorem hsR_2 (d : Sm.Dv) : hsR d 2 = hd d := by
  unfold hd
  show (if (rhead (cur d 1) 1).isSome = true ∧ (hsR d 1).n < (hv (rhead (cur d 1) 1)).n then hv (rhead (cur d 1) 1) else hsR d 1) = _
  have e1 : hsR d 1 = match rhead (cur d 0) 0 with | none => ⟨0, 0, 0, []⟩ | some x => x := by
    show (if (rhead (cur d 0) 0).isSome = true ∧ 0 < (hv (rhead (cur d 0) 0)).n then hv (rhead (cur d 0) 0) else ⟨0, 0, 0, []⟩) = _
    cases e : rhead (cur d 0) 0 with
    | none => rw [if_neg (fun h => by cases h.1)]
    | some x => exact if_pos ⟨rfl, (rhead_some e).2.2.2.2.1⟩
  rw [e1]
  cases e0 : rhead (cur d 0) 0 with
  | none =>
    cases e : rhead (cur d 1) 1 with
    | none => rw [if_neg (fun h => by cases h.1)]; rfl
    | some y => exact if_pos ⟨rfl, (rhead_some e).2.2.2.2.1⟩
  | some x =>
    cases e : rhead (cur d 1) 1 with
    | none => rw [if_neg (fun h => by cases h.1)]; rfl
    | some y =>
      show (if (some y).isSome = true ∧ x.n < y.n then y else x) = if x.n < y.n then y else x
      by_cases h : x.n < y.n
      · rw [if_pos ⟨rfl, h⟩, if_pos h]
      · rw [if_neg (fun k => h k.2), if_neg h]
/-- what speaks against a frame -/
def badFr (s : List UInt8) (k hep ah : Nat) (ins : Bool) : Bool :=
  decide (s.take 8 ≠ s.drop 56) || decide (num ((s.drop 4).take 4) ≠ (k : Int)) || decide (1 < (s.getD 8 0).toNat) || decide (46 < (s.getD 9 0).toNat) || decide (num (s.take 4) < 1) || decide (num (s.take 4) < (ah : Int)) || decide ((hep : Int) < num (s.take 4)) || (ins && decide (num (s.take 4) ≠ (ah : Int)))
theorem num_pos4 (s : List UInt8) (h : s.length ≤ 4) : 0 ≤ num s := (num_lt4 h).2
theorem scan_badF {hep k ah at_ : Nat} {s : List UInt8} {r : List (List UInt8)} {ins : Bool} {bt : List UInt8} {l : List (List UInt8)} (h : badFr s k hep ah ins = true) : scan hep (s :: r) k ah ins bt l at_ = (l, at_) := by
  have hp := num_pos4 (s.take 4) (by simp; omega)
  rw [scan]
  by_cases hf : s.take 8 ≠ s.drop 56 ∨ num ((s.drop 4).take 4) ≠ (k : Int) ∨ 1 < (s.getD 8 0).toNat ∨ 46 < (s.getD 9 0).toNat
  · rw [show fr s k = none by unfold fr; rw [if_pos hf]]
  · rw [show fr s k = some ((num (s.take 4)).toNat, (s.getD 8 0).toNat != 0, (s.drop 10).take (s.getD 9 0).toNat) by unfold fr; rw [if_neg hf]]
    refine if_pos ?_
    simp only [badFr, Bool.or_eq_true, decide_eq_true_eq, Bool.and_eq_true] at h
    rcases h with (((((((h | h) | h) | h) | h) | h) | h) | h)
    · exact absurd (.inl h) hf
    · exact absurd (.inr (.inl h)) hf
    · exact absurd (.inr (.inr (.inl h))) hf
    · exact absurd (.inr (.inr (.inr h))) hf
    · exact .inl (by omega)
    · exact .inr (.inl (by omega))
    · exact .inr (.inr (.inl (by omega)))
    · exact .inr (.inr (.inr ⟨h.1, fun e => h.2 (by omega)⟩))
theorem scan_goodF {hep k ah at_ : Nat} {s : List UInt8} {r : List (List UInt8)} {ins : Bool} {bt : List UInt8} {l : List (List UInt8)} (h : badFr s k hep ah ins = false) :
    scan hep (s :: r) k ah ins bt l at_ = if ((s.getD 8 0).toNat != 0) = true then scan hep r (k + 1) (num (s.take 4)).toNat false [] (l ++ [bt ++ (s.drop 10).take (s.getD 9 0).toNat]) (k + 1) else scan hep r (k + 1) (num (s.take 4)).toNat true (bt ++ (s.drop 10).take (s.getD 9 0).toNat) l at_ := by
  have hp := num_pos4 (s.take 4) (by simp; omega)
  simp only [badFr, Bool.or_eq_false_iff, decide_eq_false_iff_not, Bool.and_eq_false_iff] at h
  obtain ⟨⟨⟨⟨⟨⟨⟨h1, h2⟩, h3⟩, h4⟩, h5⟩, h6⟩, h7⟩, h8⟩ := h
  rw [scan, show fr s k = some ((num (s.take 4)).toNat, (s.getD 8 0).toNat != 0, (s.drop 10).take (s.getD 9 0).toNat) by unfold fr; rw [if_neg (by rintro (h | h | h | h); exact h1 h; exact h2 h; exact h3 h; exact h4 h)]]
  refine if_neg ?_
  rintro (h | h | h | h)
  · omega
  · omega
  · omega
  · rcases h8 with h8 | h8
    · rw [h8] at h; cases h.1
    · exact h8 (fun e => h.2 (by omega))
end Lm
end Go.Proofs.Ytofbignggadkiaa
