/- Slices of values in memory. -/
import Derived.Test.YtamclbagafcmgaaDoorValRb
import Derived.Test.YtamclbagafcmgaaDoorValR13
import Derived.Test.YtamclbagafcmgaaDoorValB
namespace Go.Proofs.YtamclbagafcmgaaDoor
open Go.RowKit

/-- a value's cells -/
def vc1 (c : Vm.Cl) : List Value := [.int .i64 c.k, .int .i64 c.n, .int .i64 c.sc, .string c.s]
def vcs : List Vm.Cl → List Value
  | [] => []
  | c :: r => vc1 c ++ vcs r
theorem vcs_length : ∀ l : List Vm.Cl, (vcs l).length = l.length * 4
  | [] => rfl
  | c :: r => by rw [vcs, List.length_append, vcs_length r, List.length_cons]; show 4 + r.length * 4 = _; omega
theorem vcs_append : ∀ l r : List Vm.Cl, vcs (l ++ r) = vcs l ++ vcs r
  | [], _ => rfl
  | c :: l, r => by rw [List.cons_append, vcs, vcs, vcs_append l r, List.append_assoc]
theorem vcs_one : ∀ (l : List Vm.Cl), ∀ u ∈ vcs l, u.oneCell' = true
  | [], _, h => by cases h
  | c :: r, u, h => by
    rw [vcs, List.mem_append] at h
    rcases h with h | h
    · simp only [vc1, List.mem_cons, List.not_mem_nil, or_false] at h
      rcases h with rfl | rfl | rfl | rfl <;> rfl
    · exact vcs_one r u h
theorem vcs_get : ∀ (l : List Vm.Cl) (j o : Nat) (c : Vm.Cl), l[j]? = some c → o < 4 → (vcs l)[j * 4 + o]? = (vc1 c)[o]?
  | [], _, _, _, h, _ => by simp at h
  | d :: r, 0, o, c, h, ho => by
    simp at h; subst h
    rw [vcs, Nat.zero_mul, Nat.zero_add, List.getElem?_append_left (show o < 4 from ho)]
  | d :: r, j + 1, o, c, h, ho => by
    rw [List.getElem?_cons_succ] at h
    rw [vcs, List.getElem?_append_right (show 4 ≤ _ by omega), show (j + 1) * 4 + o - (vc1 d).length = j * 4 + o from (show (j + 1) * 4 + o - 4 = _ by omega)]
    exact vcs_get r j o c h ho

/-- a value's four cells from an offset on -/
structure Bx4 (g o : Nat) (c : Vm.Cl) (w : World) : Prop where
  c0 : w.cell? ⟨g, o, none⟩ = some (.int .i64 c.k)
  c1 : w.cell? ⟨g, o + 1, none⟩ = some (.int .i64 c.n)
  c2 : w.cell? ⟨g, o + 2, none⟩ = some (.int .i64 c.sc)
  c3 : w.cell? ⟨g, o + 3, none⟩ = some (.string c.s)
/-- VALUES: what is known of their cells -/
def Vs (v : Value) (l : List Vm.Cl) (w : World) : Prop :=
  (∃ a c, v = .slice a 0 c ∧ l = []) ∨
  ∃ g off cap, v = .slice (some ⟨g, off, none⟩) l.length cap ∧ l.length ≤ cap ∧ g < w.heap.size ∧ ∀ i u, (vcs l)[i]? = some u → w.cell? ⟨g, off + i, none⟩ = some u
theorem Vs.keep {v : Value} {l : List Vm.Cl} {w w' : World} (h : Vs v l w) (hb : Below w.heap.size w w') : Vs v l w' := by
  rcases h with h | ⟨g, off, cap, rfl, hc, hg, hcell⟩
  · exact .inl h
  · exact .inr ⟨g, off, cap, rfl, hc, by have := hb.size; omega, fun i u hi => (hb.cell (p := ⟨g, off + i, none⟩) hg).trans (hcell i u hi)⟩
theorem Vs.form {v : Value} {l : List Vm.Cl} {w : World} (h : Vs v l w) : ∃ a c, v = .slice a l.length c := by
  rcases h with ⟨a, c, rfl, rfl⟩ | ⟨g, off, cap, rfl, _⟩
  · exact ⟨_, _, rfl⟩
  · exact ⟨_, _, rfl⟩
/-- where element j lies -/
theorem Vs.at {a : Option Addr} {n c : Nat} {l : List Vm.Cl} {w : World} (h : Vs (.slice a n c) l w) (j : Nat) (hj : j < l.length) :
    ∃ g off, a = some ⟨g, off, none⟩ ∧ n = l.length ∧ g < w.heap.size ∧ Bx4 g (off + j * 4) l[j] w := by
  rcases h with ⟨b, d, _, rfl⟩ | ⟨g, off, cap, e, hc, hg, hcell⟩
  · simp at hj
  · injection e with e1 e2 e3
    subst e1; subst e2
    have hl : l[j]? = some l[j] := List.getElem?_eq_getElem hj
    refine ⟨g, off, rfl, rfl, hg, ?_, ?_, ?_, ?_⟩
    · exact hcell _ _ (vcs_get l j 0 l[j] hl (by omega))
    · rw [Nat.add_assoc]; exact hcell _ _ (vcs_get l j 1 l[j] hl (by omega))
    · rw [Nat.add_assoc]; exact hcell _ _ (vcs_get l j 2 l[j] hl (by omega))
    · rw [Nat.add_assoc]; exact hcell _ _ (vcs_get l j 3 l[j] hl (by omega))
theorem add_at (g o j : Nat) : (⟨g, o, none⟩ : Addr).add j = ⟨g, o + j, none⟩ := by unfold Addr.add; split <;> simp_all
theorem Vs.src {v : Value} {l : List Vm.Cl} {w : World} (h : Vs v l w) : Src Tryd.prog 4 22 v l.length (vcs l) w := by
  rcases h with ⟨a, c, rfl, rfl⟩ | ⟨g, off, cap, rfl, _, _, hc⟩
  · cases a with
    | none => exact Src.ofNil w Tryd.underlying22 c
    | some a => exact Src.ofSlice w Tryd.underlying22 a 0 c [] rfl (fun j u h => by simp at h) (fun u h => by simp at h)
  · exact Src.ofSlice w Tryd.underlying22 ⟨g, off, none⟩ l.length cap (vcs l) (vcs_length l) (fun j u hj => by rw [add_at]; exact hc j u hj) (vcs_one l)
theorem Vs.of_own {w : World} {B : Nat} {v : Value} {l : List Vm.Cl} {n : Nat} (h : w.ownsRow B 29 4 v n (vcs l)) : Vs v l w := by
  obtain ⟨h1, h2⟩ := h
  have hn : l.length = n := by rw [vcs_length] at h1; omega
  rcases h2 with ⟨rfl, rfl⟩ | ⟨g, cap, cur, rfl, _, hg, hc, hm, hs, ht⟩
  · exact .inl ⟨_, _, rfl, List.eq_nil_of_length_eq_zero hn⟩
  · refine .inr ⟨g, 0, cap, by rw [hn], by omega, (Array.getElem?_eq_some_iff.1 hg).1, fun i u hi => ?_⟩
    rw [← ht, List.getElem?_take] at hi
    rw [Lib.cell_of_heap hg, Nat.zero_add]
    split at hi
    · simpa using hi
    · cases hi
theorem info4v : (Tryd.prog.info? 29).map (fun i => (i.zero, i.size, i.bytes)) = some (some (.agg #[.int .i64 0, .int .i64 0, .int .i64 0, .string ⟨#[]⟩]), 4, 40) := by kernel_rfl
theorem own_litv (w : World) (c : Vm.Cl) (B : Nat) (hB : B ≤ w.heap.size) : (w.alloc (.cells #[.int .i64 c.k, .int .i64 c.n, .int .i64 c.sc, .string c.s] 29)).ownsRow B 29 4 (.slice (some ⟨w.heap.size, 0, none⟩) 1 1) 1 (vcs [c]) :=
  ⟨rfl, .inr ⟨w.heap.size, 1, #[.int .i64 c.k, .int .i64 c.n, .int .i64 c.sc, .string c.s], rfl, hB, heap_alloc_new w _, Nat.le_refl _, by unfold maxLen; decide, rfl, rfl⟩⟩
theorem lit_srcv (w : World) (c : Vm.Cl) : Src Tryd.prog 4 22 (.slice (some ⟨w.heap.size, 0, none⟩) 1 1) 1 (vcs [c]) (w.alloc (.cells #[.int .i64 c.k, .int .i64 c.n, .int .i64 c.sc, .string c.s] 29)) :=
  (Vs.of_own (own_litv w c 0 (Nat.zero_le _))).src
end Go.Proofs.YtamclbagafcmgaaDoor
