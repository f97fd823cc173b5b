/- The reference of layer 8: rows of pairs in memory. -/
import Derived.Test.YtdchapcpimhjaaaTreM
import Derived.Deep.AppendLies
namespace Go.Proofs.Ytdchapcpimhjaaa
open Go.RowKit

/-- a pair's cells -/
def pc1 (c : Tm.E) : List Value := [.string (bstr c.1), .int .i64 c.2]
def pcs : List Tm.E → List Value
  | [] => []
  | c :: r => pc1 c ++ pcs r
theorem pcs_length : ∀ l : List Tm.E, (pcs l).length = l.length * 2
  | [] => rfl
  | c :: r => by rw [pcs, List.length_append, pcs_length r, List.length_cons]; show 2 + r.length * 2 = _; omega
theorem pcs_append : ∀ l r : List Tm.E, pcs (l ++ r) = pcs l ++ pcs r
  | [], _ => rfl
  | c :: l, r => by rw [List.cons_append, pcs, pcs, pcs_append l r, List.append_assoc]
theorem pcs_one : ∀ (l : List Tm.E), ∀ u ∈ pcs l, u.oneCell' = true
  | [], _, h => by cases h
  | c :: r, u, h => by
    rw [pcs, List.mem_append] at h
    rcases h with h | h
    · simp only [pc1, List.mem_cons, List.not_mem_nil, or_false] at h
      rcases h with rfl | rfl <;> rfl
    · exact pcs_one r u h
theorem pcs_get : ∀ (l : List Tm.E) (j o : Nat) (c : Tm.E), l[j]? = some c → o < 2 → (pcs l)[j * 2 + o]? = (pc1 c)[o]?
  | [], _, _, _, h, _ => by simp at h
  | d :: r, 0, o, c, h, ho => by
    simp at h; subst h
    rw [pcs, Nat.zero_mul, Nat.zero_add, List.getElem?_append_left (show o < 2 from ho)]
  | d :: r, j + 1, o, c, h, ho => by
    rw [List.getElem?_cons_succ] at h
    rw [pcs, List.getElem?_append_right (show 2 ≤ _ by omega), show (j + 1) * 2 + o - (pc1 d).length = j * 2 + o from (show (j + 1) * 2 + o - 2 = _ by omega)]
    exact pcs_get r j o c h ho
/-- PAIRS: what is known of their cells, apart from the blocks ex -/
def Ps (ex : Nat → Prop) (v : Value) (l : List Tm.E) (w : World) : Prop :=
  (∃ a c, v = .slice a 0 c ∧ l = []) ∨
  ∃ g off cap, v = .slice (some ⟨g, off, none⟩) l.length cap ∧ l.length ≤ cap ∧ g < w.heap.size ∧ ¬ ex g ∧ ∀ i u, (pcs l)[i]? = some u → w.cell? ⟨g, off + i, none⟩ = some u
theorem Ps.keep {ex : Nat → Prop} {v : Value} {l : List Tm.E} {w w' : World} (h : Ps ex v l w) (ho : Only ex w w') : Ps ex v l w' := by
  rcases h with h | ⟨g, off, cap, rfl, hc, hg, hx, hcell⟩
  · exact .inl h
  · exact .inr ⟨g, off, cap, rfl, hc, by have := ho.size; omega, hx, fun i u hi => (cell_only8 ho (q := ⟨g, off + i, none⟩) hg hx).trans (hcell i u hi)⟩
theorem Ps.below {ex : Nat → Prop} {v : Value} {l : List Tm.E} {w w' : World} (h : Ps ex v l w) (hb : Below w.heap.size w w') : Ps ex v l w' := h.keep (only_of8 hb)
theorem Ps.mono {ex ex' : Nat → Prop} {v : Value} {l : List Tm.E} {w : World} (h : Ps ex v l w) (hx : ∀ k, k < w.heap.size → ex' k → ex k) : Ps ex' v l w := by
  rcases h with h | ⟨g, off, cap, rfl, hc, hg, hxg, hcell⟩
  · exact .inl h
  · exact .inr ⟨g, off, cap, rfl, hc, hg, fun e => hxg (hx g hg e), hcell⟩
theorem Ps.form {ex : Nat → Prop} {v : Value} {l : List Tm.E} {w : World} (h : Ps ex v l w) : ∃ a c, v = .slice a l.length c := by
  rcases h with ⟨a, c, rfl, rfl⟩ | ⟨g, off, cap, rfl, _⟩
  · exact ⟨_, _, rfl⟩
  · exact ⟨_, _, rfl⟩
theorem Ps.len {ex : Nat → Prop} {a : Option Addr} {n c : Nat} {l : List Tm.E} {w : World} (h : Ps ex (.slice a n c) l w) : n = l.length := by
  obtain ⟨_, _, e⟩ := h.form
  injection e
theorem Ps.nil (ex : Nat → Prop) (w : World) : Ps ex (.slice none 0 0) [] w := .inl ⟨_, _, rfl, rfl⟩
/-- where element j lies -/
theorem Ps.at {ex : Nat → Prop} {a : Option Addr} {n c : Nat} {l : List Tm.E} {w : World} (h : Ps ex (.slice a n c) l w) (j : Nat) (hj : j < l.length) :
    ∃ g off, a = some ⟨g, off, none⟩ ∧ n = l.length ∧ g < w.heap.size ∧ w.cell? ⟨g, off + j * 2, none⟩ = some (.string (bstr l[j].1)) ∧ w.cell? ⟨g, off + j * 2 + 1, none⟩ = some (.int .i64 l[j].2) := by
  rcases h with ⟨b, d, _, rfl⟩ | ⟨g, off, cap, e, hc, hg, _, hcell⟩
  · simp at hj
  · injection e with e1 e2 e3
    subst e1; subst e2
    have hl : l[j]? = some l[j] := List.getElem?_eq_getElem hj
    refine ⟨g, off, rfl, rfl, hg, ?_, ?_⟩
    · exact hcell _ _ (pcs_get l j 0 l[j] hl (by omega))
    · rw [Nat.add_assoc]; exact hcell _ _ (pcs_get l j 1 l[j] hl (by omega))
theorem add_p8 (g o j : Nat) : (⟨g, o, none⟩ : Addr).add j = ⟨g, o + j, none⟩ := by unfold Addr.add; split <;> simp_all
theorem Ps.src {ex : Nat → Prop} {v : Value} {l : List Tm.E} {w : World} (h : Ps ex v l w) : Src Try.prog 2 25 v l.length (pcs l) w := by
  rcases h with ⟨a, c, rfl, rfl⟩ | ⟨g, off, cap, rfl, _, _, _, hc⟩
  · cases a with
    | none => exact Src.ofNil w Try.underlying25 c
    | some a => exact Src.ofSlice w Try.underlying25 a 0 c [] rfl (fun j u h => by simp at h) (fun u h => by simp at h)
  · exact Src.ofSlice w Try.underlying25 ⟨g, off, none⟩ l.length cap (pcs l) (pcs_length l) (fun j u hj => by rw [add_p8]; exact hc j u hj) (pcs_one l)
theorem Ps.of_own {ex : Nat → Prop} {w : World} {B : Nat} {v : Value} {l : List Tm.E} {n : Nat} (h : w.ownsRow B 50 2 v n (pcs l)) (hx : ∀ k, B ≤ k → ¬ ex k) : Ps ex v l w := by
  obtain ⟨h1, h2⟩ := h
  have hn : l.length = n := by rw [pcs_length] at h1; omega
  rcases h2 with ⟨rfl, rfl⟩ | ⟨g, cap, cur, rfl, hB, hg, hc, hm, hs, ht⟩
  · exact .inl ⟨_, _, rfl, List.eq_nil_of_length_eq_zero hn⟩
  · refine .inr ⟨g, 0, cap, by rw [hn], by omega, (Array.getElem?_eq_some_iff.1 hg).1, hx g hB, fun i u hi => ?_⟩
    rw [← ht, List.getElem?_take] at hi
    rw [Lib.cell_of_heap hg, Nat.zero_add]
    split at hi
    · simpa using hi
    · cases hi
theorem info2p : (Try.prog.info? 50).map (fun i => (i.zero, i.size, i.bytes)) = some (some (.agg #[.string ⟨#[]⟩, .int .i64 0]), 2, 24) := by kernel_rfl
theorem own_litp (w : World) (S : ByteArray) (x : Int) (c : Tm.E) (hS : S = bstr c.1) (hx : x = c.2) (B : Nat) (hB : B ≤ w.heap.size) : (w.alloc (.cells #[.string S, .int .i64 x] 50)).ownsRow B 50 2 (.slice (some ⟨w.heap.size, 0, none⟩) 1 1) 1 (pcs [c]) := by
  subst hS hx
  exact ⟨rfl, .inr ⟨w.heap.size, 1, #[.string (bstr c.1), .int .i64 c.2], rfl, hB, heap_alloc_new w _, Nat.le_refl _, by unfold maxLen; decide, rfl, rfl⟩⟩
theorem lit_srcp (w : World) (S : ByteArray) (x : Int) (c : Tm.E) (hS : S = bstr c.1) (hx : x = c.2) (g : Nat) (hg : g = w.heap.size) : Src Try.prog 2 25 (.slice (some ⟨g, 0, none⟩) 1 1) 1 (pcs [c]) (w.alloc (.cells #[.string S, .int .i64 x] 50)) := by
  subst hg
  exact (Ps.of_own (ex := fun _ => False) (own_litp w S x c hS hx 0 (Nat.zero_le _)) (fun _ _ h => h)).src
theorem bstr_eq_iff (a b : List UInt8) : ((bstr a).toList == (bstr b).toList) = decide (a = b) := by
  rw [bstr_toList, bstr_toList]
  by_cases h : a = b
  · rw [decide_eq_true h, h]; simp
  · rw [decide_eq_false h]; simpa using h
end Go.Proofs.Ytdchapcpimhjaaa
