/- Package tree: its contracts in terms of a tree's pairs alone. -/
import Derived.Test.YtdchapcpimhjaaaTreG1
namespace Go.Proofs.Ytdchapcpimhjaaa
open Go.RowKit

/-- what is known of the number of levels -/
def Lv (l : List Tm.E) (n : Nat) : Prop := (n = 0 ↔ l.length = 0) ∧ (∀ k, l.length ≤ 4 ^ k → n ≤ 1 + k) ∧ (l.length ≤ 8 → n ≤ 2) ∧ (l.length < 8 → n ≤ 1)
theorem Tm.top_size {r : Tm.Rt} (hr : Tm.RWf r) {h : Nat} (hh : (Tm.top r).1 = h + 1) : 2 * 4 ^ (h + 1) ≤ (Tm.rfl_ r).length := by
  match r, hr, hh with
  | some (h', t), hr, hh =>
    have e : h' = h + 1 := hh
    subst e
    exact Tm.root_size h t hr.1
theorem Tm.top_le {r : Tm.Rt} (hr : Tm.RWf r) (hl : (Tm.rfl_ r).length ≤ 300000) : (Tm.top r).1 ≤ 1000 := by
  cases hh : (Tm.top r).1 with
  | zero => omega
  | succ h =>
    have h1 := Tm.top_size hr hh
    rcases Nat.lt_or_ge h 1000 with h2 | h2
    · exact h2
    · have h3 : (4 : Nat) ^ 10 ≤ 4 ^ (h + 1) := Nat.pow_le_pow_right (by decide) (by omega)
      have h4 : (4 : Nat) ^ 10 = 1048576 := by decide
      rw [h4] at h3
      generalize 4 ^ (h + 1) = X at h1 h3
      exfalso; omega
theorem Tm.lev {r : Tm.Rt} (hr : Tm.RWf r) : Lv (Tm.rfl_ r) (if (Tm.rfl_ r).length = 0 then 0 else (Tm.top r).1 + 1) := by
  refine ⟨?_, fun k hk => Tm.rlev_le hr hk, fun h8 => Tm.rlev_8 hr h8, fun h8 => ?_⟩
  · split
    · rename_i h; simp [h]
    · rename_i h; simp [h]
  · split
    · omega
    · cases hh : (Tm.top r).1 with
      | zero => omega
      | succ h =>
        have h1 := Tm.top_size hr hh
        have h3 : (4 : Nat) ^ 1 ≤ 4 ^ (h + 1) := Nat.pow_le_pow_right (by decide) (by omega)
        generalize 4 ^ (h + 1) = X at h1 h3
        exfalso; omega
/-- a tree that has just these pairs -/
def Te (ex : Nat → Prop) (t : Nat) (l : List Tm.E) (W : World) : Prop := ∃ r, Tr ex t r W ∧ Tm.rfl_ r = l
section
variable {ex : Nat → Prop} {t : Nat} {l : List Tm.E} {W W' : World}
theorem Te.lt (h : Te ex t l W) : t < W.heap.size := by obtain ⟨r, h, _⟩ := h; exact h.lt
theorem Te.mu (h : Te ex t l W) : ex t := by obtain ⟨r, h, _⟩ := h; exact h.mu
theorem Te.asc (h : Te ex t l W) : Tm.Asc l := by obtain ⟨r, h, rfl⟩ := h; exact h.ok.2
theorem Te.keep (h : Te ex t l W) (ho : Only ex W W') (ht : W'.heap[t]? = W.heap[t]?) : Te ex t l W' := by obtain ⟨r, h, e⟩ := h; exact ⟨r, h.keep ho ht, e⟩
theorem Te.below (h : Te ex t l W) (hb : Below W.heap.size W W') : Te ex t l W' := by obtain ⟨r, h, e⟩ := h; exact ⟨r, h.below hb, e⟩
/-- another tree was written -/
theorem Te.other {t2 : Nat} (h : Te ex t l W) (ho : Only (fun k => k = t2) W W') (hx : ex t2) (hne : t ≠ t2) : Te ex t l W' :=
  h.keep (only_mono8 ho (fun _k e => e ▸ hx)) (ho.block _ h.lt hne)
theorem Te.more (h : Te ex t l W) {t2 : Nat} (h2 : W.heap.size ≤ t2) : Te (exs ex t2) t l W := by obtain ⟨r, h, e⟩ := h; exact ⟨r, h.more h2, e⟩
theorem Te.tq (h : Te ex t l W) : Tq ex (.pointer (some ⟨t, 0, none⟩)) l W := by obtain ⟨r, h, e⟩ := h; exact .inr ⟨t, r, rfl, h, e.symm⟩
theorem Te.new (W : World) : Te (exs ex W.heap.size) W.heap.size [] (W.alloc (.cells #[.pointer none] 84)) := ⟨none, Tr.new W, rfl⟩
theorem Te.mono {ex' : Nat → Prop} (h : Te ex t l W) (hx : ∀ k, k < W.heap.size → ex' k → ex k) (ht : ex' t) : Te ex' t l W := by obtain ⟨r, h, e⟩ := h; exact ⟨r, h.mono hx ht, e⟩
theorem te_put {k : Tm.K} {v : Int} (h : Te ex t l W) (hs : l.length ≤ 300000) (hex : ∀ k, W.heap.size ≤ k → ¬ ex k) :
    Calls Try.prog 35 #[.pointer (some ⟨t, 0, none⟩), .string (bstr k), .int .i64 v] W fun e w' => e = .returned (.bool (!Tm.has l k)) ∧ Te ex t (Tm.ins l k v) w' ∧ Only (fun k => k = t) W w' := by
  obtain ⟨r, h, rfl⟩ := h
  refine (tre_put h hs hex).mono ?_
  rintro e w' ⟨rfl, h1, h2⟩
  exact ⟨rfl, ⟨_, h1, (Tm.rput_ok h.ok k v).2⟩, h2⟩
theorem te_copy (h : Te ex t l W) :
    Calls Try.prog 50 #[.pointer (some ⟨t, 0, none⟩)] W fun e w' => ∃ t2, e = .returned (.pointer (some ⟨t2, 0, none⟩)) ∧ W.heap.size ≤ t2 ∧ t2 < w'.heap.size ∧ Te (exs ex t2) t2 l w' ∧ Below W.heap.size W w' := by
  obtain ⟨r, h, rfl⟩ := h
  refine (tre_copy h).mono ?_
  rintro e w' ⟨t2, rfl, h1, h2, h3, h4⟩
  exact ⟨t2, rfl, h1, h2, ⟨r, h3.out, rfl⟩, h4⟩
end
section
variable {ex : Nat → Prop} {v : Value} {l : List Tm.E} {W : World}
theorem tq_len (h : Tq ex v l W) (hex : ∀ k, W.heap.size ≤ k → ¬ ex k) : Calls Try.prog 57 #[v] W fun e w' => e = .returned (.int .i64 (l.length : Int)) ∧ Below W.heap.size W w' := by
  obtain ⟨ex0, hh, tt, lo, hp, hlo, hw, ha, rfl, hl⟩ := h.top hex
  exact tre_len hp
theorem tq_get {k : Tm.K} (h : Tq ex v l W) (hex : ∀ k, W.heap.size ≤ k → ¬ ex k) : Calls Try.prog 51 #[v, .string (bstr k)] W fun e w' => e = .returned (.tuple #[.int .i64 (Tm.get l k).1, .bool (Tm.get l k).2]) ∧ Below W.heap.size W w' := by
  obtain ⟨ex0, hh, tt, lo, hp, hlo, hw, ha, rfl, hl⟩ := h.top hex
  exact tre_get hp hlo hw ha
end
end Go.Proofs.Ytdchapcpimhjaaa
