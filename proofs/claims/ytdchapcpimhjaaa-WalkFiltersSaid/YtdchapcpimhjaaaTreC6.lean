/- Package tree: joined, above, halves of any node. -/
import Derived.Test.YtdchapcpimhjaaaTreC5
namespace Go.Proofs.Ytdchapcpimhjaaa
open Go.RowKit

theorem Rv.nc {ex : Nat → Prop} {a : Option Addr} {n c : Nat} {vs : List Value} {W : World} (h : Rv ex a n c vs W) : n ≤ c := by
  rcases Nat.eq_zero_or_pos n with h0 | h0
  · omega
  · obtain ⟨g, off, -, hc, -⟩ := h.at h0; exact hc
/-- rows of keys and of values, spliced -/
theorem tre_splK {ex : Nat → Prop} {a ea : Option Addr} {n c en ec : Nat} {l es : List Tm.K} {W : World} (fr tt : Nat) (h : Rv ex a n c (sk l) W) (hf : Fm a n c) (he : Rv ex ea en ec (sk es) W) (hft : fr ≤ tt) (htn : tt ≤ n) (hn : n ≤ 100) (hen : en ≤ 100) (hc : c ≤ 64) (hex : ∀ k, W.heap.size ≤ k → ¬ ex k) :
    Calls Try.prog 69 #[.slice a n c, .int .i64 (fr : Int), .int .i64 (tt : Int), .slice ea en ec] W fun e w' => ∃ a' N, e = .returned (.slice a' N N) ∧ Hid (N = (Tm.spl l fr tt es).length ∧ Rv ex a' N N (sk (Tm.spl l fr tt es)) w' ∧ Fm a' N N) ∧ Below W.heap.size W w' := by
  refine (tre_spls fr tt h hf he (sk_one _) (sk_one _) hft htn h.nc (by omega) (by omega) (by omega)).mono ?_
  rintro e w' ⟨a', N, rfl, hF, hN, hr, hb⟩
  have e : Tm.spl (sk l) fr tt (sk es) = sk (Tm.spl l fr tt es) := by unfold Tm.spl sk; simp [List.map_take, List.map_drop]
  rw [e] at hN hr
  exact ⟨a', N, rfl, ⟨by rw [hN]; simp [sk], hr ex hex, hF⟩, hb⟩
theorem tre_splV {ex : Nat → Prop} {a ea : Option Addr} {n c en ec : Nat} {l es : List Int} {W : World} (fr tt : Nat) (h : Rv ex a n c (iv l) W) (hf : Fm a n c) (he : Rv ex ea en ec (iv es) W) (hft : fr ≤ tt) (htn : tt ≤ n) (hn : n ≤ 100) (hen : en ≤ 100) (hc : c ≤ 64) (hex : ∀ k, W.heap.size ≤ k → ¬ ex k) :
    Calls Try.prog 70 #[.slice a n c, .int .i64 (fr : Int), .int .i64 (tt : Int), .slice ea en ec] W fun e w' => ∃ a' N, e = .returned (.slice a' N N) ∧ Hid (N = (Tm.spl l fr tt es).length ∧ Rv ex a' N N (iv (Tm.spl l fr tt es)) w' ∧ Fm a' N N) ∧ Below W.heap.size W w' := by
  refine (tre_spli fr tt h hf he (iv_one _) (iv_one _) hft htn h.nc (by omega) (by omega) (by omega)).mono ?_
  rintro e w' ⟨a', N, rfl, hF, hN, hr, hb⟩
  have e : Tm.spl (iv l) fr tt (iv es) = iv (Tm.spl l fr tt es) := by unfold Tm.spl iv; simp [List.map_take, List.map_drop]
  rw [e] at hN hr
  exact ⟨a', N, rfl, ⟨by rw [hN]; simp [iv], hr ex hex, hF⟩, hb⟩
theorem map_spl {α β : Type} (f : α → β) (l e : List α) (a b : Nat) : (Tm.spl l a b e).map f = Tm.spl (l.map f) a b (e.map f) := by
  unfold Tm.spl; simp [List.map_take, List.map_drop]
/-- a leaf of two rows -/
theorem tre_leafH {ex : Nat → Prop} {r : List Tm.E} {a1 b1 : Option Addr} {N1 M1 : Nat} {l1 : List Tm.K} {l2 : List Int} {W : World} (e1 : l1 = r.map (·.1)) (e2 : l2 = r.map (·.2)) (hr : r.length ≤ 60) (h1 : N1 = l1.length ∧ Rv ex a1 N1 N1 (sk l1) W ∧ Fm a1 N1 N1) (h2 : M1 = l2.length ∧ Rv ex b1 M1 M1 (iv l2) W ∧ Fm b1 M1 M1) (hex : ∀ k, W.heap.size ≤ k → ¬ ex k) :
    Calls Try.prog 68 #[.slice a1 N1 N1, .slice b1 M1 M1] W fun e w' => ∃ q, e = .returned (.pointer (some ⟨q, 0, none⟩)) ∧ Hid (Tn ex 0 q (.leaf r) w') ∧ Below W.heap.size W w' := by
  subst e1 e2
  have n1 : N1 = r.length := by rw [h1.1, List.length_map]
  have n2 : M1 = r.length := by rw [h2.1, List.length_map]
  refine (tre_leaf n1 n2 h1.2.1 h2.2.1 (hex _ (Nat.le_refl _)) (by omega) (by omega) h1.2.2 h2.2.2).mono ?_
  rintro e w' ⟨rfl, hT, hb'⟩
  exact ⟨_, rfl, hT, hb'⟩
theorem tre_halves {ex : Nat → Prop} {W : World} : ∀ {h p : Nat} {t : Tm.T}, Tn ex h p t W → Tm.Wb h t → Tm.cnt t ≤ 11 → (Tm.flat h t).length ≤ 1000000 → (∀ k, W.heap.size ≤ k → ¬ ex k) →
    Calls Try.prog 67 #[ptr p] W fun e w' => ∃ a n c, e = .returned (.slice a n c) ∧ Hid (Hs ex h (Tm.hv t) a n c w') ∧ Below W.heap.size W w'
  | 0, p, .inner _, ht, _, _, _, _ => by obtain ⟨l, e, _⟩ := ht; cases e
  | _ + 1, p, .leaf _, ht, _, _, _, _ => by obtain ⟨l, ps, e, _⟩ := ht; cases e
  | 0, p, .leaf l, ht, hw, hc, hs, hex => by
    have hc' : l.length ≤ 11 := hc
    by_cases h8 : l.length ≤ 8
    · have e : Tm.hv (.leaf l) = [.leaf l] := by show (Tm.halves l).map Tm.T.leaf = _; rw [Tm.halves_one h8]; rfl
      rw [e]
      exact tre_halves1 ht (by show (l.map (·.1)).length ≤ 8; simpa using h8) (hex _ (Nat.le_refl _))
    · have e : Tm.hv (.leaf l) = [.leaf (l.take (l.length / 2)), .leaf (l.drop (l.length / 2))] := by show (Tm.halves l).map Tm.T.leaf = _; rw [Tm.halves_two h8]; rfl
      rw [e]
      exact tre_halvesL ht (by omega) hc' hex
  | h + 1, p, .inner ks, ht, hw, hc, hs, hex => by
    have hc' : ks.length ≤ 11 := hc
    by_cases h8 : ks.length ≤ 8
    · have e : Tm.hv (.inner ks) = [.inner ks] := by show (Tm.halves ks).map Tm.T.inner = _; rw [Tm.halves_one h8]; rfl
      rw [e]
      exact tre_halves1 ht (by show (ks.map (Tm.fk h)).length ≤ 8; simpa using h8) (hex _ (Nat.le_refl _))
    · have e : Tm.hv (.inner ks) = [.inner (ks.take (ks.length / 2)), .inner (ks.drop (ks.length / 2))] := by show (Tm.halves ks).map Tm.T.inner = _; rw [Tm.halves_two h8]; rfl
      rw [e]
      exact tre_halvesI ht (by omega) hc' hw hs hex
end Go.Proofs.Ytdchapcpimhjaaa
