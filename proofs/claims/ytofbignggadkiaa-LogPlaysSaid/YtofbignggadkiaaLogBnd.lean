/- Layer 7 in plain words: what a log's calls may at most leave on its device; sizes of a log. -/
import Derived.Test.YtofbignggadkiaaLogMath
namespace Go.Proofs.Ytofbignggadkiaa

/-- a device that may still be written often -/
structure Dl (d : Sm.Dv) : Prop where
  w : d.ws.length ≤ 500
  c0 : 0 ≤ d.calls
  c1 : d.calls ≤ 500000
  l0 : -1 ≤ d.left
  l1 : d.left ≤ 9223372036854775807
  k : d.kept.length ≤ 200
/-- d' is d behind at most n calls of Write and Flush -/
structure Grow (n : Nat) (d d' : Sm.Dv) : Prop where
  ok : Sm.Ok d'
  k : d'.kept.length = d.kept.length
  w : d'.ws.length ≤ d.ws.length + n
  c0 : d.calls ≤ d'.calls
  c1 : d'.calls ≤ d.calls + n
  l0 : -1 ≤ d'.left
  l1 : d'.left ≤ 9223372036854775807
theorem Grow.refl {d : Sm.Dv} (h : Sm.Ok d) (l0 : -1 ≤ d.left) (l1 : d.left ≤ 9223372036854775807) (n : Nat) : Grow n d d := ⟨h, rfl, by omega, by omega, by omega, l0, l1⟩
theorem Grow.trans {n m : Nat} {a b c : Sm.Dv} (h : Grow n a b) (k : Grow m b c) : Grow (n + m) a c :=
  ⟨k.ok, k.k.trans h.k, by have := h.w; have := k.w; omega, by have := h.c0; have := k.c0; omega, by have := h.c1; have := k.c1; omega, k.l0, k.l1⟩
theorem Grow.le {n m : Nat} {a b : Sm.Dv} (h : Grow n a b) (hm : n ≤ m) : Grow m a b :=
  ⟨h.ok, h.k, by have := h.w; omega, h.c0, by have := h.c1; omega, h.l0, h.l1⟩
theorem grow_write {d : Sm.Dv} (h : Sm.Ok d) (l0 : -1 ≤ d.left) (l1 : d.left ≤ 9223372036854775807) (i : Int) (b : List UInt8) : Grow 1 d (Sm.write d i b).1 := by
  have ho := Sm.ok_write h i b
  unfold Sm.write at ho ⊢
  by_cases hc : Sm.check d i b.length = 0
  · rw [if_pos hc] at ho ⊢
    refine ⟨ho, rfl, ?_, ?_, ?_, ?_, ?_⟩
    · show (d.ws ++ [_]).length ≤ _; rw [List.length_append]; exact Nat.le_refl _
    · show d.calls ≤ d.calls + 1; omega
    · show d.calls + 1 ≤ d.calls + (1 : Nat); omega
    · show -1 ≤ if 0 < d.left then d.left - 1 else d.left; split <;> omega
    · show (if 0 < d.left then d.left - 1 else d.left) ≤ _; split <;> omega
  · rw [if_neg hc]; exact Grow.refl h l0 l1 1
theorem grow_flush {d : Sm.Dv} (h : Sm.Ok d) (l0 : -1 ≤ d.left) (l1 : d.left ≤ 9223372036854775807) : Grow 1 d (Sm.flush d).1 := by
  have ho := Sm.ok_flush h
  unfold Sm.flush at ho ⊢
  by_cases hc : Sm.check d 0 0 = 0
  · rw [if_pos hc] at ho ⊢
    refine ⟨ho, ?_, ?_, ?_, ?_, ?_, ?_⟩
    · show (Sm.apply d.kept d.ws).length = _; rw [Sm.apply_len]
    · show 0 ≤ _; omega
    · show d.calls ≤ d.calls + 1; omega
    · show d.calls + 1 ≤ d.calls + (1 : Nat); omega
    · show -1 ≤ if 0 < d.left then d.left - 1 else d.left; split <;> omega
    · show (if 0 < d.left then d.left - 1 else d.left) ≤ _; split <;> omega
  · rw [if_neg hc]; exact Grow.refl h l0 l1 1
theorem Grow.dl {n : Nat} {d d' : Sm.Dv} (h : Grow n d d') (w : d.ws.length + n ≤ 500) (c0 : 0 ≤ d.calls) (c1 : d.calls + n ≤ 500000) (k : d.kept.length ≤ 200) : Dl d' :=
  ⟨by have := h.w; omega, by have := h.c0; omega, by have := h.c1; omega, h.l0, h.l1, by have := h.k; omega⟩
/-- 2^62 and a little more -/
def N62 : Nat := 4611686018427388904
/-- sizes of a log on a device -/
structure Lok (L : Lm.Lg) (d : Sm.Dv) : Prop where
  f0 : 1 ≤ L.frames
  f1 : L.frames + 2 ≤ d.kept.length
  at_ : L.at_ ≤ L.frames
  ep : L.h.epoch ≤ 4294967295
  ba : L.h.base ≤ L.h.epoch
  body : L.h.body.length ≤ 32
  l : L.l.length ≤ L.at_
  b : ∀ b ∈ L.l, b.length ≤ 46 * L.frames
theorem Lok.dev {L : Lm.Lg} {d d' : Sm.Dv} (h : Lok L d) (e : d'.kept.length = d.kept.length) : Lok L d' :=
  ⟨h.f0, by have := h.f1; omega, h.at_, h.ep, h.ba, h.body, h.l, h.b⟩
namespace Lm
theorem next_grow (h : Hd) {d : Sm.Dv} (ho : Sm.Ok d) (l0 : -1 ≤ d.left) (l1 : d.left ≤ 9223372036854775807) : Grow 2 d (next h d).1 := by
  unfold next
  split
  · exact Grow.refl ho l0 l1 2
  split
  · exact (grow_write ho l0 l1 _ _).le (by omega)
  · have h1 := grow_write ho l0 l1 ((h.n % 2 : Nat) : Int) (hsec h)
    exact h1.trans (grow_flush h1.ok h1.l0 h1.l1)
theorem put_grow (ep : Nat) : ∀ (ps : List (List UInt8)) (k : Nat) (d : Sm.Dv), Sm.Ok d → -1 ≤ d.left → d.left ≤ 9223372036854775807 → Grow ps.length d (put ep ps k d).1
  | [], _, d, ho, l0, l1 => Grow.refl ho l0 l1 0
  | p :: r, k, d, ho, l0, l1 => by
    have h1 := grow_write ho l0 l1 ((2 + k : Nat) : Int) (fsec ep k r.isEmpty p)
    unfold put
    split
    · exact h1.le (by simp)
    · have := h1.trans (put_grow ep r (k + 1) _ h1.ok h1.l0 h1.l1)
      exact this.le (by simp; omega)
theorem putF_grow (ep : Nat) (ps : List (List UInt8)) (k : Nat) (d : Sm.Dv) (ho : Sm.Ok d) (l0 : -1 ≤ d.left) (l1 : d.left ≤ 9223372036854775807) : Grow (ps.length + 1) d (putF ep ps k d).1 := by
  have h1 := put_grow ep ps k d ho l0 l1
  unfold putF
  split
  · exact h1.le (by omega)
  · exact h1.trans (grow_flush h1.ok h1.l0 h1.l1)
theorem cut_len : ∀ (n : Nat) (b : List UInt8), b.length ≤ n → 1 ≤ (cut n b).length ∧ b.length ≤ 46 * (cut n b).length ∧ (46 < b.length → 46 * (cut n b).length < b.length + 46) ∧ (b.length ≤ 46 → (cut n b).length = 1)
  | 0, b, h => by
    have : b.length = 0 := by omega
    simp [cut, this]
  | n + 1, b, h => by
    unfold cut
    by_cases hb : 46 < b.length
    · rw [if_pos hb]
      obtain ⟨h1, h2, h3, h4⟩ := cut_len n (b.drop 46) (by rw [List.length_drop]; omega)
      rw [List.length_drop] at h2 h3 h4
      simp only [List.length_cons]
      refine ⟨by omega, by omega, fun _ => ?_, fun h => by omega⟩
      by_cases h5 : 46 < b.length - 46
      · have := h3 h5; omega
      · have := h4 (by omega); omega
    · rw [if_neg hb]
      simp only [List.length_cons, List.length_nil]
      exact ⟨by omega, by omega, fun h => absurd h hb, fun _ => trivial⟩
theorem parts_len (b : List UInt8) : (parts b).length = max 1 ((b.length + 45) / 46) := by
  obtain ⟨h1, h2, h3, h4⟩ := cut_len b.length b (Nat.le_refl _)
  unfold parts
  by_cases h : 46 < b.length
  · have := h3 h; omega
  · have := h4 (by omega); omega
theorem cut_46 : ∀ (n : Nat) (b : List UInt8), b.length ≤ n → ∀ p ∈ cut n b, p.length ≤ 46
  | 0, b, h, p, hp => by rw [cut, List.mem_singleton] at hp; subst hp; omega
  | n + 1, b, h, p, hp => by
    unfold cut at hp
    by_cases hb : 46 < b.length
    · rw [if_pos hb] at hp
      rcases List.mem_cons.1 hp with rfl | hp
      · rw [List.length_take]; omega
      · exact cut_46 n _ (by rw [List.length_drop]; omega) p hp
    · rw [if_neg hb, List.mem_singleton] at hp; subst hp; omega
theorem parts_46 {b p : List UInt8} (h : p ∈ parts b) : p.length ≤ 46 := cut_46 _ _ (Nat.le_refl _) p h
theorem cut_flat : ∀ (n : Nat) (b : List UInt8), (cut n b).flatten = b
  | 0, b => by simp [cut]
  | n + 1, b => by
    unfold cut
    split
    · rw [List.flatten_cons, cut_flat n, List.take_append_drop]
    · simp
theorem parts_flat (b : List UInt8) : (parts b).flatten = b := cut_flat _ _
theorem parts_ne (b : List UInt8) : parts b ≠ [] := by
  intro h
  have := parts_len b
  rw [h] at this
  simp at this
  omega

theorem append_grow {g : Lg} {d : Sm.Dv} (hl : Lok g d) (b : List UInt8) (ho : Sm.Ok d) (l0 : -1 ≤ d.left) (l1 : d.left ≤ 9223372036854775807) : Grow (g.frames + 1) d (append g d b).2.1 ∧ Lok (append g d b).1 (append g d b).2.1 := by
  unfold append
  split
  · exact ⟨Grow.refl ho l0 l1 _, hl⟩
  split
  · exact ⟨Grow.refl ho l0 l1 _, hl⟩
  split
  · exact ⟨Grow.refl ho l0 l1 _, hl⟩
  rename_i h1 h2 h3
  have hp := putF_grow g.h.epoch (parts b) g.at_ d ho l0 l1
  have hp2 := hp.le (show (parts b).length + 1 ≤ g.frames + 1 by omega)
  split
  · exact ⟨hp2, ⟨hl.f0, by have := hl.f1; have := hp.k; show g.frames + 2 ≤ (putF _ _ _ _).1.kept.length; omega, hl.at_, hl.ep, hl.ba, hl.body, hl.l, hl.b⟩⟩
  · refine ⟨hp2, ⟨hl.f0, by have := hl.f1; have := hp.k; show g.frames + 2 ≤ (putF _ _ _ _).1.kept.length; omega, by show g.at_ + _ ≤ g.frames; omega, hl.ep, hl.ba, hl.body, ?_, ?_⟩⟩
    · show (g.l ++ [b]).length ≤ g.at_ + (parts b).length
      have := parts_len b; have := hl.l
      rw [List.length_append]; simp only [List.length_cons, List.length_nil]; omega
    · intro x hx
      rcases List.mem_append.1 hx with hx | hx
      · exact hl.b x hx
      · rw [List.mem_singleton.1 hx]
        have := parts_len b
        show b.length ≤ 46 * g.frames
        omega
theorem reset_grow {g : Lg} {d : Sm.Dv} (hl : Lok g d) (b : List UInt8) (ho : Sm.Ok d) (l0 : -1 ≤ d.left) (l1 : d.left ≤ 9223372036854775807) : Grow 2 d (reset g d b).2.1 ∧ Lok (reset g d b).1 (reset g d b).2.1 := by
  unfold reset
  split
  · exact ⟨Grow.refl ho l0 l1 _, hl⟩
  split
  · exact ⟨Grow.refl ho l0 l1 _, hl⟩
  split
  · exact ⟨Grow.refl ho l0 l1 _, hl⟩
  rename_i h1 h2 h3
  have hp := next_grow (fresh g b) ho l0 l1
  split
  · exact ⟨hp, ⟨hl.f0, by have := hl.f1; have := hp.k; show g.frames + 2 ≤ (next _ _).1.kept.length; omega, hl.at_, hl.ep, hl.ba, hl.body, hl.l, hl.b⟩⟩
  · rename_i h4
    refine ⟨hp, ⟨hl.f0, by have := hl.f1; have := hp.k; show g.frames + 2 ≤ (next _ _).1.kept.length; omega, Nat.zero_le _, ?_, Nat.le_refl _, by show b.length ≤ 32; omega, Nat.zero_le _, fun b hb => by cases hb⟩⟩
    show g.h.epoch + 1 ≤ 4294967295
    rcases Nat.lt_or_ge 4294967295 (g.h.epoch + 1) with h5 | h5
    · exfalso
      apply h3
      refine ⟨?_, h5⟩
      unfold next
      rw [if_pos (show 4294967295 < (fresh g b).epoch from h5)]
    · exact h5
theorem num_lt4 {s : List UInt8} (h : s.length ≤ 4) : num s < 4294967296 ∧ 0 ≤ num s := by
  match s, h with
  | [], _ => exact ⟨by decide, by decide⟩
  | [a], _ => have := a.toNat_lt; constructor <;> · show _; simp only [num, numGo]; omega
  | [a, b], _ => have := a.toNat_lt; have := b.toNat_lt; constructor <;> · simp only [num, numGo]; omega
  | [a, b, c], _ => have := a.toNat_lt; have := b.toNat_lt; have := c.toNat_lt; constructor <;> · simp only [num, numGo]; omega
  | [a, b, c, d], _ => have := a.toNat_lt; have := b.toNat_lt; have := c.toNat_lt; have := d.toNat_lt; constructor <;> · simp only [num, numGo]; omega
theorem rhead_some {s : List UInt8} {i : Nat} {h : Hd} (e : rhead s i = some h) : h.n < 4611686018427387904 ∧ h.epoch ≤ 4294967295 ∧ h.base ≤ h.epoch ∧ h.body.length ≤ 32 ∧ 1 ≤ h.n ∧ h.n % 2 = i := by
  unfold rhead at e
  split at e
  · cases e
  rename_i hn
  injection e with e
  subst e
  have h1 := num_lt4 (s := (s.drop 8).take 4) (by simp; omega)
  have h2 := num_lt4 (s := (s.drop 12).take 4) (by simp; omega)
  simp only [not_or, Int.not_lt, Int.not_le, ne_eq, Decidable.not_not] at hn
  obtain ⟨g1, g2, g3, g4, g5, g6⟩ := hn
  refine ⟨by show (num (s.take 8)).toNat < _; omega, by show (num ((s.drop 8).take 4)).toNat ≤ _; omega, by show (num ((s.drop 12).take 4)).toNat ≤ (num ((s.drop 8).take 4)).toNat; omega, ?_, by show 1 ≤ (num (s.take 8)).toNat; omega, by show (num (s.take 8)).toNat % 2 = i; omega⟩
  show ((s.drop 17).take _).length ≤ 32
  rw [List.length_take]; omega
theorem hd_ok (d : Sm.Dv) : (hd d).n < 4611686018427387904 ∧ (hd d).epoch ≤ 4294967295 ∧ (hd d).base ≤ (hd d).epoch ∧ (hd d).body.length ≤ 32 := by
  unfold hd top
  split
  · exact ⟨by decide, by decide, by decide, by decide⟩
  · rename_i e _
    have := rhead_some e; exact ⟨this.1, this.2.1, this.2.2.1, this.2.2.2.1⟩
  · rename_i e
    have := rhead_some e; exact ⟨this.1, this.2.1, this.2.2.1, this.2.2.2.1⟩
  · rename_i e1 e2
    have h1 := rhead_some e1
    have h2 := rhead_some e2
    split
    · exact ⟨h2.1, h2.2.1, h2.2.2.1, h2.2.2.2.1⟩
    · exact ⟨h1.1, h1.2.1, h1.2.2.1, h1.2.2.2.1⟩
theorem fr_some {s : List UInt8} {k ep : Nat} {last : Bool} {b : List UInt8} (e : fr s k = some (ep, last, b)) : b.length ≤ 46 := by
  unfold fr at e
  split at e
  · cases e
  rename_i hn
  simp only [not_or, Nat.not_lt] at hn
  injection e with e
  injection e with e1 e2
  injection e2 with e2 e3
  subst e3
  rw [List.length_take]; omega
theorem scan_ok (hep M : Nat) : ∀ (ss : List (List UInt8)) (k ahead : Nat) (ins : Bool) (batch : List UInt8) (l : List (List UInt8)) (at_ : Nat),
    k + ss.length ≤ M → at_ ≤ k → batch.length ≤ 46 * k → l.length ≤ at_ → (∀ b ∈ l, b.length ≤ 46 * M) →
    (scan hep ss k ahead ins batch l at_).2 ≤ M ∧ (scan hep ss k ahead ins batch l at_).1.length ≤ (scan hep ss k ahead ins batch l at_).2 ∧ ∀ b ∈ (scan hep ss k ahead ins batch l at_).1, b.length ≤ 46 * M
  | [], k, ahead, ins, batch, l, at_, hk, ha, hb, hl, hm => ⟨by show at_ ≤ M; omega, hl, hm⟩
  | s :: r, k, ahead, ins, batch, l, at_, hk, ha, hb, hl, hm => by
    rw [List.length_cons] at hk
    unfold scan
    split
    · exact ⟨by show at_ ≤ M; omega, hl, hm⟩
    rename_i ep last body e
    have hb46 := fr_some e
    split
    · exact ⟨by show at_ ≤ M; omega, hl, hm⟩
    split
    · refine scan_ok hep M r (k + 1) ep false [] _ (k + 1) (by omega) (Nat.le_refl _) (by simp) (by rw [List.length_append]; simp only [List.length_cons, List.length_nil]; omega) (fun b hx => ?_)
      rcases List.mem_append.1 hx with hx | hx
      · exact hm b hx
      · rw [List.mem_singleton.1 hx, List.length_append]; omega
    · exact scan_ok hep M r (k + 1) ep true _ _ at_ (by omega) (by omega) (by rw [List.length_append]; omega) hl hm
theorem open_grow {d : Sm.Dv} (frames : Int) (ho : Sm.Ok d) (l0 : -1 ≤ d.left) (l1 : d.left ≤ 9223372036854775807) : Grow 2 d (open_ d frames).2.1 ∧ ∀ L, (open_ d frames).1 = some L → Lok L (open_ d frames).2.1 ∧ L.h.n ≤ 4611686018427387904 := by
  unfold open_
  split
  · exact ⟨Grow.refl ho l0 l1 2, fun L h => by cases h⟩
  split
  · exact ⟨Grow.refl ho l0 l1 2, fun L h => by cases h⟩
  have hp := next_grow (up (hd d)) ho l0 l1
  split
  · exact ⟨hp, fun L h => by cases h⟩
  rename_i h1 h2 h3
  refine ⟨hp, fun L h => ?_⟩
  injection h with h
  subst h
  have hh := hd_ok d
  have hs := scan_ok (hd d).epoch frames.toNat ((List.range frames.toNat).map fun k => cur d (2 + k)) 0 (hd d).base false [] [] 0 (by simp) (Nat.le_refl _) (by simp) (by simp) (fun b hb => by cases hb)
  refine ⟨⟨by show 1 ≤ frames.toNat; omega, ?_, hs.1, ?_, by show (hd d).base ≤ (hd d).epoch + 1; omega, hh.2.2.2, hs.2.1, hs.2.2⟩, by show (hd d).n + 1 ≤ _; omega⟩
  · have := hp.k
    show frames.toNat + 2 ≤ (next (up (hd d)) d).1.kept.length
    omega
  · show (hd d).epoch + 1 ≤ 4294967295
    rcases Nat.lt_or_ge 4294967295 ((hd d).epoch + 1) with h5 | h5
    · exfalso
      apply h3
      unfold next
      rw [if_pos (show 4294967295 < (up (hd d)).epoch from h5)]
      show (70 : Int) ≠ 0
      decide
    · exact h5
theorem open_code (d : Sm.Dv) (frames : Int) : (open_ d frames).1 = none ∨ (open_ d frames).2.2 = 0 := by
  unfold open_
  split
  · exact .inl rfl
  split
  · exact .inl rfl
  split
  · exact .inl rfl
  · exact .inr rfl
theorem write_code (d : Sm.Dv) (i : Int) (b : List UInt8) : (Sm.write d i b).2 = 0 ∨ (Sm.write d i b).2 = 2 ∨ (Sm.write d i b).2 = 60 := by
  unfold Sm.write Sm.check
  repeat' split
  all_goals simp_all
theorem flush_code (d : Sm.Dv) : (Sm.flush d).2 = 0 ∨ (Sm.flush d).2 = 2 ∨ (Sm.flush d).2 = 60 := by
  unfold Sm.flush Sm.check
  repeat' split
  all_goals simp_all
end Lm
end Go.Proofs.Ytofbignggadkiaa
