/- Layer 8 in plain words: a tree with its root; levels; what is found by a key or a number. No function of the program is named here. -/
import Derived.Test.YtdchapcpimhjaaaTreP
namespace Go.Proofs.Ytdchapcpimhjaaa.Tm

/-- a tree: no root yet, or how many levels there are below it, and it -/
abbrev Rt := Option (Nat × T)
def top : Rt → Nat × T
  | none => (0, .leaf [])
  | some x => x
def rfl_ (r : Rt) : List E := flat (top r).1 (top r).2
def lo_ (h : Nat) : Nat := if h = 0 then 0 else 2
def RWf (r : Rt) : Prop := Wf (top r).1 (lo_ (top r).1) (top r).2 ∧ Asc (rfl_ r)
theorem rwf_none : RWf none := ⟨⟨Nat.zero_le _, Nat.zero_le _⟩, List.Pairwise.nil⟩
def abv (h : Nat) : List T → Rt
  | [a] => some (h, a)
  | l => some (h + 1, .inner l)
def rput (r : Rt) (k : K) (v : Int) : Rt := abv (top r).1 (wi (top r).1 (top r).2 k v)
def cut1 (h : Nat) (t : T) : Rt := if t.ks.length = 1 then some (h - 1, kid t 0) else some (h, t)
def rdel (r : Rt) (k : K) : Rt := if has (rfl_ r) k = true then cut1 (top r).1 (wo (top r).1 (top r).2 k) else r
theorem rput_ok {r : Rt} (hr : RWf r) (k : K) (v : Int) : RWf (rput r k v) ∧ rfl_ (rput r k v) = ins (rfl_ r) k v := by
  obtain ⟨hw, ha⟩ := hr
  obtain ⟨h1, h2⟩ := wi_ok (top r).1 (lo_ (top r).1) (top r).2 k v (by unfold lo_; split <;> omega) hw ha
  have ha2 := asc_ins (k := k) (v := v) ha
  unfold rput
  rcases h2 with ⟨a, e, wa⟩ | ⟨a, b, e, wa, wb⟩
  · rw [e] at h1 ⊢
    rw [flats_one] at h1
    have ha3 : Asc (flat (top r).1 a) := by rw [h1]; exact ha2
    exact ⟨⟨wa, ha3⟩, h1⟩
  · rw [e] at h1 ⊢
    refine ⟨⟨⟨Nat.le_refl _, by show 2 ≤ 8; decide, fun t ht => ?_⟩, ?_⟩, h1⟩
    · rcases List.mem_cons.1 ht with rfl | ht
      · exact wa
      · rw [List.mem_singleton.1 ht]; exact wb
    · show Asc (flats _ [a, b])
      rw [h1]; exact ha2
theorem cut1_ok : ∀ (h : Nat) (t : T), Wf h (lo_ h - 1) t → Asc (flat h t) → RWf (cut1 h t) ∧ rfl_ (cut1 h t) = flat h t
  | 0, .inner _, h, _ => h.elim
  | _ + 1, .leaf _, h, _ => h.elim
  | 0, .leaf l, hw, ha => ⟨⟨⟨Nat.zero_le _, hw.2⟩, ha⟩, rfl⟩
  | h + 1, .inner ks, hw, ha => by
    obtain ⟨h1, h2, h3⟩ := hw
    by_cases e : ks.length = 1
    · have ec : cut1 (h + 1) (.inner ks) = some (h, kid (.inner ks) 0) := by
        unfold cut1
        rw [if_pos (show (T.inner ks).ks.length = 1 from e)]; rfl
      rw [ec]
      obtain ⟨a, ea⟩ : ∃ a, ks = [a] := List.length_eq_one_iff.1 e
      subst ea
      have wa := h3 a List.mem_cons_self
      have ef : flat (h + 1) (.inner [a]) = flat h a := by rw [flat_succ, flats_one]
      refine ⟨⟨?_, ?_⟩, ef.symm⟩
      · show Wf h (lo_ h) a
        exact wf_up wa (by have := (wf_iff h 4 a).1 wa; unfold lo_; split <;> omega)
      · show Asc (flat h a)
        rw [← ef]; exact ha
    · have ec : cut1 (h + 1) (.inner ks) = some (h + 1, .inner ks) := by
        unfold cut1
        rw [if_neg (show ¬ (T.inner ks).ks.length = 1 from e)]
      rw [ec]
      refine ⟨⟨⟨?_, h2, h3⟩, ha⟩, rfl⟩
      show 2 ≤ ks.length
      have h4 : 1 ≤ ks.length := h1
      omega
theorem rdel_ok {r : Rt} (hr : RWf r) (k : K) : RWf (rdel r k) ∧ rfl_ (rdel r k) = del (rfl_ r) k := by
  unfold rdel
  by_cases hk : has (rfl_ r) k = true
  · rw [if_pos hk]
    obtain ⟨h1, h2⟩ := wo_ok (top r).1 (lo_ (top r).1) (top r).2 k (by unfold lo_; split <;> omega) hr.1 hr.2 hk
    obtain ⟨h3, h4⟩ := cut1_ok _ _ h2 (by rw [h1]; exact asc_del k hr.2)
    exact ⟨h3, by rw [h4, h1]; rfl⟩
  · rw [if_neg hk]
    exact ⟨hr, (del_of_not (by simpa using hk)).symm⟩
def rlev (r : Rt) : Nat := if (rfl_ r).length = 0 then 0 else (top r).1 + 1
theorem root_size : ∀ (h : Nat) (t : T), Wf (h + 1) 2 t → 2 * 4 ^ (h + 1) ≤ (flat (h + 1) t).length
  | _, .leaf _, h => h.elim
  | h, .inner ks, hw => by
    obtain ⟨h2, _, hk⟩ := hw
    have key : ∀ l : List T, (∀ t ∈ l, Wf h 4 t) → l.length * 4 ^ (h + 1) ≤ (flats h l).length := by
      intro l
      induction l with
      | nil => intro _; simp [flats]
      | cons a r ih =>
        intro hl
        have h1 := wf_size h a (hl a List.mem_cons_self)
        have h2 := ih (fun t ht => hl t (List.mem_cons_of_mem _ ht))
        rw [flats_cons, List.length_append, List.length_cons, Nat.add_mul]
        omega
    have h1 := key ks hk
    have h3 : 2 * 4 ^ (h + 1) ≤ ks.length * 4 ^ (h + 1) := Nat.mul_le_mul_right _ h2
    show 2 * 4 ^ (h + 1) ≤ (flats h ks).length
    omega
/-- a tree of so many keys has few levels -/
theorem rlev_le {r : Rt} (hr : RWf r) {k : Nat} (hk : (rfl_ r).length ≤ 4 ^ k) : rlev r ≤ 1 + k := by
  unfold rlev
  split
  · omega
  rename_i hne
  match r, hr, hk, hne with
  | none, _, _, _ => show 0 + 1 ≤ 1 + k; omega
  | some (0, t), _, _, _ => show 0 + 1 ≤ 1 + k; omega
  | some (h + 1, t), hr, hk, _ =>
    have h1 := root_size h t hr.1
    show h + 1 + 1 ≤ 1 + k
    have h2 : 2 * 4 ^ (h + 1) ≤ 4 ^ k := Nat.le_trans h1 hk
    rcases Nat.lt_or_ge (h + 1) (k + 1) with h3 | h3
    · omega
    · have h4 : 4 ^ k ≤ 4 ^ (h + 1) := Nat.pow_le_pow_right (by decide) (by omega)
      have h5 : 0 < 4 ^ (h + 1) := Nat.pow_pos (by decide)
      omega
theorem rlev_8 {r : Rt} (hr : RWf r) (h8 : (rfl_ r).length ≤ 8) : rlev r ≤ 2 := by
  unfold rlev
  split
  · omega
  match r, hr, h8 with
  | none, _, _ => show 0 + 1 ≤ 2; omega
  | some (0, t), _, _ => show 0 + 1 ≤ 2; omega
  | some (1, t), _, _ => show 1 + 1 ≤ 2; omega
  | some (h + 2, t), hr, h8 =>
    have h1 := root_size (h + 1) t hr.1
    have h8' : (flat (h + 1 + 1) t).length ≤ 8 := h8
    have h4 : 4 ^ 2 ≤ 4 ^ (h + 1 + 1) := Nat.pow_le_pow_right (by decide) (by omega)
    have h5 : (4 : Nat) ^ 2 = 16 := by decide
    rw [h5] at h4
    generalize 4 ^ (h + 1 + 1) = X at h1 h4
    exfalso
    omega
theorem get_mid {A M C : List E} {k : K} (ha : Lo A k) (hc : Hi C k) : get (A ++ (M ++ C)) k = get M k := by
  rw [get_app A _ k (has_lo ha), get_hi M C k (has_hi hc)]
theorem from_mid {A M C : List E} {k : K} (ha : Lo A k) (hc : Hi C k) : from_ (A ++ (M ++ C)) k = from_ M k ++ C := by
  rw [from_app, from_app, from_lo ha, from_hi hc]; rfl
theorem back_mid {A M C : List E} {k : K} (ha : Lo A k) (hc : Hi C k) : back (A ++ (M ++ C)) k = back M k ++ A.reverse := by
  rw [back_app, back_app, back_lo ha, back_hi hc]; simp
/-- how many keys are less -/
def rank (l : List E) (k : K) : Nat := l.length - (from_ l k).length
theorem from_len_le (l : List E) (k : K) : (from_ l k).length ≤ l.length := List.length_filter_le _ _
theorem rank_mid {A M C : List E} {k : K} (ha : Lo A k) (hc : Hi C k) : rank (A ++ (M ++ C)) k = A.length + rank M k := by
  unfold rank
  rw [from_mid ha hc]
  have := from_len_le M k
  simp only [List.length_append]
  omega
theorem rank_leaf : ∀ (l : List E) (k : K), Asc l → rank l k = fnd (l.map (·.1)) k ∧ from_ l k = l.drop (fnd (l.map (·.1)) k)
  | [], _, _ => ⟨rfl, rfl⟩
  | p :: r, k, h => by
    have h2 := h
    unfold Asc at h2
    rw [List.pairwise_cons] at h2
    obtain ⟨ih1, ih2⟩ := rank_leaf r k h2.2
    rw [List.map_cons, fnd_cons]
    by_cases h1 : lt p.1 k = true
    · have e : from_ (p :: r) k = from_ r k := by unfold from_; rw [List.filter_cons, if_neg (by simp [h1])]
      rw [if_pos h1]
      refine ⟨?_, by rw [e, ih2]; rfl⟩
      unfold rank at ih1 ⊢
      rw [e, List.length_cons]
      have := from_len_le r k
      omega
    · have h3 : lt p.1 k = false := by simpa using h1
      have e : from_ (p :: r) k = p :: r := by
        unfold from_
        rw [List.filter_eq_self]
        intro q hq
        rcases List.mem_cons.1 hq with rfl | hq
        · simp [h3]
        · have := le_lt h3 (h2.1 q hq)
          simp [lt_asymm this]
      rw [if_neg h1]
      refine ⟨?_, by rw [e]; rfl⟩
      unfold rank
      rw [e]; omega
theorem back_leaf : ∀ (l : List E) (k : K), Asc l → back l k = (l.take (if fok (l.map (·.1)) k = true then fnd (l.map (·.1)) k + 1 else fnd (l.map (·.1)) k)).reverse
  | [], _, _ => by simp [back]
  | p :: r, k, h => by
    have h2 := h
    unfold Asc at h2
    rw [List.pairwise_cons] at h2
    have ih := back_leaf r k h2.2
    rw [List.map_cons, fnd_cons, fok_cons]
    by_cases h1 : lt p.1 k = true
    · have e : back (p :: r) k = back r k ++ [p] := by
        rw [show p :: r = [p] ++ r from rfl, back_app]
        congr 1
        unfold back; simp [lt_asymm h1]
      rw [e, ih]
      simp only [h1, if_true]
      by_cases hf : fok (r.map (·.1)) k = true
      · rw [if_pos hf, if_pos hf]; simp
      · rw [if_neg hf, if_neg hf]; simp
    · have h3 : lt p.1 k = false := by simpa using h1
      have hr : back r k = [] := by
        unfold back
        rw [List.reverse_eq_nil_iff, List.filter_eq_nil_iff]
        intro q hq
        have := le_lt h3 (h2.1 q hq)
        simp [this]
      simp only [h3, Bool.false_eq_true, if_false]
      rw [show p :: r = [p] ++ r from rfl, back_app, hr]
      by_cases e : p.1 = k
      · rw [decide_eq_true e]
        unfold back; simp [e, lt_irrefl]
      · rw [decide_eq_false e]
        unfold back; simp [lt_of_not h3 e]
theorem at_mid (A M C : List E) {i : Nat} (h1 : A.length ≤ i) (h2 : i < A.length + M.length) : (A ++ (M ++ C))[i]? = M[i - A.length]? := by
  rw [List.getElem?_append_right h1, List.getElem?_append_left (by omega)]
end Go.Proofs.Ytdchapcpimhjaaa.Tm
