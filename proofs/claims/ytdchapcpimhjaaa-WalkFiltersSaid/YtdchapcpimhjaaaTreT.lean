/- Layer 8 in plain words: trees of one height; a put, a removal; how many levels there are. No function of the program is named here. -/
import Derived.Test.YtdchapcpimhjaaaTreMath
namespace Go.Proofs.Ytdchapcpimhjaaa.Tm

/-- nodes; h is how many levels below it the leaves lie, wherever a function takes it -/
inductive T where
  | leaf (l : List E)
  | inner (ks : List T)
def T.ks : T → List T
  | .leaf _ => []
  | .inner ks => ks
def T.l : T → List E
  | .leaf l => l
  | .inner _ => []
def flat : Nat → T → List E
  | 0, t => t.l
  | h + 1, t => (t.ks.map (flat h)).flatten
def cnt : T → Nat
  | .leaf l => l.length
  | .inner ks => ks.length
def fk (h : Nat) (t : T) : K := ((flat h t).head?.map (·.1)).getD []
def keys (h : Nat) : T → List K
  | .leaf l => l.map (·.1)
  | .inner ks => ks.map (fk (h - 1))
def flats (h : Nat) (l : List T) : List E := (l.map (flat h)).flatten
theorem flat_succ (h : Nat) (ks : List T) : flat (h + 1) (.inner ks) = flats h ks := rfl
theorem flats_app (h : Nat) (a b : List T) : flats h (a ++ b) = flats h a ++ flats h b := by simp [flats]
theorem flats_cons (h : Nat) (a : T) (b : List T) : flats h (a :: b) = flat h a ++ flats h b := by simp [flats]
def fnd (ks : List K) (k : K) : Nat := (ks.takeWhile fun x => lt x k).length
def fok (ks : List K) (k : K) : Bool := decide (ks[fnd ks k]? = some k)
def chd (ks : List K) (k : K) : Nat := if fok ks k = true then fnd ks k else fnd ks k - 1
theorem fnd_cons (x : K) (r : List K) (k : K) : fnd (x :: r) k = if lt x k = true then fnd r k + 1 else 0 := by
  unfold fnd
  rw [List.takeWhile_cons]
  split <;> rfl
theorem fnd_le : ∀ (ks : List K) (k : K), fnd ks k ≤ ks.length
  | [], _ => Nat.le_refl _
  | x :: r, k => by rw [fnd_cons, List.length_cons]; have := fnd_le r k; split <;> omega
theorem fnd_lt : ∀ (ks : List K) (k : K) (j : Nat), j < fnd ks k → lt (ks.getD j []) k = true
  | [], _, _, h => by cases h
  | x :: r, k, j, h => by
    rw [fnd_cons] at h
    split at h
    · rename_i hx
      cases j with
      | zero => exact hx
      | succ j => exact fnd_lt r k j (by omega)
    · cases h
theorem fnd_ge : ∀ (ks : List K) (k : K), fnd ks k < ks.length → lt (ks.getD (fnd ks k) []) k = false
  | [], _, h => by cases h
  | x :: r, k, h => by
    rw [fnd_cons] at h ⊢
    split
    · rename_i hx
      rw [if_pos hx, List.length_cons] at h
      exact fnd_ge r k (by omega)
    · rename_i hx
      simpa using hx
def AscK (ks : List K) : Prop := ks.Pairwise (fun a b => lt a b = true)
theorem ascK_get {ks : List K} (h : AscK ks) {i j : Nat} (hij : i < j) (hj : j < ks.length) : lt (ks.getD i []) (ks.getD j []) = true := by
  have := List.pairwise_iff_getElem.1 h i j (by omega) hj hij
  simpa [List.getD, List.getElem?_eq_getElem hj, List.getElem?_eq_getElem (show i < ks.length by omega)] using this
/-- what a search by halves looks at -/
theorem fnd_iff {ks : List K} (h : AscK ks) (k : K) {j : Nat} (hj : j < ks.length) : lt (ks.getD j []) k = true ↔ j < fnd ks k := by
  constructor
  · intro hl
    rcases Nat.lt_or_ge j (fnd ks k) with h1 | h1
    · exact h1
    · exfalso
      have h2 := fnd_ge ks k (by omega)
      rcases Nat.eq_or_lt_of_le h1 with e | e
      · rw [e, hl] at h2; cases h2
      · have := lt_trans (ascK_get h e hj) hl
        rw [this] at h2; cases h2
  · exact fnd_lt ks k j
def halves {α : Type} (l : List α) : List (List α) := if l.length ≤ 8 then [l] else [l.take (l.length / 2), l.drop (l.length / 2)]
def spl {α : Type} (l : List α) (a b : Nat) (e : List α) : List α := l.take a ++ (e ++ l.drop b)
theorem spl_len {α : Type} (l : List α) {a b : Nat} (e : List α) (hab : a ≤ b) (hb : b ≤ l.length) : (spl l a b e).length + (b - a) = l.length + e.length := by
  simp [spl]; omega
def hv : T → List T
  | .leaf l => (halves l).map .leaf
  | .inner ks => (halves ks).map .inner
def jn : T → T → T
  | .leaf a, b => .leaf (a ++ b.l)
  | .inner a, b => .inner (a ++ b.ks)
def Wf : Nat → Nat → T → Prop
  | 0, lo, .leaf l => lo ≤ l.length ∧ l.length ≤ 8
  | h + 1, lo, .inner ks => lo ≤ ks.length ∧ ks.length ≤ 8 ∧ ∀ t ∈ ks, Wf h 4 t
  | _, _, _ => False
/-- what holds of a node, whatever its count -/
def Wb : Nat → T → Prop
  | 0, .leaf _ => True
  | h + 1, .inner ks => ∀ t ∈ ks, Wf h 4 t
  | _, _ => False
theorem wf_iff : ∀ (h lo : Nat) (t : T), Wf h lo t ↔ lo ≤ cnt t ∧ cnt t ≤ 8 ∧ Wb h t
  | 0, _, .leaf _ => ⟨fun h => ⟨h.1, h.2, trivial⟩, fun h => ⟨h.1, h.2.1⟩⟩
  | _ + 1, _, .inner _ => Iff.rfl
  | 0, _, .inner _ => ⟨fun h => h.elim, fun h => h.2.2.elim⟩
  | _ + 1, _, .leaf _ => ⟨fun h => h.elim, fun h => h.2.2.elim⟩
theorem jn_wb : ∀ (h : Nat) {a b : T}, Wb h a → Wb h b → Wb h (jn a b) ∧ flat h (jn a b) = flat h a ++ flat h b ∧ cnt (jn a b) = cnt a + cnt b
  | 0, .leaf _, .leaf _, _, _ => ⟨trivial, rfl, List.length_append⟩
  | h + 1, .inner a, .inner b, ha, hb => ⟨fun t ht => by
    rcases List.mem_append.1 (show t ∈ a ++ b from ht) with ht | ht
    · exact ha t ht
    · exact hb t ht, flats_app h a b, List.length_append⟩
  | 0, .inner _, _, h, _ => h.elim
  | 0, .leaf _, .inner _, _, h => h.elim
  | _ + 1, .leaf _, _, h, _ => h.elim
  | _ + 1, .inner _, .leaf _, _, h => h.elim
theorem halves_one {α : Type} {l : List α} (h : l.length ≤ 8) : halves l = [l] := by unfold halves; rw [if_pos h]
theorem halves_two {α : Type} {l : List α} (h : ¬ l.length ≤ 8) : halves l = [l.take (l.length / 2), l.drop (l.length / 2)] := by unfold halves; rw [if_neg h]
/-- one node, or two that have enough -/
theorem hv_ok : ∀ (h : Nat) (t : T), Wb h t → cnt t ≤ 11 → flats h (hv t) = flat h t ∧ ((cnt t ≤ 8 ∧ hv t = [t]) ∨ (8 < cnt t ∧ ∃ a b, hv t = [a, b] ∧ Wf h 4 a ∧ Wf h 4 b))
  | 0, .leaf l, _, hc => by
    have hc' : l.length ≤ 11 := hc
    by_cases h8 : l.length ≤ 8
    · have e : hv (.leaf l) = [.leaf l] := by show (halves l).map T.leaf = _; rw [halves_one h8]; rfl
      exact ⟨by rw [e]; simp [flats], .inl ⟨h8, e⟩⟩
    · have e : hv (.leaf l) = [.leaf (l.take (l.length / 2)), .leaf (l.drop (l.length / 2))] := by show (halves l).map T.leaf = _; rw [halves_two h8]; rfl
      refine ⟨?_, .inr ⟨by show 8 < l.length; omega, _, _, e, ?_, ?_⟩⟩
      · rw [e]
        show List.flatten [l.take (l.length / 2), l.drop (l.length / 2)] = l
        simp
      · show 4 ≤ (l.take (l.length / 2)).length ∧ (l.take (l.length / 2)).length ≤ 8
        rw [List.length_take]; omega
      · show 4 ≤ (l.drop (l.length / 2)).length ∧ (l.drop (l.length / 2)).length ≤ 8
        rw [List.length_drop]; omega
  | h + 1, .inner ks, hw, hc => by
    have hc' : ks.length ≤ 11 := hc
    by_cases h8 : ks.length ≤ 8
    · have e : hv (.inner ks) = [.inner ks] := by show (halves ks).map T.inner = _; rw [halves_one h8]; rfl
      exact ⟨by rw [e]; simp [flats], .inl ⟨h8, e⟩⟩
    · have e : hv (.inner ks) = [.inner (ks.take (ks.length / 2)), .inner (ks.drop (ks.length / 2))] := by show (halves ks).map T.inner = _; rw [halves_two h8]; rfl
      refine ⟨?_, .inr ⟨by show 8 < ks.length; omega, _, _, e, ?_, ?_⟩⟩
      · rw [e, flats_cons, flats_cons, flat_succ, flat_succ, flat_succ, show flats (h + 1) [] = [] from rfl, List.append_nil, ← flats_app, List.take_append_drop]
      · refine ⟨?_, ?_, fun t ht => hw t (List.mem_of_mem_take ht)⟩ <;> · rw [List.length_take]; omega
      · refine ⟨?_, ?_, fun t ht => hw t (List.mem_of_mem_drop ht)⟩ <;> · rw [List.length_drop]; omega
  | 0, .inner _, h, _ => h.elim
  | _ + 1, .leaf _, h, _ => h.elim
/-- a full node has keys -/
theorem wf_size : ∀ (h : Nat) (t : T), Wf h 4 t → 4 ^ (h + 1) ≤ (flat h t).length
  | 0, .inner _, h => h.elim
  | _ + 1, .leaf _, h => h.elim
  | 0, .leaf l, hw => by show 4 ^ 1 ≤ l.length; have := hw.1; omega
  | h + 1, .inner ks, hw => by
    obtain ⟨h4, _, hk⟩ := hw
    have key : ∀ l : List T, (∀ t ∈ l, Wf h 4 t) → l.length * 4 ^ (h + 1) ≤ (flats h l).length := by
      intro l
      induction l with
      | nil => intro _; simp [flats]
      | cons a r ih =>
        intro hl
        have h1 := wf_size h a (hl a List.mem_cons_self)
        have h2 := ih (fun t ht => hl t (List.mem_cons_of_mem _ ht))
        rw [flats_cons, List.length_append, List.length_cons, Nat.add_mul]
        omega
    have h1 := key ks hk
    have h2 : 4 * 4 ^ (h + 1) ≤ ks.length * 4 ^ (h + 1) := Nat.mul_le_mul_right _ h4
    show 4 ^ (h + 1 + 1) ≤ (flats h ks).length
    rw [Nat.pow_succ]
    omega
theorem wf_ne {h : Nat} {t : T} (hw : Wf h 4 t) : flat h t ≠ [] := by
  intro e
  have h1 := wf_size h t hw
  rw [e] at h1
  have : 0 < 4 ^ (h + 1) := Nat.pow_pos (by decide)
  simp at h1
/-- the first pair of a node -/
theorem fk_head {h : Nat} {t : T} (hne : flat h t ≠ []) : ∃ v r, flat h t = (fk h t, v) :: r := by
  unfold fk
  cases e : flat h t with
  | nil => exact absurd e hne
  | cons a r => exact ⟨a.2, r, by simp⟩
theorem asc_app {A B : List E} (h : Asc (A ++ B)) : Asc A ∧ Asc B ∧ ∀ a ∈ A, ∀ b ∈ B, lt a.1 b.1 = true := List.pairwise_append.1 h
theorem keys_asc : ∀ (h : Nat) (t : T), Wb h t → Asc (flat h t) → AscK (keys h t)
  | 0, .inner _, h, _ => h.elim
  | _ + 1, .leaf _, h, _ => h.elim
  | 0, .leaf l, _, ha => by
    unfold AscK keys
    rw [List.pairwise_map]
    exact ha
  | h + 1, .inner ks, hw, ha => by
    have key : ∀ l : List T, (∀ t ∈ l, Wf h 4 t) → Asc (flats h l) → (l.map (fk h)).Pairwise (fun a b => lt a b = true) := by
      intro l
      induction l with
      | nil => intro _ _; exact List.Pairwise.nil
      | cons a r ih =>
        intro hl hasc
        rw [flats_cons] at hasc
        obtain ⟨h1, h2, h3⟩ := asc_app hasc
        rw [List.map_cons, List.pairwise_cons]
        refine ⟨fun x hx => ?_, ih (fun t ht => hl t (List.mem_cons_of_mem _ ht)) h2⟩
        obtain ⟨b, hb, rfl⟩ := List.mem_map.1 hx
        obtain ⟨v, r1, e1⟩ := fk_head (wf_ne (hl a List.mem_cons_self))
        obtain ⟨v2, r2, e2⟩ := fk_head (wf_ne (hl b (List.mem_cons_of_mem _ hb)))
        refine h3 (fk h a, v) (by rw [e1]; exact List.mem_cons_self) (fk h b, v2) ?_
        unfold flats
        rw [List.mem_flatten]
        exact ⟨flat h b, List.mem_map.2 ⟨b, hb, rfl⟩, by rw [e2]; exact List.mem_cons_self⟩
    exact key ks hw ha
end Go.Proofs.Ytdchapcpimhjaaa.Tm
