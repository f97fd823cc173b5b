/- Layer 8: the laws in plain words: lists that are put together in another order. -/
import Derived.Test.YtlakolcjgnmllaaTreR
namespace Go.Proofs.Ytlakolcjgnmllaa.Tm

theorem asc_cons {p : E} {r : List E} (h : Asc (p :: r)) : (∀ q ∈ r, lt p.1 q.1 = true) ∧ Asc r := by unfold Asc at h ⊢; rw [List.pairwise_cons] at h; exact h
theorem uniq : ∀ {a b : List E}, Asc a → Asc b → (∀ p, p ∈ a ↔ p ∈ b) → a = b
  | [], [], _, _, _ => rfl
  | [], q :: b, _, _, h => absurd ((h q).2 List.mem_cons_self) (by simp)
  | p :: a, [], _, _, h => absurd ((h p).1 List.mem_cons_self) (by simp)
  | p :: a, q :: b, ha, hb, h => by
    obtain ⟨h1, h2⟩ := asc_cons ha
    obtain ⟨h3, h4⟩ := asc_cons hb
    have e : p = q := by
      rcases List.mem_cons.1 ((h p).1 List.mem_cons_self) with e | e
      · exact e
      · rcases List.mem_cons.1 ((h q).2 List.mem_cons_self) with e2 | e2
        · exact e2.symm
        · have l1 := h3 p e
          have l2 := h1 q e2
          rw [lt_asymm l1] at l2
          cases l2
    subst e
    congr 1
    refine uniq h2 h4 (fun r => ⟨fun hr => ?_, fun hr => ?_⟩)
    · rcases List.mem_cons.1 ((h r).1 (List.mem_cons_of_mem _ hr)) with rfl | e
      · have := h1 r hr
        rw [lt_irrefl] at this
        cases this
      · exact e
    · rcases List.mem_cons.1 ((h r).2 (List.mem_cons_of_mem _ hr)) with rfl | e
      · have := h3 r hr
        rw [lt_irrefl] at this
        cases this
      · exact e
theorem mem_ins_self : ∀ (l : List E) (k : K) (v : Int), (k, v) ∈ ins l k v
  | [], k, v => by simp [ins]
  | p :: r, k, v => by
    unfold ins
    split
    · exact List.mem_cons_self
    split
    · exact List.mem_cons_self
    · exact List.mem_cons_of_mem _ (mem_ins_self r k v)
theorem mem_ins_old : ∀ {l : List E} {k : K} {v : Int} {p : E}, p ∈ l → p.1 ≠ k → p ∈ ins l k v
  | q :: r, k, v, p, h, hk => by
    unfold ins
    split
    · rename_i e
      rcases List.mem_cons.1 h with rfl | h
      · exact absurd e hk
      · exact List.mem_cons_of_mem _ h
    split
    · exact List.mem_cons_of_mem _ h
    · rcases List.mem_cons.1 h with rfl | h
      · exact List.mem_cons_self
      · exact List.mem_cons_of_mem _ (mem_ins_old h hk)
def okey (k : UInt8) : K := [k, 120]
def oval (k : UInt8) : Int := (k.toNat : Int) * 3
def puts (ks : List UInt8) : List E := ks.foldl (fun l k => ins l (okey k) (oval k)) []
theorem puts_snoc (ks : List UInt8) (k : UInt8) : puts (ks ++ [k]) = ins (puts ks) (okey k) (oval k) := by simp [puts]
theorem puts_take {ks : List UInt8} {i : Nat} (hi : i < ks.length) : puts (ks.take (i + 1)) = ins (puts (ks.take i)) (okey ks[i]) (oval ks[i]) := by
  rw [List.take_add_one, List.getElem?_eq_getElem hi]; exact puts_snoc _ _
theorem rev_ind {P : List UInt8 → Prop} (h0 : P []) (h1 : ∀ l a, P l → P (l ++ [a])) (l : List UInt8) : P l := by
  have : ∀ n, ∀ l : List UInt8, l.length = n → P l := fun n => by
    induction n with
    | zero => intro l h; rw [List.eq_nil_of_length_eq_zero h]; exact h0
    | succ n ih =>
      intro l h
      have hne : l ≠ [] := fun e => by rw [e] at h; cases h
      rw [← List.dropLast_concat_getLast hne]
      exact h1 _ _ (ih _ (by rw [List.length_dropLast, h]; rfl))
  exact this _ l rfl
theorem puts_asc (ks : List UInt8) : Asc (puts ks) := by
  refine rev_ind (P := fun ks => Asc (puts ks)) List.Pairwise.nil (fun l a ih => ?_) ks
  show Asc (puts (l ++ [a]))
  rw [puts_snoc]
  exact asc_ins ih
theorem okey_inj {a b : UInt8} (h : okey a = okey b) : a = b := by injection h
theorem mem_puts (ks : List UInt8) : ∀ p, p ∈ puts ks ↔ ∃ k ∈ ks, p = (okey k, oval k) := by
  refine rev_ind (P := fun ks => ∀ p, p ∈ puts ks ↔ ∃ k ∈ ks, p = (okey k, oval k)) (fun p => by simp [puts]) (fun l a ih p => ?_) ks
  rw [puts_snoc]
  constructor
  · intro h
    rcases mem_ins h with rfl | h
    · exact ⟨a, by simp, rfl⟩
    · obtain ⟨k, hk, e⟩ := (ih p).1 h
      exact ⟨k, by simp [hk], e⟩
  · rintro ⟨k, hk, rfl⟩
    by_cases e : k = a
    · subst e; exact mem_ins_self _ _ _
    · have hk' : k ∈ l := by
        rcases List.mem_append.1 hk with h | h
        · exact h
        · simp at h; exact absurd h e
      exact mem_ins_old ((ih _).2 ⟨k, hk', rfl⟩) (fun h => e (okey_inj h))
theorem puts_rev (ks : List UInt8) : puts ks.reverse = puts ks := uniq (puts_asc _) (puts_asc _) (fun p => by rw [mem_puts, mem_puts]; simp)
theorem puts_len (ks : List UInt8) : (puts ks).length ≤ ks.length := by
  refine rev_ind (P := fun ks => (puts ks).length ≤ ks.length) (Nat.le_refl _) (fun l a ih => ?_) ks
  show (puts (l ++ [a])).length ≤ (l ++ [a]).length
  have ih' : (puts l).length ≤ l.length := ih
  rw [puts_snoc, ins_len _ _ _ (puts_asc l), List.length_append]
  split <;> simp <;> omega
def dels (l : List E) (ks : List UInt8) : List E := ks.foldl (fun l k => del l (okey k)) l
theorem dels_take {l : List E} {ks : List UInt8} {i : Nat} (hi : i < ks.length) : dels l (ks.take (i + 1)) = del (dels l (ks.take i)) (okey ks[i]) := by
  unfold dels
  rw [List.take_add_one, List.getElem?_eq_getElem hi, List.foldl_append]; rfl
theorem mem_dels : ∀ (ks : List UInt8) (l : List E) (p : E), p ∈ dels l ks → p ∈ l ∧ ∀ k ∈ ks, p.1 ≠ okey k
  | [], _, _, h => ⟨h, fun _ h => by cases h⟩
  | k :: r, l, p, h => by
    obtain ⟨h1, h2⟩ := mem_dels r _ p h
    unfold del at h1
    rw [List.mem_filter] at h1
    refine ⟨h1.1, fun k' hk => ?_⟩
    rcases List.mem_cons.1 hk with rfl | hk
    · simpa using h1.2
    · exact h2 k' hk
theorem dels_all (ks : List UInt8) : dels (puts ks) ks = [] := by
  cases h : dels (puts ks) ks with
  | nil => rfl
  | cons p r =>
    obtain ⟨h1, h2⟩ := mem_dels ks (puts ks) p (by rw [h]; exact List.mem_cons_self)
    obtain ⟨k, hk, rfl⟩ := (mem_puts ks p).1 h1
    exact absurd rfl (h2 k hk)
theorem lt_nil (a : K) : lt a [] = false := by cases a <;> rfl
theorem from_nil (l : List E) : from_ l [] = l := by
  unfold from_
  rw [List.filter_eq_self]
  intro p _
  rw [lt_nil]; rfl
theorem rank_at {l : List E} {i : Nat} {p : E} (ha : Asc l) (h : l[i]? = some p) : rank l p.1 = i := by
  obtain ⟨hi, rfl⟩ := List.getElem?_eq_some_iff.1 h
  have e : l = l.take i ++ ([l[i]] ++ l.drop (i + 1)) := by
    rw [List.singleton_append, ← List.drop_eq_getElem_cons hi, List.take_append_drop]
  obtain ⟨p, hp⟩ : ∃ p, p = l[i] := ⟨_, rfl⟩
  rw [← hp] at e ⊢
  have ha' : Asc (l.take i ++ ([p] ++ l.drop (i + 1))) := by rw [← e]; exact ha
  unfold Asc at ha'
  rw [List.pairwise_append] at ha'
  have h1 : Lo (l.take i) p.1 := fun q hq => ha'.2.2 q hq p (by simp)
  have h2 : Hi (l.drop (i + 1)) p.1 := fun q hq => (List.pairwise_append.1 ha'.2.1).2.2 p (by simp) q hq
  rw [e, rank_mid h1 h2, List.length_take]
  have : rank [p] p.1 = 0 := by
    unfold rank from_
    simp [lt_irrefl]
  omega
end Go.Proofs.Ytlakolcjgnmllaa.Tm
