/- Layer 8 in plain words: ordered lists of pairs; trees whose leaves all lie on one level, what a put and a removal make of them. No function of the program is named here. -/
import Derived.Test.YtdchapcpimhjaaaRows
namespace Go.Proofs.Ytdchapcpimhjaaa.Tm

abbrev K := List UInt8
abbrev E := K × Int
abbrev lt (a b : K) : Bool := Op.bytesLess a b
theorem lt_irrefl : ∀ a : K, lt a a = false
  | [] => rfl
  | a :: x => by
    show (decide (a < a) || (a == a && lt x x)) = false
    rw [lt_irrefl x]
    simp
theorem lt_trans : ∀ {a b c : K}, lt a b = true → lt b c = true → lt a c = true
  | _, _, [], _, h => by cases ‹K› <;> exact absurd h (by simp [lt, Op.bytesLess])
  | _, [], _ :: _, h, _ => by rename_i a _ _; cases a <;> exact absurd h (by simp [lt, Op.bytesLess])
  | [], _ :: _, _ :: _, _, _ => rfl
  | a :: x, b :: y, c :: z, h, k => by
    simp only [lt, Op.bytesLess, Bool.or_eq_true, decide_eq_true_eq, Bool.and_eq_true, beq_iff_eq] at h k ⊢
    rcases h with h | ⟨rfl, h⟩
    · rcases k with k | ⟨rfl, k⟩
      · exact .inl (UInt8.lt_trans h k)
      · exact .inl h
    · rcases k with k | ⟨rfl, k⟩
      · exact .inl k
      · exact .inr ⟨rfl, lt_trans h k⟩
theorem lt_tri : ∀ {a b : K}, lt a b = false → lt b a = false → a = b
  | [], [], _, _ => rfl
  | [], _ :: _, h, _ => by cases h
  | _ :: _, [], _, h => by cases h
  | a :: x, b :: y, h, k => by
    simp only [lt, Op.bytesLess, Bool.or_eq_false_iff, decide_eq_false_iff_not, Bool.and_eq_false_iff, beq_eq_false_iff_ne] at h k
    have hab : a = b := by
      apply UInt8.le_antisymm
      · exact UInt8.not_lt.1 k.1
      · exact UInt8.not_lt.1 h.1
    subst hab
    have h2 : lt x y = false := by
      rcases h.2 with h | h
      · exact absurd rfl h
      · exact h
    have k2 : lt y x = false := by
      rcases k.2 with h | h
      · exact absurd rfl h
      · exact h
    rw [lt_tri h2 k2]
theorem lt_asymm {a b : K} (h : lt a b = true) : lt b a = false := by
  cases e : lt b a with
  | false => rfl
  | true => have := lt_trans h e; rw [lt_irrefl] at this; cases this
theorem lt_ne {a b : K} (h : lt a b = true) : a ≠ b := by rintro rfl; rw [lt_irrefl] at h; cases h
theorem lt_of_not {a b : K} (h : lt a b = false) (hn : a ≠ b) : lt b a = true := by
  cases e : lt b a with
  | true => rfl
  | false => exact absurd (lt_tri h e) hn
theorem lt_le {a b c : K} (h : lt a b = true) (k : lt c b = false) : lt a c = true := by
  by_cases e : c = b
  · rw [e]; exact h
  · exact lt_trans h (lt_of_not k e)
theorem le_lt {a b c : K} (h : lt b a = false) (k : lt b c = true) : lt a c = true := by
  by_cases e : b = a
  · rw [← e]; exact k
  · exact lt_trans (lt_of_not h e) k
def Asc (l : List E) : Prop := l.Pairwise (fun a b => lt a.1 b.1 = true)
def ins : List E → K → Int → List E
  | [], k, v => [(k, v)]
  | p :: r, k, v => if p.1 = k then (k, v) :: r else if lt k p.1 = true then (k, v) :: p :: r else p :: ins r k v
def has (l : List E) (k : K) : Bool := l.any fun p => p.1 == k
def del (l : List E) (k : K) : List E := l.filter fun p => p.1 != k
def get : List E → K → Int × Bool
  | [], _ => (0, false)
  | p :: r, k => if p.1 = k then (p.2, true) else get r k
def from_ (l : List E) (k : K) : List E := l.filter fun p => !lt p.1 k
def back (l : List E) (k : K) : List E := (l.filter fun p => !lt k p.1).reverse
def Lo (l : List E) (k : K) : Prop := ∀ p ∈ l, lt p.1 k = true
def Hi (l : List E) (k : K) : Prop := ∀ p ∈ l, lt k p.1 = true
theorem ins_lo : ∀ {A M : List E} {k : K} {v : Int}, Lo A k → ins (A ++ M) k v = A ++ ins M k v
  | [], _, _, _, _ => rfl
  | p :: A, M, k, v, h => by
    have hp := h p List.mem_cons_self
    show ins (p :: (A ++ M)) k v = p :: (A ++ ins M k v)
    rw [ins, if_neg (lt_ne hp), if_neg (by rw [lt_asymm hp]; decide), ins_lo (fun q hq => h q (List.mem_cons_of_mem _ hq))]
theorem ins_hi : ∀ {M C : List E} {k : K} {v : Int}, Hi C k → ins (M ++ C) k v = ins M k v ++ C
  | [], [], _, _, _ => rfl
  | [], c :: C, k, v, h => by
    have hc := h c List.mem_cons_self
    show ins (c :: C) k v = (k, v) :: c :: C
    rw [ins, if_neg (Ne.symm (lt_ne hc)), if_pos hc]
  | p :: M, C, k, v, h => by
    show ins (p :: (M ++ C)) k v = ins (p :: M) k v ++ C
    rw [ins, ins]
    split
    · rfl
    split
    · rfl
    · rw [ins_hi h]; rfl
theorem ins_mid {A M C : List E} {k : K} {v : Int} (ha : Lo A k) (hc : Hi C k) : ins (A ++ (M ++ C)) k v = A ++ (ins M k v ++ C) := by
  rw [ins_lo ha, ins_hi hc]
theorem has_app (A B : List E) (k : K) : has (A ++ B) k = (has A k || has B k) := by simp [has]
theorem has_lo {A : List E} {k : K} (h : Lo A k) : has A k = false := by
  unfold has
  rw [List.any_eq_false]
  intro p hp e
  exact lt_ne (h p hp) (by simpa using e)
theorem has_hi {A : List E} {k : K} (h : Hi A k) : has A k = false := by
  unfold has
  rw [List.any_eq_false]
  intro p hp e
  exact lt_ne (h p hp) (Eq.symm (by simpa using e))
theorem del_app (A B : List E) (k : K) : del (A ++ B) k = del A k ++ del B k := by simp [del]
theorem del_of_not {A : List E} {k : K} (h : has A k = false) : del A k = A := by
  unfold del
  rw [List.filter_eq_self]
  intro p hp
  unfold has at h
  rw [List.any_eq_false] at h
  have := h p hp
  simpa using this
theorem get_app : ∀ (A B : List E) (k : K), has A k = false → get (A ++ B) k = get B k
  | [], _, _, _ => rfl
  | p :: A, B, k, h => by
    unfold has at h
    rw [List.any_cons, Bool.or_eq_false_iff] at h
    show get (p :: (A ++ B)) k = _
    rw [get, if_neg (by simpa using h.1)]
    exact get_app A B k h.2
theorem get_none : ∀ (A : List E) (k : K), has A k = false → get A k = (0, false)
  | [], _, _ => rfl
  | p :: A, k, h => by
    unfold has at h
    rw [List.any_cons, Bool.or_eq_false_iff] at h
    rw [get, if_neg (by simpa using h.1)]
    exact get_none A k h.2
theorem get_has : ∀ (A : List E) (k : K), (get A k).2 = has A k
  | [], _ => rfl
  | p :: A, k => by
    unfold get has
    rw [List.any_cons]
    by_cases e : p.1 = k
    · rw [if_pos e]; simp [e]
    · rw [if_neg e, get_has A k]; simp [e, has]
theorem get_hi : ∀ (A C : List E) (k : K), has C k = false → get (A ++ C) k = get A k
  | [], C, k, h => get_none C k h
  | p :: A, C, k, h => by
    show get (p :: (A ++ C)) k = _
    unfold get
    split
    · rfl
    · exact get_hi A C k h
theorem from_app (A B : List E) (k : K) : from_ (A ++ B) k = from_ A k ++ from_ B k := by simp [from_]
theorem from_lo {A : List E} {k : K} (h : Lo A k) : from_ A k = [] := by
  unfold from_
  rw [List.filter_eq_nil_iff]
  intro p hp
  simp [h p hp]
theorem from_hi {A : List E} {k : K} (h : Hi A k) : from_ A k = A := by
  unfold from_
  rw [List.filter_eq_self]
  intro p hp
  rw [lt_asymm (h p hp)]; rfl
theorem back_app (A B : List E) (k : K) : back (A ++ B) k = back B k ++ back A k := by simp [back]
theorem back_lo {A : List E} {k : K} (h : Lo A k) : back A k = A.reverse := by
  unfold back
  congr 1
  rw [List.filter_eq_self]
  intro p hp
  rw [lt_asymm (h p hp)]; rfl
theorem back_hi {A : List E} {k : K} (h : Hi A k) : back A k = [] := by
  unfold back
  rw [List.reverse_eq_nil_iff, List.filter_eq_nil_iff]
  intro p hp
  simp [h p hp]
theorem mem_ins : ∀ {l : List E} {k : K} {v : Int} {p : E}, p ∈ ins l k v → p = (k, v) ∨ p ∈ l
  | [], k, v, p, h => .inl (by simpa [ins] using h)
  | q :: r, k, v, p, h => by
    unfold ins at h
    split at h
    · rcases List.mem_cons.1 h with h | h
      · exact .inl h
      · exact .inr (List.mem_cons_of_mem _ h)
    split at h
    · rcases List.mem_cons.1 h with h | h
      · exact .inl h
      · exact .inr h
    · rcases List.mem_cons.1 h with h | h
      · exact .inr (by rw [h]; exact List.mem_cons_self)
      · rcases mem_ins h with h | h
        · exact .inl h
        · exact .inr (List.mem_cons_of_mem _ h)
theorem asc_ins : ∀ {l : List E} {k : K} {v : Int}, Asc l → Asc (ins l k v)
  | [], k, v, _ => by simp [ins, Asc]
  | q :: r, k, v, h => by
    unfold Asc at h ⊢
    rw [List.pairwise_cons] at h
    unfold ins
    split
    · rename_i e
      rw [List.pairwise_cons]
      exact ⟨fun p hp => by rw [← e]; exact h.1 p hp, h.2⟩
    split
    · rename_i e
      rw [List.pairwise_cons, List.pairwise_cons]
      refine ⟨fun p hp => ?_, h⟩
      rcases List.mem_cons.1 hp with rfl | hp
      · exact e
      · exact lt_trans e (h.1 p hp)
    · rename_i e1 e2
      rw [List.pairwise_cons]
      refine ⟨fun p hp => ?_, asc_ins h.2⟩
      rcases mem_ins hp with rfl | hp
      · exact lt_of_not (by simpa using e2) (Ne.symm e1)
      · exact h.1 p hp
theorem asc_del {l : List E} (k : K) (h : Asc l) : Asc (del l k) := h.sublist List.filter_sublist
theorem ins_len : ∀ (l : List E) (k : K) (v : Int), Asc l → (ins l k v).length = if has l k = true then l.length else l.length + 1
  | [], _, _, _ => rfl
  | q :: r, k, v, h => by
    have h2 := h
    unfold Asc at h2
    rw [List.pairwise_cons] at h2
    have hh : has (q :: r) k = (q.1 == k || has r k) := by simp [has]
    rw [hh]
    unfold ins
    by_cases e : q.1 = k
    · rw [if_pos e]; simp [e]
    · rw [if_neg e]
      have e' : (q.1 == k) = false := by simpa using e
      rw [e', Bool.false_or]
      by_cases e2 : lt k q.1 = true
      · rw [if_pos e2, has_hi (A := r) (fun p hp => lt_trans e2 (h2.1 p hp))]
        simp
      · rw [if_neg e2, List.length_cons, ins_len r k v h2.2]
        split <;> simp
theorem del_len : ∀ (l : List E) (k : K), Asc l → (del l k).length = if has l k = true then l.length - 1 else l.length
  | [], _, _ => rfl
  | q :: r, k, h => by
    have h2 := h
    unfold Asc at h2
    rw [List.pairwise_cons] at h2
    have hh : has (q :: r) k = (q.1 == k || has r k) := by simp [has]
    have hd : del (q :: r) k = if q.1 = k then del r k else q :: del r k := by
      unfold del
      rw [List.filter_cons]
      by_cases e : q.1 = k <;> simp [e]
    rw [hh, hd]
    by_cases e : q.1 = k
    · rw [if_pos e, del_of_not (has_hi (A := r) (fun p hp => by rw [← e]; exact h2.1 p hp))]; simp [e]
    · have e' : (q.1 == k) = false := by simpa using e
      rw [if_neg e, e', Bool.false_or, List.length_cons, del_len r k h2.2]
      by_cases hr : has r k = true
      · have : 0 < r.length := by
          cases r with
          | nil => cases hr
          | cons _ _ => exact Nat.succ_pos _
        rw [if_pos hr, if_pos hr, List.length_cons]; omega
      · rw [if_neg hr, if_neg hr, List.length_cons]
end Go.Proofs.Ytdchapcpimhjaaa.Tm
