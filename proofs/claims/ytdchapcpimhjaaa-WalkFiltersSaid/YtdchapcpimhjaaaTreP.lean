/- Layer 8 in plain words: a put and a removal in a tree. No function of the program is named here. -/
import Derived.Test.YtdchapcpimhjaaaTreT
namespace Go.Proofs.Ytdchapcpimhjaaa.Tm

def kid (t : T) (i : Nat) : T := t.ks.getD i (.leaf [])
def wi : Nat → T → K → Int → List T
  | 0, t, k, v => hv (.leaf (spl t.l (fnd (keys 0 t) k) (if fok (keys 0 t) k = true then fnd (keys 0 t) k + 1 else fnd (keys 0 t) k) [(k, v)]))
  | h + 1, t, k, v => hv (.inner (spl t.ks (chd (keys (h + 1) t) k) (chd (keys (h + 1) t) k + 1) (wi h (kid t (chd (keys (h + 1) t) k)) k v)))
def rpl (t : T) (i : Nat) (x : T) : T :=
  if 4 ≤ cnt x then .inner (spl t.ks i (i + 1) [x])
  else if 0 < i then .inner (spl t.ks (i - 1) (i + 1) (hv (jn (kid t (i - 1)) x)))
  else .inner (spl t.ks i (i + 2) (hv (jn x (kid t (i + 1)))))
def wo : Nat → T → K → T
  | 0, t, k => .leaf (spl t.l (fnd (keys 0 t) k) (fnd (keys 0 t) k + 1) [])
  | h + 1, t, k => rpl t (chd (keys (h + 1) t) k) (wo h (kid t (chd (keys (h + 1) t) k)) k)
theorem fok_cons (x : K) (r : List K) (k : K) : fok (x :: r) k = if lt x k = true then fok r k else decide (x = k) := by
  unfold fok
  rw [fnd_cons]
  split <;> simp
theorem leaf_ins : ∀ (l : List E) (k : K) (v : Int), spl l (fnd (l.map (·.1)) k) (if fok (l.map (·.1)) k = true then fnd (l.map (·.1)) k + 1 else fnd (l.map (·.1)) k) [(k, v)] = ins l k v
  | [], k, v => by simp [spl, fnd, fok, ins]
  | p :: r, k, v => by
    have ih := leaf_ins r k v
    rw [List.map_cons, fnd_cons, fok_cons]
    unfold ins
    by_cases e : p.1 = k
    · have e1 : lt p.1 k = false := by rw [e]; exact lt_irrefl k
      have e2 : decide (p.1 = k) = true := by simp [e]
      simp only [e1, Bool.false_eq_true, if_false, e2, if_true]
      rw [if_pos e]
      simp [spl]
    · rw [if_neg e]
      by_cases h1 : lt p.1 k = true
      · rw [if_neg (c := lt k p.1 = true) (by rw [lt_asymm h1]; decide), ← ih]
        simp only [h1, if_true]
        unfold spl
        by_cases hf : fok (r.map (·.1)) k = true
        · rw [if_pos hf, if_pos hf]; simp
        · rw [if_neg hf, if_neg hf]; simp
      · have e1 : lt p.1 k = false := by simpa using h1
        have e2 : decide (p.1 = k) = false := by simp [e]
        rw [if_pos (c := lt k p.1 = true) (lt_of_not e1 e)]
        simp only [e1, Bool.false_eq_true, if_false, e2]
        simp [spl]
theorem leaf_has : ∀ (l : List E) (k : K), Asc l → has l k = fok (l.map (·.1)) k
  | [], k, _ => by simp [has, fok]
  | p :: r, k, h => by
    have h2 := h
    unfold Asc at h2
    rw [List.pairwise_cons] at h2
    have hh : has (p :: r) k = (p.1 == k || has r k) := by simp [has]
    rw [hh, List.map_cons, fok_cons, leaf_has r k h2.2]
    by_cases h1 : lt p.1 k = true
    · rw [if_pos h1]; simp [lt_ne h1]
    · rw [if_neg h1]
      by_cases e : p.1 = k
      · simp [e]
      · have : has r k = false := has_hi (fun q hq => lt_trans (lt_of_not (by simpa using h1) e) (h2.1 q hq))
        rw [leaf_has r k h2.2] at this
        rw [this]; simp [e]
theorem leaf_del : ∀ (l : List E) (k : K), Asc l → has l k = true → spl l (fnd (l.map (·.1)) k) (fnd (l.map (·.1)) k + 1) [] = del l k
  | [], _, _, h => by cases h
  | p :: r, k, h, hk => by
    have h2 := h
    unfold Asc at h2
    rw [List.pairwise_cons] at h2
    have hh : has (p :: r) k = (p.1 == k || has r k) := by simp [has]
    have hd : del (p :: r) k = if p.1 = k then del r k else p :: del r k := by
      unfold del
      rw [List.filter_cons]
      by_cases e : p.1 = k <;> simp [e]
    rw [List.map_cons, fnd_cons, hd]
    by_cases e : p.1 = k
    · rw [if_pos e, if_neg (by rw [e, lt_irrefl]; decide), del_of_not (has_hi (A := r) (fun q hq => by rw [← e]; exact h2.1 q hq))]
      simp [spl]
    · have hr : has r k = true := by rw [hh] at hk; simpa [e] using hk
      have h1 : lt p.1 k = true := by
        unfold has at hr
        rw [List.any_eq_true] at hr
        obtain ⟨q, hq, hqk⟩ := hr
        have := h2.1 q hq
        rw [show q.1 = k by simpa using hqk] at this
        exact this
      rw [if_neg e, if_pos h1, ← leaf_del r k h2.2 hr]
      simp [spl]
theorem leaf_get : ∀ (l : List E) (k : K), has l k = true → Asc l → get l k = ((l.getD (fnd (l.map (·.1)) k) ([], 0)).2, true)
  | [], _, h, _ => by cases h
  | p :: r, k, hk, h => by
    have h2 := h
    unfold Asc at h2
    rw [List.pairwise_cons] at h2
    have hh : has (p :: r) k = (p.1 == k || has r k) := by simp [has]
    rw [List.map_cons, fnd_cons, get]
    by_cases e : p.1 = k
    · rw [if_pos e, if_neg (by rw [e, lt_irrefl]; decide)]; simp
    · have hr : has r k = true := by rw [hh] at hk; simpa [e] using hk
      have h1 : lt p.1 k = true := by
        unfold has at hr
        rw [List.any_eq_true] at hr
        obtain ⟨q, hq, hqk⟩ := hr
        have := h2.1 q hq
        rw [show q.1 = k by simpa using hqk] at this
        exact this
      rw [if_neg e, if_pos h1, leaf_get r k hr h2.2]; simp
theorem mem_flats {h : Nat} {l : List T} {p : E} : p ∈ flats h l ↔ ∃ t ∈ l, p ∈ flat h t := by
  unfold flats
  rw [List.mem_flatten]
  constructor
  · rintro ⟨x, hx, hp⟩
    obtain ⟨t, ht, rfl⟩ := List.mem_map.1 hx
    exact ⟨t, ht, hp⟩
  · rintro ⟨t, ht, hp⟩
    exact ⟨_, List.mem_map.2 ⟨t, ht, rfl⟩, hp⟩
theorem getD_map_fk (h : Nat) (ks : List T) {j : Nat} (hj : j < ks.length) : (ks.map (fk h)).getD j [] = fk h (ks.getD j (.leaf [])) := by
  simp [List.getD, List.getElem?_eq_getElem hj]
theorem flats_split (h : Nat) (ks : List T) {i : Nat} (hi : i < ks.length) : flats h ks = flats h (ks.take i) ++ (flat h (ks.getD i (.leaf [])) ++ flats h (ks.drop (i + 1))) := by
  rw [← flats_cons, ← flats_app]
  congr 1
  have : ks.getD i (.leaf []) = ks[i] := by simp [List.getD, List.getElem?_eq_getElem hi]
  rw [this, ← List.drop_eq_getElem_cons hi, List.take_append_drop]
theorem getD_mem {ks : List T} {i : Nat} (hi : i < ks.length) : ks.getD i (.leaf []) ∈ ks := by
  have : ks.getD i (.leaf []) = ks[i] := by simp [List.getD, List.getElem?_eq_getElem hi]
  rw [this]; exact List.getElem_mem _
theorem chd_lt {ks : List K} (k : K) (hne : 0 < ks.length) : chd ks k < ks.length := by
  unfold chd
  have h1 := fnd_le ks k
  split
  · rename_i hf
    unfold fok at hf
    have := of_decide_eq_true hf
    exact (List.getElem?_eq_some_iff.1 this).1
  · omega
theorem split {h : Nat} {ks : List T} {i : Nat} (k : K) (hw : ∀ t ∈ ks, Wf h 4 t) (hne : 0 < ks.length) (ha : Asc (flats h ks)) (hi : i = chd (ks.map (fk h)) k) :
    i < ks.length ∧ Lo (flats h (ks.take i)) k ∧ Hi (flats h (ks.drop (i + 1))) k ∧ flats h ks = flats h (ks.take i) ++ (flat h (ks.getD i (.leaf [])) ++ flats h (ks.drop (i + 1))) := by
  have hil : i < ks.length := by have := chd_lt (ks := ks.map (fk h)) k (by simpa using hne); rw [← hi] at this; simpa using this
  have hs := flats_split h ks hil
  have ha2 := ha
  rw [hs] at ha2
  obtain ⟨_, h2, h3⟩ := asc_app ha2
  obtain ⟨_, _, h5⟩ := asc_app h2
  obtain ⟨v, r, e0⟩ := fk_head (wf_ne (hw _ (getD_mem hil)))
  have hlo : ∀ p ∈ flats h (ks.take i), lt p.1 (fk h (ks.getD i (.leaf []))) = true := fun p hp => h3 p hp (fk h (ks.getD i (.leaf [])), v) (by rw [e0]; exact List.mem_append_left _ List.mem_cons_self)
  have hhi : ∀ p ∈ flats h (ks.drop (i + 1)), lt (fk h (ks.getD i (.leaf []))) p.1 = true := fun p hp => h5 (fk h (ks.getD i (.leaf [])), v) (by rw [e0]; exact List.mem_cons_self) p hp
  have hfl := fnd_le (ks.map (fk h)) k
  rw [List.length_map] at hfl
  refine ⟨hil, fun p hp => ?_, fun p hp => ?_, hs⟩
  · unfold chd at hi
    split at hi
    · rename_i hf
      unfold fok at hf
      have hf := of_decide_eq_true hf
      rw [← hi, List.getElem?_map, List.getElem?_eq_getElem hil] at hf
      have hk : fk h (ks.getD i (.leaf [])) = k := by
        rw [show ks.getD i (.leaf []) = ks[i] by simp [List.getD, List.getElem?_eq_getElem hil]]
        simpa using hf
      rw [← hk]; exact hlo p hp
    · rcases Nat.eq_zero_or_pos (fnd (ks.map (fk h)) k) with e | e
      · rw [e] at hi
        rw [hi] at hp
        simp [flats] at hp
      · have h6 := fnd_lt (ks.map (fk h)) k i (by omega)
        rw [getD_map_fk h ks hil] at h6
        exact lt_trans (hlo p hp) h6
  · unfold chd at hi
    split at hi
    · rename_i hf
      unfold fok at hf
      have hf := of_decide_eq_true hf
      rw [← hi, List.getElem?_map, List.getElem?_eq_getElem hil] at hf
      have hk : fk h (ks.getD i (.leaf [])) = k := by
        rw [show ks.getD i (.leaf []) = ks[i] by simp [List.getD, List.getElem?_eq_getElem hil]]
        simpa using hf
      rw [← hk]; exact hhi p hp
    · rename_i hf
      rcases Nat.lt_or_ge (fnd (ks.map (fk h)) k) ks.length with hlt | hge
      · have h6 := fnd_ge (ks.map (fk h)) k (by simpa using hlt)
        rw [getD_map_fk h ks hlt] at h6
        rcases Nat.eq_zero_or_pos (fnd (ks.map (fk h)) k) with e | e
        · rw [e] at hi h6
          have hi0 : i = 0 := hi
          subst hi0
          exact le_lt h6 (hhi p hp)
        · have hif : i + 1 = fnd (ks.map (fk h)) k := by omega
          rw [hif] at hp
          obtain ⟨v1, r1, e1⟩ := fk_head (wf_ne (hw _ (getD_mem hlt)))
          have hnk : fk h (ks.getD (fnd (ks.map (fk h)) k) (.leaf [])) ≠ k := by
            intro e2
            apply hf
            unfold fok
            rw [decide_eq_true_eq, List.getElem?_map, List.getElem?_eq_getElem hlt]
            rw [show ks.getD (fnd (ks.map (fk h)) k) (.leaf []) = ks[fnd (ks.map (fk h)) k] by simp [List.getD, List.getElem?_eq_getElem hlt]] at e2
            simp [e2]
          have hk1 := lt_of_not h6 hnk
          have hd : flats h (ks.drop (fnd (ks.map (fk h)) k)) = (fk h (ks.getD (fnd (ks.map (fk h)) k) (.leaf [])), v1) :: (r1 ++ flats h (ks.drop (fnd (ks.map (fk h)) k + 1))) := by
            rw [List.drop_eq_getElem_cons hlt, flats_cons, show ks[fnd (ks.map (fk h)) k] = ks.getD (fnd (ks.map (fk h)) k) (.leaf []) by simp [List.getD, List.getElem?_eq_getElem hlt], e1]
            rfl
          have hasc : Asc (flats h (ks.drop (fnd (ks.map (fk h)) k))) := by
            have h7 := ha
            rw [← List.take_append_drop (fnd (ks.map (fk h)) k) ks, flats_app] at h7
            exact (asc_app h7).2.1
          rw [hd] at hp hasc
          unfold Asc at hasc
          rw [List.pairwise_cons] at hasc
          rcases List.mem_cons.1 hp with rfl | hp
          · exact hk1
          · exact lt_trans hk1 (hasc.1 p hp)
      · have : ks.drop (i + 1) = [] := List.drop_eq_nil_of_le (by omega)
        rw [this] at hp
        simp [flats] at hp
theorem wf_up {h lo lo' : Nat} {t : T} (hw : Wf h lo t) (hc : lo' ≤ cnt t) : Wf h lo' t := by
  rw [wf_iff] at hw ⊢
  exact ⟨hc, hw.2⟩
theorem wi_ok : ∀ (h lo : Nat) (t : T) (k : K) (v : Int), (h = 0 ∨ 1 ≤ lo) → Wf h lo t → Asc (flat h t) →
    flats h (wi h t k v) = ins (flat h t) k v ∧ ((∃ a, wi h t k v = [a] ∧ Wf h lo a) ∨ ∃ a b, wi h t k v = [a, b] ∧ Wf h 4 a ∧ Wf h 4 b)
  | 0, _, .inner _, _, _, _, h, _ => h.elim
  | _ + 1, _, .leaf _, _, _, _, h, _ => h.elim
  | 0, lo, .leaf l, k, v, _, hw, ha => by
    obtain ⟨h1, h2⟩ := hw
    have hl : spl l (fnd (l.map (·.1)) k) (if fok (l.map (·.1)) k = true then fnd (l.map (·.1)) k + 1 else fnd (l.map (·.1)) k) [(k, v)] = ins l k v := leaf_ins l k v
    have hlen := ins_len l k v ha
    have hge : l.length ≤ (ins l k v).length := by rw [hlen]; split <;> omega
    have hle : (ins l k v).length ≤ 9 := by rw [hlen]; split <;> omega
    have e : wi 0 (.leaf l) k v = hv (.leaf (ins l k v)) := by
      show hv (.leaf (spl l _ _ _)) = _
      exact congrArg (fun x => hv (.leaf x)) hl
    have hok := hv_ok 0 (.leaf (ins l k v)) trivial (by show (ins l k v).length ≤ 11; omega)
    rw [e]
    refine ⟨hok.1, ?_⟩
    rcases hok.2 with ⟨h3, h4⟩ | ⟨h3, a, b, h4, h5, h6⟩
    · exact .inl ⟨_, h4, by show lo ≤ (ins l k v).length; omega, h3⟩
    · exact .inr ⟨a, b, h4, h5, h6⟩
  | h + 1, lo, .inner ks, k, v, hlo, hw, ha => by
    obtain ⟨h1, h2, h3⟩ := hw
    have hlo1 : 1 ≤ lo := by omega
    obtain ⟨i, hi⟩ : ∃ i, i = chd (ks.map (fk h)) k := ⟨_, rfl⟩
    have hsp := split (i := i) k h3 (by omega) ha hi
    obtain ⟨hil, hA, hC, hfl⟩ := hsp
    have hkw := h3 _ (getD_mem hil)
    have hka : Asc (flat h (ks.getD i (.leaf []))) := by
      have := ha
      rw [flat_succ, hfl] at this
      exact (asc_app (asc_app this).2.1).1
    obtain ⟨ih1, ih2⟩ := wi_ok h 4 (ks.getD i (.leaf [])) k v (.inr (by decide)) hkw hka
    have e : wi (h + 1) (.inner ks) k v = hv (.inner (spl ks i (i + 1) (wi h (ks.getD i (.leaf [])) k v))) := by
      rw [hi]; rfl
    have hwb : Wb (h + 1) (.inner (spl ks i (i + 1) (wi h (ks.getD i (.leaf [])) k v))) := by
      intro t ht
      unfold spl at ht
      rcases List.mem_append.1 ht with ht | ht
      · exact h3 t (List.mem_of_mem_take ht)
      rcases List.mem_append.1 ht with ht | ht
      · rcases ih2 with ⟨a, e2, wa⟩ | ⟨a, b, e2, wa, wb⟩
        · rw [e2, List.mem_singleton] at ht; rw [ht]; exact wa
        · rw [e2] at ht
          rcases List.mem_cons.1 ht with rfl | ht
          · exact wa
          · rw [List.mem_singleton] at ht; rw [ht]; exact wb
      · exact h3 t (List.mem_of_mem_drop ht)
    have hwl : 1 ≤ (wi h (ks.getD i (.leaf [])) k v).length ∧ (wi h (ks.getD i (.leaf [])) k v).length ≤ 2 := by
      rcases ih2 with ⟨a, e2, _⟩ | ⟨a, b, e2, _, _⟩ <;> rw [e2] <;> simp
    have hlen := spl_len ks (a := i) (b := i + 1) (wi h (ks.getD i (.leaf [])) k v) (by omega) (by omega)
    have hok := hv_ok (h + 1) (.inner (spl ks i (i + 1) (wi h (ks.getD i (.leaf [])) k v))) hwb (by show (spl ks i (i + 1) _).length ≤ 11; omega)
    rw [e]
    refine ⟨?_, ?_⟩
    · rw [hok.1, flat_succ, flat_succ]
      unfold spl
      rw [flats_app, flats_app, ih1, hfl, ins_mid hA hC]
    · rcases hok.2 with ⟨h5, h6⟩ | ⟨h5, a, b, h6, h7, h8⟩
      · exact .inl ⟨_, h6, by show lo ≤ (spl ks i (i + 1) _).length; omega, h5, hwb⟩
      · exact .inr ⟨a, b, h6, h7, h8⟩
theorem has_mid {A M C : List E} {k : K} (ha : Lo A k) (hc : Hi C k) : has (A ++ (M ++ C)) k = has M k := by
  rw [has_app, has_app, has_lo ha, has_hi hc]; simp
theorem del_mid {A M C : List E} {k : K} (ha : Lo A k) (hc : Hi C k) : del (A ++ (M ++ C)) k = A ++ (del M k ++ C) := by
  rw [del_app, del_app, del_of_not (has_lo ha), del_of_not (has_hi hc)]
theorem flats_one (h : Nat) (a : T) : flats h [a] = flat h a := by rw [flats_cons]; simp [flats]
/-- a child that may have one too few, in its place -/
theorem rpl_ok {h lo : Nat} {ks : List T} {i : Nat} {x : T} (hlo : 2 ≤ lo) (h1 : lo ≤ ks.length) (h2 : ks.length ≤ 8) (h3 : ∀ t ∈ ks, Wf h 4 t) (hi : i < ks.length) (hx : Wf h 3 x) :
    flat (h + 1) (rpl (.inner ks) i x) = flats h (ks.take i) ++ (flat h x ++ flats h (ks.drop (i + 1))) ∧ Wf (h + 1) (lo - 1) (rpl (.inner ks) i x) := by
  have hmem : ∀ (a b : Nat) (e : List T), (∀ t ∈ e, Wf h 4 t) → ∀ t ∈ spl ks a b e, Wf h 4 t := fun a b e he t ht => by
    unfold spl at ht
    rcases List.mem_append.1 ht with ht | ht
    · exact h3 t (List.mem_of_mem_take ht)
    rcases List.mem_append.1 ht with ht | ht
    · exact he t ht
    · exact h3 t (List.mem_of_mem_drop ht)
  have hx2 := (wf_iff h 3 x).1 hx
  unfold rpl
  by_cases h4 : 4 ≤ cnt x
  · rw [if_pos h4]
    have hlen := spl_len ks (a := i) (b := i + 1) [x] (by omega) (by omega)
    rw [List.length_singleton] at hlen
    refine ⟨?_, by show lo - 1 ≤ (spl ks i (i + 1) [x]).length; omega, by show (spl ks i (i + 1) [x]).length ≤ 8; omega, hmem _ _ _ (fun t ht => by rw [List.mem_singleton.1 ht]; exact wf_up hx h4)⟩
    rw [flat_succ]
    show flats h (spl ks i (i + 1) [x]) = _
    unfold spl
    rw [flats_app, flats_app, flats_one]
  · rw [if_neg h4]
    have hc3 : cnt x = 3 := by omega
    have fin : ∀ (e : List T) (y : T), cnt y ≤ 11 → 7 ≤ cnt y → Wb h y → e = hv y → flats h e = flat h y ∧ 1 ≤ e.length ∧ e.length ≤ 2 ∧ ∀ t ∈ e, Wf h 4 t := fun e y hy hy7 hwy he => by
      have hok := hv_ok h y hwy hy
      subst he
      refine ⟨hok.1, ?_⟩
      rcases hok.2 with ⟨h5, h6⟩ | ⟨h5, a, b, h6, h7, h8⟩
      · rw [h6]
        exact ⟨by simp, by simp, fun t ht => by rw [List.mem_singleton.1 ht]; exact (wf_iff h 4 y).2 ⟨by omega, h5, hwy⟩⟩
      · rw [h6]
        refine ⟨by simp, by simp, fun t ht => ?_⟩
        rcases List.mem_cons.1 ht with rfl | ht
        · exact h7
        · rw [List.mem_singleton.1 ht]; exact h8
    by_cases h0 : 0 < i
    · rw [if_pos h0]
      have hj : i - 1 < ks.length := by omega
      have hkj := (wf_iff h 4 _).1 (h3 _ (getD_mem hj))
      obtain ⟨j1, j2, j3⟩ := jn_wb h hkj.2.2 hx2.2.2
      obtain ⟨f1, f2, f3, f4⟩ := fin _ _ (by rw [j3]; omega) (by rw [j3]; omega) j1 rfl
      have hlen := spl_len ks (a := i - 1) (b := i + 1) (hv (jn (ks.getD (i - 1) (.leaf [])) x)) (by omega) (by omega)
      refine ⟨?_, ?_, ?_, hmem _ _ _ f4⟩
      · rw [flat_succ]
        show flats h (spl ks (i - 1) (i + 1) (hv (jn (ks.getD (i - 1) (.leaf [])) x))) = _
        unfold spl
        have ht : ks.take i = ks.take (i - 1) ++ [ks.getD (i - 1) (.leaf [])] := by
          have e1 : ks.getD (i - 1) (.leaf []) = ks[i - 1] := by simp [List.getD, List.getElem?_eq_getElem hj]
          rw [e1]
          have e2 := List.take_add_one (l := ks) (i := i - 1)
          rw [show i - 1 + 1 = i by omega, List.getElem?_eq_getElem hj] at e2
          simpa using e2
        rw [flats_app, flats_app, f1, j2, ht, flats_app, flats_one]
        simp
      · show lo - 1 ≤ (spl ks (i - 1) (i + 1) (hv (jn (ks.getD (i - 1) (.leaf [])) x))).length
        omega
      · show (spl ks (i - 1) (i + 1) (hv (jn (ks.getD (i - 1) (.leaf [])) x))).length ≤ 8
        omega
    · rw [if_neg h0]
      have hi0 : i = 0 := by omega
      subst hi0
      have hj : 0 + 1 < ks.length := by omega
      have hkj := (wf_iff h 4 _).1 (h3 _ (getD_mem hj))
      obtain ⟨j1, j2, j3⟩ := jn_wb h hx2.2.2 hkj.2.2
      obtain ⟨f1, f2, f3, f4⟩ := fin _ _ (by rw [j3]; omega) (by rw [j3]; omega) j1 rfl
      have hlen := spl_len ks (a := 0) (b := 0 + 2) (hv (jn x (ks.getD (0 + 1) (.leaf [])))) (by omega) (by omega)
      refine ⟨?_, ?_, ?_, hmem _ _ _ f4⟩
      · rw [flat_succ]
        show flats h (spl ks 0 (0 + 2) (hv (jn x (ks.getD (0 + 1) (.leaf []))))) = _
        unfold spl
        have e1 : ks.getD (0 + 1) (.leaf []) = ks[0 + 1] := by simp [List.getD, List.getElem?_eq_getElem hj]
        have hd : ks.drop (0 + 1) = ks.getD (0 + 1) (.leaf []) :: ks.drop (0 + 2) := by rw [e1]; exact List.drop_eq_getElem_cons hj
        rw [flats_app, flats_app, f1, j2, hd, flats_cons]
        simp
      · show lo - 1 ≤ (spl ks 0 (0 + 2) (hv (jn x (ks.getD (0 + 1) (.leaf []))))).length
        omega
      · show (spl ks 0 (0 + 2) (hv (jn x (ks.getD (0 + 1) (.leaf []))))).length ≤ 8
        omega
theorem wo_ok : ∀ (h lo : Nat) (t : T) (k : K), (h = 0 ∨ 2 ≤ lo) → Wf h lo t → Asc (flat h t) → has (flat h t) k = true →
    flat h (wo h t k) = del (flat h t) k ∧ Wf h (lo - 1) (wo h t k)
  | 0, _, .inner _, _, _, h, _, _ => h.elim
  | _ + 1, _, .leaf _, _, _, h, _, _ => h.elim
  | 0, lo, .leaf l, k, _, hw, ha, hk => by
    obtain ⟨h1, h2⟩ := hw
    have hl : spl l (fnd (l.map (·.1)) k) (fnd (l.map (·.1)) k + 1) [] = del l k := leaf_del l k ha hk
    have e : wo 0 (.leaf l) k = .leaf (del l k) := by
      show T.leaf (spl l _ _ _) = _
      exact congrArg T.leaf hl
    have hlen := del_len l k ha
    have hk' : has l k = true := hk
    rw [if_pos hk'] at hlen
    rw [e]
    exact ⟨rfl, by show lo - 1 ≤ (del l k).length; omega, by show (del l k).length ≤ 8; omega⟩
  | h + 1, lo, .inner ks, k, hlo, hw, ha, hk => by
    obtain ⟨h1, h2, h3⟩ := hw
    have hlo2 : 2 ≤ lo := by omega
    obtain ⟨i, hi⟩ : ∃ i, i = chd (ks.map (fk h)) k := ⟨_, rfl⟩
    obtain ⟨hil, hA, hC, hfl⟩ := split (i := i) k h3 (by omega) ha hi
    have hkw := h3 _ (getD_mem hil)
    rw [flat_succ, hfl, has_mid hA hC] at hk
    have hka : Asc (flat h (ks.getD i (.leaf []))) := by
      have := ha
      rw [flat_succ, hfl] at this
      exact (asc_app (asc_app this).2.1).1
    obtain ⟨ih1, ih2⟩ := wo_ok h 4 (ks.getD i (.leaf [])) k (.inr (by decide)) hkw hka hk
    have e : wo (h + 1) (.inner ks) k = rpl (.inner ks) i (wo h (ks.getD i (.leaf [])) k) := by rw [hi]; rfl
    obtain ⟨r1, r2⟩ := rpl_ok (x := wo h (ks.getD i (.leaf [])) k) hlo2 h1 h2 h3 hil ih2
    rw [e]
    refine ⟨?_, r2⟩
    rw [r1, ih1, flat_succ, hfl, del_mid hA hC]
end Go.Proofs.Ytdchapcpimhjaaa.Tm
