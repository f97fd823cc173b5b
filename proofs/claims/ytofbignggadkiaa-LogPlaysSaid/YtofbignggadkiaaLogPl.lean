/- Layer 7 in plain words: small heads and frames as sectors, byte for byte; what a torn write leaves of them. -/
import Derived.Test.YtofbignggadkiaaLogBnd
namespace Go.Proofs.Ytofbignggadkiaa.Lm

theorem be4 {n : Nat} (h : n < 256) : be 4 n = [0, 0, 0, UInt8.ofNat n] := by
  have h1 : n / 256 ^ 3 = 0 := Nat.div_eq_of_lt (by omega)
  have h2 : n / 256 ^ 2 = 0 := Nat.div_eq_of_lt (by omega)
  have h3 : n / 256 ^ 1 = 0 := Nat.div_eq_of_lt (by omega)
  have h4 : n / 256 ^ 0 = n := by simp
  simp only [be, h1, h2, h3, h4]
  rfl
theorem be8 {n : Nat} (h : n < 256) : be 8 n = [0, 0, 0, 0, 0, 0, 0, UInt8.ofNat n] := by
  have h7 : n / 256 ^ 7 = 0 := Nat.div_eq_of_lt (by omega)
  have h6 : n / 256 ^ 6 = 0 := Nat.div_eq_of_lt (by omega)
  have h5 : n / 256 ^ 5 = 0 := Nat.div_eq_of_lt (by omega)
  have h4 : n / 256 ^ 4 = 0 := Nat.div_eq_of_lt (by omega)
  show UInt8.ofNat (n / 256 ^ 7) :: UInt8.ofNat (n / 256 ^ 6) :: UInt8.ofNat (n / 256 ^ 5) :: UInt8.ofNat (n / 256 ^ 4) :: be 4 n = _
  rw [h7, h6, h5, h4, be4 h]
  rfl
theorem num4 (x : UInt8) : num [0, 0, 0, x] = (x.toNat : Int) := by simp [num, numGo]
theorem num8 (x : UInt8) : num [0, 0, 0, 0, 0, 0, 0, x] = (x.toNat : Int) := by simp [num, numGo]
theorem ofNat_toNat {n : Nat} (h : n < 256) : (UInt8.ofNat n).toNat = n := by rw [UInt8.toNat_ofNat']; omega
theorem ext64 {a b : List UInt8} (ha : a.length = 64) (hb : b.length = 64) (h : ∀ j, j < 64 → a.getD j 0 = b.getD j 0) : a = b := by
  apply List.ext_getElem (by omega)
  intro j h1 h2
  have := h j (by omega)
  simpa [List.getD, h1, h2] using this
theorem mix_len {N o : List UInt8} (hN : N.length = 64) (ho : o.length = 64) {t : Nat} (ht : t ≤ 64) : (N.take t ++ o.drop t).length = 64 := by
  rw [List.length_append, List.length_take, List.length_drop]; omega
theorem mix_get {N o : List UInt8} (hN : N.length = 64) {t : Nat} (ht : t ≤ 64) (j : Nat) : (N.take t ++ o.drop t).getD j 0 = if j < t then N.getD j 0 else o.getD j 0 := by
  split
  · rename_i h
    rw [List.getD, List.getD, List.getElem?_append_left (by rw [List.length_take]; omega), List.getElem?_take, if_pos h]
  · rename_i h
    rw [List.getD, List.getD, List.getElem?_append_right (by rw [List.length_take]; omega), List.length_take, List.getElem?_drop]
    congr 2
    omega
theorem take_get {s : List UInt8} (n j : Nat) (h : j < n) : (s.take n).getD j 0 = s.getD j 0 := by
  rw [List.getD, List.getD, List.getElem?_take, if_pos h]
theorem drop_get {s : List UInt8} (n j : Nat) : (s.drop n).getD j 0 = s.getD (n + j) 0 := by
  rw [List.getD, List.getD, List.getElem?_drop]
theorem list4 {l : List UInt8} (h : l.length = 4) : l = [l.getD 0 0, l.getD 1 0, l.getD 2 0, l.getD 3 0] := by
  match l, h with
  | [a, b, c, d], _ => rfl
theorem list8 {l : List UInt8} (h : l.length = 8) : l = [l.getD 0 0, l.getD 1 0, l.getD 2 0, l.getD 3 0, l.getD 4 0, l.getD 5 0, l.getD 6 0, l.getD 7 0] := by
  match l, h with
  | [a, b, c, d, e, f, g, i], _ => rfl

/-! ### frames -/
theorem fsec_eq {ep k : Nat} {last : Bool} {b : List UInt8} (he : ep < 256) (hk : k < 256) (_hb : b.length ≤ 46) :
    fsec ep k last b = [0, 0, 0, UInt8.ofNat ep, 0, 0, 0, UInt8.ofNat k, (if last then 1 else 0), UInt8.ofNat b.length] ++ (b ++ List.replicate (46 - b.length) 0) ++ [0, 0, 0, UInt8.ofNat ep, 0, 0, 0, UInt8.ofNat k] := by
  unfold fsec pad
  rw [be4 he, be4 hk]
  have : 56 - ([0, 0, 0, UInt8.ofNat ep] ++ [0, 0, 0, UInt8.ofNat k] ++ [if last = true then (1 : UInt8) else 0] ++ [UInt8.ofNat b.length] ++ b).length = 46 - b.length := by simp
  rw [this]
  simp
theorem fsec_get {ep k : Nat} {last : Bool} {b : List UInt8} (he : ep < 256) (hk : k < 256) (hb : b.length ≤ 46) (j : Nat) :
    (j < 10 → (fsec ep k last b).getD j 0 = [0, 0, 0, UInt8.ofNat ep, 0, 0, 0, UInt8.ofNat k, (if last then 1 else 0), UInt8.ofNat b.length].getD j 0) ∧ (j < 8 → (fsec ep k last b).getD (56 + j) 0 = [0, 0, 0, UInt8.ofNat ep, 0, 0, 0, UInt8.ofNat k].getD j 0) := by
  rw [fsec_eq he hk hb]
  refine ⟨fun h => ?_, fun h => ?_⟩
  · rw [List.append_assoc, List.getD, List.getD, List.getElem?_append_left (by simpa using h)]
  · rw [List.getD, List.getD, List.getElem?_append_right (by simp; omega)]
    congr 2
    simp; omega
theorem fr_fsec {ep k : Nat} {last : Bool} {b : List UInt8} (he : ep < 256) (hk : k < 256) (hb : b.length ≤ 46) : fr (fsec ep k last b) k = some (ep, last, b) := by
  have hn : (UInt8.ofNat b.length).toNat = b.length := ofNat_toNat (by omega)
  have h8 : (fsec ep k last b).take 8 = [0, 0, 0, UInt8.ofNat ep, 0, 0, 0, UInt8.ofNat k] := by rw [fsec_eq he hk hb]; rfl
  have h56 : (fsec ep k last b).drop 56 = [0, 0, 0, UInt8.ofNat ep, 0, 0, 0, UInt8.ofNat k] := by
    rw [fsec_eq he hk hb, List.drop_append_of_le_length (by simp; omega), List.drop_of_length_le (by simp; omega)]; rfl
  have h4 : ((fsec ep k last b).drop 4).take 4 = [0, 0, 0, UInt8.ofNat k] := by rw [fsec_eq he hk hb]; rfl
  have h3 : (fsec ep k last b).take 4 = [0, 0, 0, UInt8.ofNat ep] := by rw [fsec_eq he hk hb]; rfl
  have hl : (fsec ep k last b).getD 8 0 = if last then 1 else 0 := (fsec_get he hk hb 8).1 (by omega)
  have hc : (fsec ep k last b).getD 9 0 = UInt8.ofNat b.length := (fsec_get he hk hb 9).1 (by omega)
  have hd : ((fsec ep k last b).drop 10).take b.length = b := by
    rw [fsec_eq he hk hb]
    show ((b ++ List.replicate (46 - b.length) 0) ++ _).take b.length = b
    rw [List.append_assoc, List.take_left']
    rfl
  unfold fr
  rw [h8, h56, h4, hl, hc, hn, hd, h3, num4, num4, ofNat_toNat hk, ofNat_toNat he]
  rw [if_neg (by simp; constructor; cases last <;> decide; omega)]
  cases last <;> rfl
/-- a frame's sector, whatever became of it, as long as all epochs were at most E -/
structure Fq (E k : Nat) (s : List UInt8) : Prop where
  len : s.length = 64
  z : ∀ j, j < 64 → (j < 3 ∨ (4 ≤ j ∧ j < 7) ∨ (56 ≤ j ∧ j < 59) ∨ (60 ≤ j ∧ j < 63)) → s.getD j 0 = 0
  a : (s.getD 3 0).toNat ≤ E
  b : (s.getD 59 0).toNat ≤ E
  k : s.getD 63 0 = 0 ∨ s.getD 63 0 = UInt8.ofNat k
theorem Fq.le {E E' k : Nat} {s : List UInt8} (h : Fq E k s) (he : E ≤ E') : Fq E' k s := ⟨h.len, h.z, Nat.le_trans h.a he, Nat.le_trans h.b he, h.k⟩
theorem fq_zero (E k : Nat) : Fq E k (Sm.full []) := by
  have hz : ∀ j, (Sm.full []).getD j 0 = 0 := by
    intro j
    show (List.replicate 64 (0 : UInt8)).getD j 0 = 0
    rw [List.getD, List.getElem?_replicate]
    split <;> rfl
  refine ⟨rfl, fun j _ _ => hz j, ?_, ?_, .inl (hz 63)⟩
  · rw [hz]; exact Nat.zero_le _
  · rw [hz]; exact Nat.zero_le _
theorem fq_new {ep k : Nat} {last : Bool} {b : List UInt8} (he : ep < 256) (hk : k < 256) (hb : b.length ≤ 46) : Fq ep k (fsec ep k last b) := by
  have hg := fun j => fsec_get (last := last) he hk hb j
  refine ⟨fsec_length hb, fun j hj hz => ?_, ?_, ?_, .inr ((hg 7).2 (by omega))⟩
  · rcases hz with h | h | h | h
    · have : j = 0 ∨ j = 1 ∨ j = 2 := by omega
      rcases this with rfl | rfl | rfl <;> rw [(hg _).1 (by omega)] <;> rfl
    · have : j = 4 ∨ j = 5 ∨ j = 6 := by omega
      rcases this with rfl | rfl | rfl <;> rw [(hg _).1 (by omega)] <;> rfl
    · have : j = 56 + 0 ∨ j = 56 + 1 ∨ j = 56 + 2 := by omega
      rcases this with rfl | rfl | rfl <;> rw [(hg _).2 (by omega)] <;> rfl
    · have : j = 56 + 4 ∨ j = 56 + 5 ∨ j = 56 + 6 := by omega
      rcases this with rfl | rfl | rfl <;> rw [(hg _).2 (by omega)] <;> rfl
  · rw [(hg 3).1 (by omega)]; exact Nat.le_of_eq (ofNat_toNat he)
  · rw [show (59 : Nat) = 56 + 3 from rfl, (hg 3).2 (by omega)]; exact Nat.le_of_eq (ofNat_toNat he)
theorem fq_ep {E k : Nat} {s : List UInt8} (h : Fq E k s) {ep : Nat} {last : Bool} {b : List UInt8} (e : fr s k = some (ep, last, b)) : ep ≤ E := by
  unfold fr at e
  split at e
  · cases e
  injection e with e
  injection e with e _
  have h4 : s.take 4 = [0, 0, 0, s.getD 3 0] := by
    have := list4 (l := s.take 4) (by rw [List.length_take, h.len]; rfl)
    rw [take_get 4 0 (by omega), take_get 4 1 (by omega), take_get 4 2 (by omega), take_get 4 3 (by omega), h.z 0 (by omega) (by omega), h.z 1 (by omega) (by omega), h.z 2 (by omega) (by omega)] at this
    exact this
  rw [h4, num4] at e
  have := h.a
  omega
/-- both marks of a frame that counts are equal -/
theorem fr_marks {s : List UInt8} {k j : Nat} (hj : j < 8) (h : s.getD j 0 ≠ s.getD (56 + j) 0) : fr s k = none := by
  unfold fr
  rw [if_pos]
  left
  intro e
  apply h
  have := congrArg (fun l => l.getD j 0) e
  rwa [take_get 8 j hj, drop_get] at this
/-- WHAT A CRASH LEAVES OF A FRAME THAT WAS BEING WRITTEN -/
theorem frame_torn {E ep k t : Nat} {last : Bool} {b o : List UInt8} (ho : Fq E k o) (hE : E < ep) (he : ep < 256) (hk : k < 256) (hb : b.length ≤ 46) (ht : t ≤ 64) :
    Fq ep k ((fsec ep k last b).take t ++ o.drop t) ∧ ((fsec ep k last b).take t ++ o.drop t = o ∨ (fsec ep k last b).take t ++ o.drop t = fsec ep k last b ∨ fr ((fsec ep k last b).take t ++ o.drop t) k = none) := by
  have hN := fq_new (last := last) he hk hb
  have hm := fun j => mix_get (o := o) hN.len ht j
  have hN3 : ((fsec ep k last b).getD 3 0).toNat = ep := by rw [(fsec_get he hk hb 3).1 (by omega)]; exact ofNat_toNat he
  have hN7 : (fsec ep k last b).getD 7 0 = UInt8.ofNat k := (fsec_get he hk hb 7).1 (by omega)
  have hN63 : (fsec ep k last b).getD 63 0 = UInt8.ofNat k := (fsec_get he hk hb 7).2 (by omega)
  refine ⟨⟨mix_len hN.len ho.len ht, fun j hj hz => ?_, ?_, ?_, ?_⟩, ?_⟩
  · rw [hm]; split
    · exact hN.z j hj hz
    · exact ho.z j hj hz
  · rw [hm]; split
    · exact hN.a
    · have := ho.a; omega
  · rw [hm]; split
    · exact hN.b
    · have := ho.b; omega
  · rw [hm]; split
    · exact hN.k
    · exact ho.k
  · by_cases h1 : t ≤ 3
    · left
      refine ext64 (mix_len hN.len ho.len ht) ho.len fun j hj => ?_
      rw [hm]; split
      · rw [hN.z j hj (.inl (by omega)), ho.z j hj (.inl (by omega))]
      · rfl
    by_cases h2 : t ≤ 59
    · right; right
      refine fr_marks (j := 3) (by omega) ?_
      rw [hm, hm, if_pos (by omega), if_neg (by omega)]
      intro e
      have := congrArg UInt8.toNat e
      rw [hN3] at this
      have h59 : (o.getD (56 + 3) 0).toNat ≤ E := ho.b
      omega
    · by_cases h3 : t ≤ 63
      · rcases ho.k with h4 | h4
        · by_cases h5 : UInt8.ofNat k = 0
          · right; left
            refine ext64 (mix_len hN.len ho.len ht) hN.len fun j hj => ?_
            rw [hm]; split
            · rfl
            · by_cases h6 : j < 63
              · rw [hN.z j hj (.inr (.inr (.inr (by omega)))), ho.z j hj (.inr (.inr (.inr (by omega))))]
              · have : j = 63 := by omega
                subst this
                rw [h4, hN63, h5]
          · right; right
            refine fr_marks (j := 7) (by omega) ?_
            rw [hm, hm, if_pos (by omega), if_neg (by omega), hN7, h4]
            exact h5
        · right; left
          refine ext64 (mix_len hN.len ho.len ht) hN.len fun j hj => ?_
          rw [hm]; split
          · rfl
          · by_cases h6 : j < 63
            · rw [hN.z j hj (.inr (.inr (.inr (by omega)))), ho.z j hj (.inr (.inr (.inr (by omega))))]
            · have : j = 63 := by omega
              subst this
              rw [h4, hN63]
      · right; left
        have : t = 64 := by omega
        subst this
        rw [List.take_of_length_le (by rw [hN.len]; omega), List.drop_of_length_le (by rw [ho.len]; omega), List.append_nil]

/-! ### heads -/
theorem hsec_eq {h : Hd} (hn : h.n < 256) (he : h.epoch < 256) (hb : h.base < 256) (_hl : h.body.length ≤ 32) :
    hsec h = [0, 0, 0, 0, 0, 0, 0, UInt8.ofNat h.n, 0, 0, 0, UInt8.ofNat h.epoch, 0, 0, 0, UInt8.ofNat h.base, UInt8.ofNat h.body.length] ++ (h.body ++ List.replicate (39 - h.body.length) 0) ++ [0, 0, 0, 0, 0, 0, 0, UInt8.ofNat h.n] := by
  unfold hsec pad
  rw [be8 hn, be4 he, be4 hb]
  have : 56 - ([0, 0, 0, 0, 0, 0, 0, UInt8.ofNat h.n] ++ [0, 0, 0, UInt8.ofNat h.epoch] ++ [0, 0, 0, UInt8.ofNat h.base] ++ [UInt8.ofNat h.body.length] ++ h.body).length = 39 - h.body.length := by simp
  rw [this]
  simp
theorem hsec_get {h : Hd} (hn : h.n < 256) (he : h.epoch < 256) (hb : h.base < 256) (hl : h.body.length ≤ 32) (j : Nat) (hj : j < 8) :
    (hsec h).getD j 0 = [0, 0, 0, 0, 0, 0, 0, UInt8.ofNat h.n].getD j 0 ∧ (hsec h).getD (56 + j) 0 = [0, 0, 0, 0, 0, 0, 0, UInt8.ofNat h.n].getD j 0 := by
  rw [hsec_eq hn he hb hl]
  refine ⟨?_, ?_⟩
  · rw [List.append_assoc, List.getD, List.getD, List.getElem?_append_left (by simp; omega)]
    match j, hj with
    | 0, _ => rfl
    | 1, _ => rfl
    | 2, _ => rfl
    | 3, _ => rfl
    | 4, _ => rfl
    | 5, _ => rfl
    | 6, _ => rfl
    | 7, _ => rfl
  · rw [List.getD, List.getD, List.getElem?_append_right (by simp; omega)]
    congr 2
    simp; omega
theorem rhead_hsec {h : Hd} (h1 : 1 ≤ h.n) (hn : h.n < 256) (he : h.epoch < 256) (hb : h.base ≤ h.epoch) (hl : h.body.length ≤ 32) : rhead (hsec h) (h.n % 2) = some h := by
  have hc : (UInt8.ofNat h.body.length).toNat = h.body.length := ofNat_toNat (by omega)
  have e := hsec_eq hn he (by omega) hl
  have h8 : (hsec h).take 8 = [0, 0, 0, 0, 0, 0, 0, UInt8.ofNat h.n] := by rw [e]; rfl
  have h56 : (hsec h).drop 56 = [0, 0, 0, 0, 0, 0, 0, UInt8.ofNat h.n] := by
    rw [e, List.drop_append_of_le_length (by simp; omega), List.drop_of_length_le (by simp; omega)]; rfl
  have hE : ((hsec h).drop 8).take 4 = [0, 0, 0, UInt8.ofNat h.epoch] := by rw [e]; rfl
  have hB : ((hsec h).drop 12).take 4 = [0, 0, 0, UInt8.ofNat h.base] := by rw [e]; rfl
  have hL : (hsec h).getD 16 0 = UInt8.ofNat h.body.length := by rw [e]; rfl
  have hd : ((hsec h).drop 17).take h.body.length = h.body := by
    rw [e]
    show ((h.body ++ List.replicate (39 - h.body.length) 0) ++ _).take h.body.length = h.body
    rw [List.append_assoc, List.take_left']
    rfl
  unfold rhead
  rw [h8, h56, hE, hB, hL, hc, hd, num8, num4, num4, ofNat_toNat hn, ofNat_toNat he, ofNat_toNat (show h.base < 256 by omega)]
  rw [if_neg (by simp; omega)]
  rfl
/-- a head's sector, whatever became of it, as long as all numbers were at most c -/
structure Hq (c : Nat) (s : List UInt8) : Prop where
  len : s.length = 64
  z : ∀ j, j < 64 → (j < 7 ∨ (56 ≤ j ∧ j < 63)) → s.getD j 0 = 0
  b : (s.getD 63 0).toNat ≤ c
theorem Hq.le {c c' : Nat} {s : List UInt8} (h : Hq c s) (hc : c ≤ c') : Hq c' s := ⟨h.len, h.z, Nat.le_trans h.b hc⟩
theorem hq_zero (c : Nat) : Hq c (Sm.full []) := by
  have hz : ∀ j, (Sm.full []).getD j 0 = 0 := by
    intro j
    show (List.replicate 64 (0 : UInt8)).getD j 0 = 0
    rw [List.getD, List.getElem?_replicate]
    split <;> rfl
  exact ⟨rfl, fun j _ _ => hz j, by rw [hz]; exact Nat.zero_le _⟩
theorem hq_new {h : Hd} (hn : h.n < 256) (he : h.epoch < 256) (hb : h.base < 256) (hl : h.body.length ≤ 32) : Hq h.n (hsec h) := by
  have hg := fun j hj => hsec_get hn he hb hl j hj
  refine ⟨hsec_length hl, fun j hj hz => ?_, ?_⟩
  · rcases hz with h7 | h7
    · rw [(hg j (by omega)).1]
      match j, h7 with
      | 0, _ => rfl
      | 1, _ => rfl
      | 2, _ => rfl
      | 3, _ => rfl
      | 4, _ => rfl
      | 5, _ => rfl
      | 6, _ => rfl
    · obtain ⟨i, rfl⟩ : ∃ i, j = 56 + i := ⟨j - 56, by omega⟩
      have hi : i < 7 := by omega
      rw [(hg i (by omega)).2]
      match i, hi with
      | 0, _ => rfl
      | 1, _ => rfl
      | 2, _ => rfl
      | 3, _ => rfl
      | 4, _ => rfl
      | 5, _ => rfl
      | 6, _ => rfl
  · rw [show (63 : Nat) = 56 + 7 from rfl, (hg 7 (by omega)).2]; exact Nat.le_of_eq (ofNat_toNat hn)
theorem rhead_marks {s : List UInt8} {i j : Nat} (hj : j < 8) (h : s.getD j 0 ≠ s.getD (56 + j) 0) : rhead s i = none := by
  unfold rhead
  rw [if_pos]
  left
  intro e
  apply h
  have := congrArg (fun l => l.getD j 0) e
  rwa [take_get 8 j hj, drop_get] at this
theorem hq_n {c i : Nat} {s : List UInt8} (h : Hq c s) {x : Hd} (e : rhead s i = some x) : x.n ≤ c ∧ 1 ≤ x.n ∧ x.n % 2 = i := by
  have hx := rhead_some e
  refine ⟨?_, hx.2.2.2.2.1, hx.2.2.2.2.2⟩
  unfold rhead at e
  split at e
  · cases e
  rename_i hne
  simp only [not_or, ne_eq, Decidable.not_not] at hne
  injection e with e
  rw [← e]
  show (num (s.take 8)).toNat ≤ c
  have h8 : s.drop 56 = [0, 0, 0, 0, 0, 0, 0, s.getD 63 0] := by
    have := list8 (l := s.drop 56) (by rw [List.length_drop, h.len])
    rw [drop_get, drop_get, drop_get, drop_get, drop_get, drop_get, drop_get, drop_get, h.z 56 (by omega) (by omega), h.z 57 (by omega) (by omega), h.z 58 (by omega) (by omega), h.z 59 (by omega) (by omega), h.z 60 (by omega) (by omega), h.z 61 (by omega) (by omega), h.z 62 (by omega) (by omega)] at this
    exact this
  rw [hne.1, h8, num8]
  have := h.b
  omega
/-- WHAT A CRASH LEAVES OF A HEAD THAT WAS BEING WRITTEN -/
theorem head_torn {c t : Nat} {h : Hd} {o : List UInt8} (ho : Hq c o) (hc : h.n = c + 1) (hn : h.n < 256) (he : h.epoch < 256) (hb : h.base < 256) (hl : h.body.length ≤ 32) (ht : t ≤ 64) (i : Nat) :
    (hsec h).take t ++ o.drop t = o ∨ (hsec h).take t ++ o.drop t = hsec h ∨ (Hq c ((hsec h).take t ++ o.drop t) ∧ rhead ((hsec h).take t ++ o.drop t) i = none) := by
  have hN := hq_new hn he hb hl
  have hm := fun j => mix_get (o := o) hN.len ht j
  have hN7 : ((hsec h).getD 7 0).toNat = h.n := by rw [(hsec_get hn he hb hl 7 (by omega)).1]; exact ofNat_toNat hn
  by_cases h1 : t ≤ 7
  · left
    refine ext64 (mix_len hN.len ho.len ht) ho.len fun j hj => ?_
    rw [hm]; split
    · rw [hN.z j hj (.inl (by omega)), ho.z j hj (.inl (by omega))]
    · rfl
  by_cases h2 : t ≤ 63
  · right; right
    refine ⟨⟨mix_len hN.len ho.len ht, fun j hj hz => ?_, ?_⟩, rhead_marks (j := 7) (by omega) ?_⟩
    · rw [hm]; split
      · exact hN.z j hj hz
      · exact ho.z j hj hz
    · rw [hm, if_neg (by omega)]; exact ho.b
    · rw [hm, hm, if_pos (by omega), if_neg (by omega)]
      intro e
      have := congrArg UInt8.toNat e
      rw [hN7] at this
      have h63 : (o.getD (56 + 7) 0).toNat ≤ c := ho.b
      omega
  · right; left
    have : t = 64 := by omega
    subst this
    rw [List.take_of_length_le (by rw [hN.len]; omega), List.drop_of_length_le (by rw [ho.len]; omega), List.append_nil]
end Go.Proofs.Ytofbignggadkiaa.Lm
/- Layer 7 in plain words: what is read of frames, when some of them have been written anew. -/
namespace Go.Proofs.Ytofbignggadkiaa.Lm

/-- the batches of frames, whatever the head's epoch (all epochs are small) -/
def sc : List (List UInt8) → Nat → Nat → Bool → List UInt8 → List (List UInt8) → Nat → List (List UInt8) × Nat := scan 255
/-- all that may count of a frame has an epoch below e -/
def Lo (e k : Nat) (s : List UInt8) : Prop := ∀ ep last b, fr s k = some (ep, last, b) → ep < e
theorem Fq.lo {E e k : Nat} {s : List UInt8} (h : Fq E k s) (he : E < e) : Lo e k s := fun _ _ _ x => Nat.lt_of_le_of_lt (fq_ep h x) he
theorem scan_hep (e1 e2 : Nat) : ∀ (ss : List (List UInt8)) (k ahead : Nat) (ins : Bool) (batch : List UInt8) (l : List (List UInt8)) (at_ : Nat),
    (∀ j, j < ss.length → Lo (min e1 e2 + 1) (k + j) (ss.getD j [])) → scan e1 ss k ahead ins batch l at_ = scan e2 ss k ahead ins batch l at_
  | [], _, _, _, _, _, _, _ => rfl
  | s :: r, k, ahead, ins, batch, l, at_, h => by
    have h0 := h 0 (by simp)
    have hr : ∀ j, j < r.length → Lo (min e1 e2 + 1) (k + 1 + j) (r.getD j []) := fun j hj => by
      have := h (j + 1) (by simp; omega)
      rw [show k + 1 + j = k + (j + 1) by omega]
      simpa using this
    unfold scan
    cases hf : fr s k with
    | none => rfl
    | some x =>
      obtain ⟨ep, last, body⟩ := x
      have := h0 ep last body (by simpa using hf)
      have hc : (ep < 1 ∨ ep < ahead ∨ e1 < ep ∨ (ins = true ∧ ep ≠ ahead)) ↔ (ep < 1 ∨ ep < ahead ∨ e2 < ep ∨ (ins = true ∧ ep ≠ ahead)) := by
        constructor <;> (intro h; rcases h with h | h | h | h) <;> first | exact .inl h | exact .inr (.inl h) | (exfalso; omega) | exact .inr (.inr (.inr h))
      simp only [hc, scan_hep e1 e2 r _ _ _ _ _ _ hr]
theorem sc_nil (k ahead : Nat) (ins : Bool) (batch : List UInt8) (l : List (List UInt8)) (a : Nat) : sc [] k ahead ins batch l a = (l, a) := rfl
theorem sc_none {s : List UInt8} {k : Nat} (h : fr s k = none) (r : List (List UInt8)) (ahead : Nat) (ins : Bool) (batch : List UInt8) (l : List (List UInt8)) (a : Nat) : sc (s :: r) k ahead ins batch l a = (l, a) := by
  unfold sc scan; rw [h]
theorem sc_stop {s : List UInt8} {k ep : Nat} {last : Bool} {b : List UInt8} (h : fr s k = some (ep, last, b)) (r : List (List UInt8)) (ahead : Nat) (ins : Bool) (batch : List UInt8) (l : List (List UInt8)) (a : Nat)
    (hc : ep < 1 ∨ ep < ahead ∨ 255 < ep ∨ (ins = true ∧ ep ≠ ahead)) : sc (s :: r) k ahead ins batch l a = (l, a) := by
  unfold sc scan; rw [h]; simp only; rw [if_pos hc]
theorem sc_last {s : List UInt8} {k ep : Nat} {b : List UInt8} (h : fr s k = some (ep, true, b)) (r : List (List UInt8)) (ahead : Nat) (ins : Bool) (batch : List UInt8) (l : List (List UInt8)) (a : Nat)
    (hc : ¬ (ep < 1 ∨ ep < ahead ∨ 255 < ep ∨ (ins = true ∧ ep ≠ ahead))) : sc (s :: r) k ahead ins batch l a = sc r (k + 1) ep false [] (l ++ [batch ++ b]) (k + 1) := by
  unfold sc; rw [scan, h]; simp only; rw [if_neg hc]; rfl
theorem sc_more {s : List UInt8} {k ep : Nat} {b : List UInt8} (h : fr s k = some (ep, false, b)) (r : List (List UInt8)) (ahead : Nat) (ins : Bool) (batch : List UInt8) (l : List (List UInt8)) (a : Nat)
    (hc : ¬ (ep < 1 ∨ ep < ahead ∨ 255 < ep ∨ (ins = true ∧ ep ≠ ahead))) : sc (s :: r) k ahead ins batch l a = sc r (k + 1) ep true (batch ++ b) l a := by
  unfold sc; rw [scan, h]; simp only; rw [if_neg hc]; rfl
theorem sc_low {ep k : Nat} : ∀ (ss : List (List UInt8)), (0 < ss.length → Lo ep k (ss.getD 0 [])) → ∀ (ins : Bool) (batch : List UInt8) (l : List (List UInt8)) (a : Nat), sc ss k ep ins batch l a = (l, a)
  | [], _, _, _, _, _ => rfl
  | s :: r, h, ins, batch, l, a => by
    cases hf : fr s k with
    | none => exact sc_none hf ..
    | some x =>
      obtain ⟨e, last, b⟩ := x
      exact sc_stop hf _ _ _ _ _ _ (.inr (.inl (h (by simp) e last b (by simpa using hf))))
theorem scan_mono (hep : Nat) : ∀ (ss : List (List UInt8)) (k ahead : Nat) (ins : Bool) (batch : List UInt8) (l : List (List UInt8)) (at_ : Nat), l.length ≤ (scan hep ss k ahead ins batch l at_).1.length
  | [], _, _, _, _, _, _ => Nat.le_refl _
  | s :: r, k, ahead, ins, batch, l, at_ => by
    unfold scan
    split
    · exact Nat.le_refl _
    split
    · exact Nat.le_refl _
    split
    · rename_i ep last body _ _ _
      have := scan_mono hep r (k + 1) ep false [] (l ++ [batch ++ body]) (k + 1)
      rw [List.length_append] at this
      simp only [List.length_cons, List.length_nil] at this
      omega
    · exact scan_mono hep r ..
/-- ns is os, where the frames of ps have been written from frame k on, each of them whole, not at all, or so that it doesn't count -/
def Rel (ep : Nat) : List (List UInt8) → Nat → List (List UInt8) → List (List UInt8) → Prop
  | [], _, os, ns => os = ns
  | p :: r, k, o :: os, n :: ns => (n = o ∨ n = fsec ep k r.isEmpty p ∨ fr n k = none) ∧ Rel ep r (k + 1) os ns
  | _ :: _, _, _, _ => False
/-- all the frames of ps stand there whole -/
def All (ep : Nat) : List (List UInt8) → Nat → List (List UInt8) → Prop
  | [], _, _ => True
  | p :: r, k, n :: ns => n = fsec ep k r.isEmpty p ∧ All ep r (k + 1) ns
  | _ :: _, _, [] => False
/-- behind new frames: nothing more -/
theorem sc_part {ep : Nat} (he : ep < 256) (h1 : 1 ≤ ep) : ∀ (ps : List (List UInt8)) (k : Nat) (os ns : List (List UInt8)), ps ≠ [] → (∀ p ∈ ps, p.length ≤ 46) → k + ps.length ≤ 256 → Rel ep ps k os ns → (∀ j, j < os.length → Lo ep (k + j) (os.getD j [])) → ¬ All ep ps k ns →
    ∀ (batch : List UInt8) (l : List (List UInt8)) (a : Nat), sc ns k ep true batch l a = (l, a)
  | [], _, _, _, h, _, _, _, _, _, _, _, _ => absurd rfl h
  | p :: r, k, [], ns, _, _, _, hr, _, _, _, _, _ => hr.elim
  | p :: r, k, o :: os, [], _, _, _, hr, _, _, _, _, _ => hr.elim
  | p :: r, k, o :: os, n :: ns, _, h46, hk, hr, hlo, hna, batch, l, a => by
    obtain ⟨hn, hr⟩ := hr
    rw [List.length_cons] at hk
    rcases hn with rfl | rfl | hf
    · exact sc_low _ (fun _ => by have := hlo 0 (by simp); simpa using this) ..
    · have hf := fr_fsec (last := r.isEmpty) he (show k < 256 by omega) (h46 p (by simp))
      cases r with
      | nil => exact absurd ⟨rfl, trivial⟩ hna
      | cons q r =>
        rw [sc_more hf _ _ _ _ _ _ (by omega)]
        refine sc_part he h1 (q :: r) (k + 1) os ns (by simp) (fun x hx => h46 x (by simp [hx])) (by simp at hk ⊢; omega) hr (fun j hj => ?_) (fun hall => hna ⟨rfl, hall⟩) _ _ _
        have := hlo (j + 1) (by simp; omega)
        rw [show k + 1 + j = k + (j + 1) by omega]
        simpa using this
    · exact sc_none hf ..
/-- A BATCH THAT DOES NOT STAND THERE WHOLE ADDS NOTHING -/
theorem sc_torn {ep : Nat} (he : ep < 256) (h1 : 1 ≤ ep) : ∀ (ps : List (List UInt8)) (k : Nat) (os ns : List (List UInt8)), (∀ p ∈ ps, p.length ≤ 46) → k + ps.length ≤ 256 → Rel ep ps k os ns → (∀ j, j < os.length → Lo ep (k + j) (os.getD j [])) →
    ∀ (y : Nat) (ins : Bool) (batch : List UInt8) (l : List (List UInt8)) (a : Nat), y ≤ ep → (ins = true → y < ep) → (ins = true ∨ ¬ All ep ps k ns) → sc os k y ins batch l a = (l, a) → sc ns k y ins batch l a = (l, a)
  | [], _, os, ns, _, _, hr, _, _, _, _, _, _, _, _, _, h => by
    have hr : os = ns := hr
    rw [← hr]; exact h
  | p :: r, k, [], ns, _, _, hr, _, _, _, _, _, _, _, _, _, _ => hr.elim
  | p :: r, k, o :: os, [], _, _, hr, _, _, _, _, _, _, _, _, _, _ => hr.elim
  | p :: r, k, o :: os, n :: ns, h46, hk, hr, hlo, y, ins, batch, l, a, hy, hi, hna, h => by
    obtain ⟨hn, hr⟩ := hr
    rw [List.length_cons] at hk
    have hlo1 : ∀ j, j < os.length → Lo ep (k + 1 + j) (os.getD j []) := fun j hj => by
      have := hlo (j + 1) (by simp; omega)
      rw [show k + 1 + j = k + (j + 1) by omega]
      simpa using this
    rcases hn with rfl | rfl | hf
    · cases hf : fr n k with
      | none => exact sc_none hf ..
      | some x =>
        obtain ⟨e, last, b⟩ := x
        have hlt : e < ep := hlo 0 (by simp) e last b (by simpa using hf)
        by_cases hc : e < 1 ∨ e < y ∨ 255 < e ∨ (ins = true ∧ e ≠ y)
        · exact sc_stop hf _ _ _ _ _ _ hc
        · cases last with
          | true =>
            exfalso
            rw [sc_last hf _ _ _ _ _ _ hc] at h
            have := scan_mono 255 os (k + 1) e false [] (l ++ [batch ++ b]) (k + 1)
            have h2 := congrArg (fun x => x.1.length) h
            simp only [sc] at h2
            rw [h2, List.length_append] at this
            simp only [List.length_cons, List.length_nil] at this
            omega
          | false =>
            rw [sc_more hf _ _ _ _ _ _ hc] at h ⊢
            exact sc_torn he h1 r (k + 1) os ns (fun x hx => h46 x (by simp [hx])) (by omega) hr hlo1 e true _ _ _ (by omega) (fun _ => hlt) (.inl rfl) h
    · have hf := fr_fsec (last := r.isEmpty) he (show k < 256 by omega) (h46 p (by simp))
      cases ins with
      | true => exact sc_stop hf _ _ _ _ _ _ (.inr (.inr (.inr ⟨rfl, by have := hi rfl; omega⟩)))
      | false =>
        have hna : ¬ All ep (p :: r) k (fsec ep k r.isEmpty p :: ns) := by
          rcases hna with h | h
          · cases h
          · exact h
        cases r with
        | nil => exact absurd ⟨rfl, trivial⟩ hna
        | cons q r =>
          rw [sc_more hf _ _ _ _ _ _ (by simp; omega)]
          exact sc_part he h1 (q :: r) (k + 1) os ns (by simp) (fun x hx => h46 x (by simp [hx])) (by simp at hk ⊢; omega) hr hlo1 (fun hall => hna ⟨rfl, hall⟩) _ _ _
    · exact sc_none hf ..
/-- A BATCH THAT STANDS THERE WHOLE IS READ -/
theorem sc_all {ep : Nat} (he : ep < 256) (h1 : 1 ≤ ep) : ∀ (ps : List (List UInt8)) (k : Nat) (ns : List (List UInt8)), ps ≠ [] → (∀ p ∈ ps, p.length ≤ 46) → k + ps.length ≤ 256 → All ep ps k ns →
    ∀ (y : Nat) (ins : Bool) (batch : List UInt8) (l : List (List UInt8)) (a : Nat), y ≤ ep → (ins = true → y = ep) → sc ns k y ins batch l a = sc (ns.drop ps.length) (k + ps.length) ep false [] (l ++ [batch ++ ps.flatten]) (k + ps.length)
  | [], _, _, h, _, _, _, _, _, _, _, _, _, _ => absurd rfl h
  | p :: r, k, [], _, _, _, hr, _, _, _, _, _, _, _ => hr.elim
  | p :: r, k, n :: ns, _, h46, hk, hr, y, ins, batch, l, a, hy, hi => by
    obtain ⟨rfl, hr⟩ := hr
    rw [List.length_cons] at hk
    have hf := fr_fsec (last := r.isEmpty) he (show k < 256 by omega) (h46 p (by simp))
    have hc : ¬ (ep < 1 ∨ ep < y ∨ 255 < ep ∨ (ins = true ∧ ep ≠ y)) := by
      rintro (h | h | h | ⟨h, h2⟩)
      · omega
      · omega
      · omega
      · exact h2 (hi h).symm
    cases r with
    | nil =>
      rw [sc_last hf _ _ _ _ _ _ hc]
      simp
    | cons q r =>
      rw [sc_more hf _ _ _ _ _ _ hc, sc_all he h1 (q :: r) (k + 1) ns (by simp) (fun x hx => h46 x (by simp [hx])) (by simp at hk ⊢; omega) hr ep true _ _ _ (by omega) (fun _ => rfl)]
      simp only [List.length_cons, List.drop_succ_cons, List.flatten_cons, List.append_assoc]
      rw [show k + 1 + (r.length + 1) = k + (r.length + 1 + 1) by omega]
end Go.Proofs.Ytofbignggadkiaa.Lm
/- Layer 7 in plain words: which log stands on a device's sectors; what each call leaves of it, also behind a crash. -/
namespace Go.Proofs.Ytofbignggadkiaa.Lm

/-- on the sectors ks stands the log with the head h and the batches l, in its first a frames -/
structure Rp (fr : Nat) (ks : List (List UInt8)) (h : Hd) (l : List (List UInt8)) (a : Nat) : Prop where
  len : ks.length = fr + 2
  hq : ∀ i, i < 2 → Hq h.n (ks.getD i [])
  hh : rhead (ks.getD (h.n % 2) []) (h.n % 2) = some h ∨ h = ⟨0, 0, 0, []⟩
  ba : h.base ≤ h.epoch
  bd : h.body.length ≤ 32
  af : a ≤ fr
  fq : ∀ j, j < fr → Fq h.epoch j (ks.getD (2 + j) [])
  run : ∃ x, x ≤ h.epoch ∧ (∀ rest, sc ((ks.drop 2).take a ++ rest) 0 h.base false [] [] 0 = sc rest a x false [] l a) ∧ sc (ks.drop (2 + a)) a x false [] l a = (l, a)
/-- such a log in use -/
structure Lv (fr : Nat) (d : Sm.Dv) (L : Lg) : Prop where
  ok : Sm.Ok d
  ws : d.ws = []
  rp : Rp fr d.kept L.h L.l L.at_
  frm : L.frames = fr
  dn : L.down = false
  e1 : 1 ≤ L.h.epoch
  hi : ∀ j, j < fr → L.at_ ≤ j → Fq (L.h.epoch - 1) j (d.kept.getD (2 + j) [])
theorem range_drop (n : Nat) (ks : List (List UInt8)) (h : ks.length = n + 2) : ((List.range n).map fun k => ks.getD (2 + k) []) = ks.drop 2 := by
  apply List.ext_getElem
  · simp [h]
  · intro j h1 h2
    simp only [List.length_map, List.length_range] at h1
    simp only [List.getElem_map, List.getElem_range, List.getElem_drop]
    rw [List.getD, List.getElem?_eq_getElem (by omega)]; rfl
theorem drop_cons {ks : List (List UInt8)} {i : Nat} (h : i < ks.length) : ks.drop i = ks.getD i [] :: ks.drop (i + 1) := by
  rw [List.drop_eq_getElem_cons h, List.getD, List.getElem?_eq_getElem h]; rfl
theorem getD_drop (ks : List (List UInt8)) (i j : Nat) : (ks.drop i).getD j [] = ks.getD (i + j) [] := by
  rw [List.getD, List.getD, List.getElem?_drop]
theorem full_64 {b : List UInt8} (h : b.length = 64) : Sm.full b = b := by
  unfold Sm.full; rw [h]; simp
/-! ### one head -/
theorem check_is {d : Sm.Dv} {i n : Nat} (hi : i < d.kept.length) (hb : n ≤ 64) : Sm.check d (i : Int) n = if d.left = 0 then 60 else 0 := by
  unfold Sm.check
  rw [if_neg]
  rintro (h | h | h) <;> omega
theorem write_ok {d : Sm.Dv} {i : Nat} {b : List UInt8} (hi : i < d.kept.length) (hb : b.length = 64) : (d.left = 0 ∧ Sm.write d (i : Int) b = (d, 60)) ∨ (d.left ≠ 0 ∧ Sm.write d (i : Int) b = (Sm.count { d with ws := d.ws ++ [⟨i, b⟩] }, 0)) := by
  have hc := check_is (n := b.length) hi (by omega)
  unfold Sm.write
  rw [hc]
  by_cases h : d.left = 0
  · left; rw [if_pos h]; exact ⟨h, rfl⟩
  · right; rw [if_neg h, if_pos rfl, full_64 hb, Int.toNat_natCast]; exact ⟨h, rfl⟩
theorem flush_ok {d : Sm.Dv} (hk : 0 < d.kept.length) : (d.left = 0 ∧ Sm.flush d = (d, 60)) ∨ (d.left ≠ 0 ∧ Sm.flush d = (Sm.count { d with kept := Sm.apply d.kept d.ws, ws := [] }, 0)) := by
  have hc := check_is (d := d) (i := 0) (n := 0) hk (by omega)
  unfold Sm.flush
  rw [show ((0 : Nat) : Int) = 0 from rfl] at hc
  rw [hc]
  by_cases h : d.left = 0
  · left; rw [if_pos h]; exact ⟨h, rfl⟩
  · right; rw [if_neg h, if_pos rfl]; exact ⟨h, rfl⟩
theorem next_spec {h : Hd} {d : Sm.Dv} (ws : d.ws = []) (hk : 2 ≤ d.kept.length) (he : h.epoch ≤ 4294967295) (hb : h.body.length ≤ 32) :
    ((next h d).2 = 0 ∧ (next h d).1.kept = d.kept.set (h.n % 2) (hsec h) ∧ (next h d).1.ws = [] ∧ (d.left = -1 → (next h d).1.left = -1)) ∨
    ((next h d).2 = 60 ∧ d.left ≠ -1 ∧ (next h d).1.kept = d.kept ∧ ((next h d).1.ws = [] ∨ (next h d).1.ws = [⟨h.n % 2, hsec h⟩])) := by
  unfold next
  rw [if_neg (by omega)]
  rcases write_ok (d := d) (i := h.n % 2) (b := hsec h) (by omega) (hsec_length hb) with ⟨h0, hw⟩ | ⟨h0, hw⟩
  · rw [hw]
    right
    exact ⟨rfl, by omega, rfl, .inl ws⟩
  · rw [hw]
    simp only [ne_eq, not_true_eq_false, if_false]
    rcases flush_ok (d := Sm.count { d with ws := d.ws ++ [⟨h.n % 2, hsec h⟩] }) (by show 0 < d.kept.length; omega) with ⟨h1, hf⟩ | ⟨h1, hf⟩
    · rw [hf]
      right
      refine ⟨rfl, fun e => ?_, rfl, .inr (by show d.ws ++ _ = _; rw [ws]; rfl)⟩
      have h1 : (if 0 < d.left then d.left - 1 else d.left) = 0 := h1
      rw [e] at h1
      exact absurd h1 (by decide)
    · rw [hf]
      left
      refine ⟨rfl, ?_, rfl, fun e => ?_⟩
      · show Sm.apply d.kept (d.ws ++ [_]) = _
        rw [ws]; rfl
      · show (if 0 < (if 0 < d.left then d.left - 1 else d.left) then _ else (if 0 < d.left then d.left - 1 else d.left)) = -1
        rw [e]; rfl
theorem crash_ws (d : Sm.Dv) (ts : List Int) : (Sm.crash d ts).ws = [] ∧ (Sm.crash d ts).left = -1 := ⟨rfl, rfl⟩
/-! ### heads on the sectors -/
theorem rp_hd {fr : Nat} {d : Sm.Dv} {h : Hd} {l : List (List UInt8)} {a : Nat} (r : Rp fr d.kept h l a) (ws : d.ws = []) : hd d = h := by
  have hc : ∀ i, cur d i = d.kept.getD i [] := fun i => by unfold cur; rw [ws]; rfl
  unfold hd
  rw [hc, hc]
  have h0 := fun x => hq_n (x := x) (i := 0) (r.hq 0 (by omega))
  have h1 := fun x => hq_n (x := x) (i := 1) (r.hq 1 (by omega))
  rcases r.hh with hh | rfl
  · have hn := rhead_some hh
    rcases Nat.mod_two_eq_zero_or_one h.n with e | e
    · rw [e] at hh
      rw [hh]
      cases h2 : rhead (d.kept.getD 1 []) 1 with
      | none => rfl
      | some y =>
        have := h1 y h2
        show (if h.n < y.n then y else h) = h
        rw [if_neg (by omega)]
    · rw [e] at hh
      rw [hh]
      cases h2 : rhead (d.kept.getD 0 []) 0 with
      | none => rfl
      | some y =>
        have := h0 y h2
        show (if y.n < h.n then h else y) = h
        rw [if_pos (by omega)]
  · cases h2 : rhead (d.kept.getD 0 []) 0 with
    | some y => have := h0 y h2; exfalso; simp only at this; omega
    | none =>
      cases h3 : rhead (d.kept.getD 1 []) 1 with
      | some y => have := h1 y h3; exfalso; simp only at this; omega
      | none => rfl
theorem rp_bats {fr : Nat} {d : Sm.Dv} {h : Hd} {l : List (List UInt8)} {a : Nat} (r : Rp fr d.kept h l a) (ws : d.ws = []) (he : h.epoch < 256) : bats d fr = (l, a) := by
  have hc : (fun k => cur d (2 + k)) = fun k => d.kept.getD (2 + k) [] := funext fun k => by unfold cur; rw [ws]; rfl
  unfold bats
  rw [rp_hd r ws, hc, range_drop fr _ r.len]
  have hs : scan h.epoch (d.kept.drop 2) 0 h.base false [] [] 0 = sc (d.kept.drop 2) 0 h.base false [] [] 0 := by
    refine scan_hep _ _ _ _ _ _ _ _ _ fun j hj => ?_
    rw [List.length_drop, r.len] at hj
    rw [getD_drop, Nat.zero_add]
    exact (r.fq j (by omega)).lo (by omega)
  rw [hs]
  obtain ⟨x, _, h1, h2⟩ := r.run
  have := h1 ((d.kept.drop 2).drop a)
  rw [List.take_append_drop, List.drop_drop] at this
  rw [this, h2]
/-- the frames are as they were, the head's sector holds the next head -/
theorem rp_set {fr : Nat} {ks : List (List UInt8)} {h : Hd} {l : List (List UInt8)} {a : Nat} {h' : Hd} {l' : List (List UInt8)} {a' : Nat} (r : Rp fr ks h l a) (hn : h'.n = h.n + 1) (hn2 : h'.n < 256) (he : h'.epoch = h.epoch + 1) (he2 : h'.epoch < 256) (hb : h'.base ≤ h'.epoch) (hbd : h'.body.length ≤ 32)
    (hc : (h'.base = h.base ∧ l' = l ∧ a' = a) ∨ (h'.base = h'.epoch ∧ l' = [] ∧ a' = 0)) : Rp fr (ks.set (h'.n % 2) (hsec h')) h' l' a' := by
  have hlt : h'.n % 2 < ks.length := by have := r.len; omega
  have hd2 : ∀ i, (ks.set (h'.n % 2) (hsec h')).drop (2 + i) = ks.drop (2 + i) := fun i => List.drop_set_of_lt (by omega)
  have hg : ∀ j, (ks.set (h'.n % 2) (hsec h')).getD (2 + j) [] = ks.getD (2 + j) [] := fun j => by rw [Sm.getD_set _ _ _ _ hlt, if_neg (by omega)]
  refine ⟨by rw [List.length_set]; exact r.len, fun i hi => ?_, .inl ?_, hb, hbd, ?_, fun j hj => ?_, ?_⟩
  · rw [Sm.getD_set _ _ _ _ hlt]
    split
    · exact hq_new hn2 he2 (by omega) hbd
    · exact (r.hq i hi).le (by omega)
  · rw [Sm.getD_set _ _ _ _ hlt, if_pos rfl]
    exact rhead_hsec (by omega) hn2 he2 hb hbd
  · rcases hc with ⟨_, _, rfl⟩ | ⟨_, _, rfl⟩
    · exact r.af
    · exact Nat.zero_le _
  · rw [hg]; exact (r.fq j hj).le (by omega)
  · have h0 : (ks.set (h'.n % 2) (hsec h')).drop 2 = ks.drop 2 := hd2 0
    rcases hc with ⟨e, rfl, rfl⟩ | ⟨e, rfl, rfl⟩
    · obtain ⟨x, h1, h2, h3⟩ := r.run
      exact ⟨x, by omega, by rw [h0, e]; exact h2, by rw [hd2]; exact h3⟩
    · refine ⟨h'.base, by omega, fun rest => ?_, ?_⟩
      · rw [List.take_zero, List.nil_append]
      · rw [hd2]
        refine sc_low _ (fun h0 => ?_) _ _ _ _
        rw [List.length_drop, r.len] at h0
        rw [getD_drop]
        exact (r.fq 0 (by omega)).lo (by omega)
/-- the other head's sector holds something that doesn't count -/
theorem rp_bad {fr : Nat} {ks : List (List UInt8)} {h : Hd} {l : List (List UInt8)} {a : Nat} {s : List UInt8} {i : Nat} (r : Rp fr ks h l a) (hi : i = (h.n + 1) % 2) (hs : Hq h.n s) : Rp fr (ks.set i s) h l a := by
  have hlt : i < ks.length := by have := r.len; omega
  have hd2 : ∀ j, (ks.set i s).drop (2 + j) = ks.drop (2 + j) := fun j => List.drop_set_of_lt (by omega)
  refine ⟨by rw [List.length_set]; exact r.len, fun j hj => ?_, ?_, r.ba, r.bd, r.af, fun j hj => ?_, ?_⟩
  · rw [Sm.getD_set _ _ _ _ hlt]
    split
    · exact hs
    · exact r.hq j hj
  · rw [Sm.getD_set _ _ _ _ hlt, if_neg (by omega)]; exact r.hh
  · rw [Sm.getD_set _ _ _ _ hlt, if_neg (by omega)]; exact r.fq j hj
  · obtain ⟨x, h1, h2, h3⟩ := r.run
    have h0 : (ks.set i s).drop 2 = ks.drop 2 := hd2 0
    exact ⟨x, h1, by rw [h0]; exact h2, by rw [hd2]; exact h3⟩
theorem set_self (ks : List (List UInt8)) (i : Nat) (h : i < ks.length) : ks.set i (ks.getD i []) = ks := by
  apply List.ext_getElem
  · simp
  · intro j h1 h2
    rw [List.getElem_set]
    split
    · rename_i e; subst e; rw [List.getD, List.getElem?_eq_getElem h]; rfl
    · rfl
/-- A HEAD THAT WAS BEING WRITTEN WHEN THE CRASH CAME: it is there, or nothing has changed -/
theorem next_crash {fr : Nat} {d : Sm.Dv} {h : Hd} {l : List (List UInt8)} {a : Nat} {h' : Hd} {l' : List (List UInt8)} {a' : Nat} (r : Rp fr d.kept h l a) (ws : d.ws = []) (hn : h'.n = h.n + 1) (hn2 : h'.n < 256) (he : h'.epoch = h.epoch + 1) (he2 : h'.epoch < 256) (hb : h'.base ≤ h'.epoch) (hbd : h'.body.length ≤ 32)
    (hc : (h'.base = h.base ∧ l' = l ∧ a' = a) ∨ (h'.base = h'.epoch ∧ l' = [] ∧ a' = 0)) (ts : List Int) :
    (Rp fr (Sm.crash (next h' d).1 ts).kept h l a ∧ (next h' d).2 ≠ 0) ∨ Rp fr (Sm.crash (next h' d).1 ts).kept h' l' a' := by
  have hdone := rp_set r hn hn2 he he2 hb hbd hc
  have hlt : h'.n % 2 < d.kept.length := by have := r.len; omega
  rcases next_spec (h := h') ws (by have := r.len; omega) (by omega) hbd with ⟨_, h1, h2, _⟩ | ⟨h0, _, h1, h2⟩
  · right
    show Rp fr (Sm.torn (next h' d).1.kept (next h' d).1.ws ts) h' l' a'
    rw [h1, h2]; exact hdone
  · show (Rp fr (Sm.torn (next h' d).1.kept (next h' d).1.ws ts) h l a ∧ _) ∨ Rp fr (Sm.torn (next h' d).1.kept (next h' d).1.ws ts) h' l' a'
    rw [h1]
    rcases h2 with h2 | h2
    · rw [h2]; exact .inl ⟨r, by rw [h0]; decide⟩
    · rw [h2]
      show (Rp fr (d.kept.set (h'.n % 2) ((hsec h').take (Sm.tear ts.head?) ++ (d.kept.getD (h'.n % 2) []).drop (Sm.tear ts.head?))) h l a ∧ _) ∨ Rp fr (d.kept.set (h'.n % 2) ((hsec h').take (Sm.tear ts.head?) ++ (d.kept.getD (h'.n % 2) []).drop (Sm.tear ts.head?))) h' l' a'
      rcases head_torn (r.hq (h'.n % 2) (by omega)) hn hn2 he2 (by omega) hbd (Sm.tear_le ts.head?) (h'.n % 2) with e | e | ⟨e, _⟩
      · rw [e, set_self _ _ hlt]; exact .inl ⟨r, by rw [h0]; decide⟩
      · rw [e]; exact .inr hdone
      · exact .inl ⟨rp_bad r (by omega) e, by rw [h0]; decide⟩
end Go.Proofs.Ytofbignggadkiaa.Lm
/- Layer 7 in plain words: what Append, Reset and Open leave of a log, also behind a crash. -/
namespace Go.Proofs.Ytofbignggadkiaa.Lm

/-- the writes of a batch's frames -/
def fws (ep : Nat) : List (List UInt8) → Nat → List Sm.Wr
  | [], _ => []
  | p :: r, k => ⟨2 + k, fsec ep k r.isEmpty p⟩ :: fws ep r (k + 1)
theorem fws_len (ep : Nat) : ∀ (ps : List (List UInt8)) (k : Nat), (fws ep ps k).length = ps.length
  | [], _ => rfl
  | p :: r, k => by rw [fws, List.length_cons, List.length_cons, fws_len ep r]
theorem put_spec (ep : Nat) : ∀ (ps : List (List UInt8)) (k : Nat) (d : Sm.Dv), (∀ p ∈ ps, p.length ≤ 46) → 2 + k + ps.length ≤ d.kept.length →
    ∃ m, m ≤ ps.length ∧ (put ep ps k d).1.kept = d.kept ∧ (put ep ps k d).1.ws = d.ws ++ (fws ep ps k).take m ∧ (((put ep ps k d).2 = 0 ∧ m = ps.length) ∨ ((put ep ps k d).2 = 60 ∧ d.left ≠ -1)) ∧ (d.left = -1 → (put ep ps k d).1.left = -1)
  | [], k, d, _, _ => ⟨0, Nat.le_refl _, rfl, by simp [fws, put], .inl ⟨rfl, rfl⟩, fun h => h⟩
  | p :: r, k, d, h46, hk => by
    rw [List.length_cons] at hk
    rcases write_ok (d := d) (i := 2 + k) (b := fsec ep k r.isEmpty p) (by omega) (fsec_length (h46 p (by simp))) with ⟨h0, hw⟩ | ⟨h0, hw⟩
    · refine ⟨0, Nat.zero_le _, ?_⟩
      unfold put
      rw [hw]
      refine ⟨rfl, by simp, .inr ⟨rfl, by omega⟩, fun h => by omega⟩
    · obtain ⟨m, h1, h2, h3, h4, h5⟩ := put_spec ep r (k + 1) (Sm.count { d with ws := d.ws ++ [⟨2 + k, fsec ep k r.isEmpty p⟩] }) (fun x hx => h46 x (by simp [hx])) (by show 2 + (k + 1) + r.length ≤ d.kept.length; omega)
      refine ⟨m + 1, by rw [List.length_cons]; omega, ?_⟩
      unfold put
      rw [hw]
      simp only [ne_eq, not_true_eq_false, if_false]
      refine ⟨h2, ?_, ?_, fun e => h5 ?_⟩
      · rw [h3, fws, List.take_succ_cons]
        show (d.ws ++ [_]) ++ _ = _
        rw [List.append_assoc]; rfl
      · rcases h4 with ⟨h4, h6⟩ | ⟨h4, h6⟩
        · exact .inl ⟨h4, by rw [List.length_cons]; omega⟩
        · refine .inr ⟨h4, fun e => h6 ?_⟩
          show (if 0 < d.left then d.left - 1 else d.left) = -1
          rw [e]; rfl
      · show (if 0 < d.left then d.left - 1 else d.left) = -1
        rw [e]; rfl
theorem rel_refl (ep : Nat) : ∀ (ps : List (List UInt8)) (k : Nat) (os : List (List UInt8)), ps.length ≤ os.length → Rel ep ps k os os
  | [], _, _, _ => rfl
  | p :: r, k, [], h => by simp at h
  | p :: r, k, o :: os, h => ⟨.inl rfl, rel_refl ep r (k + 1) os (by simpa using h)⟩
/-- frames that were being written when the crash came -/
theorem torn_fws {fr E ep : Nat} (hE : E < ep) (he : ep < 256) (hf : fr ≤ 200) : ∀ (ps : List (List UInt8)) (k m : Nat) (ts : List Int) (ks : List (List UInt8)), (∀ p ∈ ps, p.length ≤ 46) → ks.length = fr + 2 → k + ps.length ≤ fr → (∀ j, j < fr → k ≤ j → Fq E j (ks.getD (2 + j) [])) →
    (Sm.torn ks ((fws ep ps k).take m) ts).length = fr + 2 ∧ (∀ j, j < 2 + k → (Sm.torn ks ((fws ep ps k).take m) ts).getD j [] = ks.getD j []) ∧ Rel ep ps k (ks.drop (2 + k)) ((Sm.torn ks ((fws ep ps k).take m) ts).drop (2 + k)) ∧ ∀ j, j < fr → k ≤ j → Fq ep j ((Sm.torn ks ((fws ep ps k).take m) ts).getD (2 + j) [])
  | [], k, m, ts, ks, _, hl, hk, hq => by
    have e : Sm.torn ks ((fws ep [] k).take m) ts = ks := by simp [fws, Sm.torn]
    rw [e]
    exact ⟨hl, fun _ _ => rfl, rfl, fun j hj hkj => (hq j hj hkj).le (by omega)⟩
  | p :: r, k, 0, ts, ks, h46, hl, hk, hq => by
    have e : Sm.torn ks ((fws ep (p :: r) k).take 0) ts = ks := by simp [Sm.torn]
    rw [e]
    exact ⟨hl, fun _ _ => rfl, rel_refl _ _ _ _ (by rw [List.length_drop]; omega), fun j hj hkj => (hq j hj hkj).le (by omega)⟩
  | p :: r, k, m + 1, ts, ks, h46, hl, hk, hq => by
    rw [List.length_cons] at hk
    obtain ⟨ho1, ho2⟩ := frame_torn (last := r.isEmpty) (hq k (by omega) (Nat.le_refl _)) hE he (by omega) (h46 p (by simp)) (Sm.tear_le ts.head?)
    obtain ⟨s, hs⟩ : ∃ s, s = (fsec ep k r.isEmpty p).take (Sm.tear ts.head?) ++ (ks.getD (2 + k) []).drop (Sm.tear ts.head?) := ⟨_, rfl⟩
    rw [← hs] at ho1 ho2
    have e : Sm.torn ks ((fws ep (p :: r) k).take (m + 1)) ts = Sm.torn (ks.set (2 + k) s) ((fws ep r (k + 1)).take m) ts.tail := by
      rw [hs]; rfl
    rw [e]
    have hlt : 2 + k < ks.length := by omega
    obtain ⟨h1, h2, h3, h4⟩ := torn_fws hE he hf r (k + 1) m ts.tail (ks.set (2 + k) s) (fun x hx => h46 x (by simp [hx])) (by rw [List.length_set]; exact hl) (by omega) (fun j hj hkj => by rw [Sm.getD_set _ _ _ _ hlt, if_neg (by omega)]; exact hq j hj (by omega))
    have hk2 := h2 (2 + k) (by omega)
    rw [Sm.getD_set _ _ _ _ hlt, if_pos rfl] at hk2
    refine ⟨h1, fun j hj => ?_, ?_, fun j hj hkj => ?_⟩
    · rw [h2 j (by omega), Sm.getD_set _ _ _ _ hlt, if_neg (by omega)]
    · rw [drop_cons hlt, drop_cons (ks := Sm.torn _ _ _) (by rw [h1]; omega), hk2]
      refine ⟨ho2, ?_⟩
      rw [List.drop_set_of_lt (show 2 + k < 2 + (k + 1) by omega)] at h3
      exact h3
    · by_cases e : j = k
      · subst e; rw [hk2]; exact ho1
      · exact h4 j hj (by omega)
/-- frames that were written and flushed -/
theorem apply_fws (ep : Nat) : ∀ (ps : List (List UInt8)) (k : Nat) (ks : List (List UInt8)), 2 + k + ps.length ≤ ks.length →
    (Sm.apply ks (fws ep ps k)).length = ks.length ∧ (∀ j, j < 2 + k ∨ 2 + k + ps.length ≤ j → (Sm.apply ks (fws ep ps k)).getD j [] = ks.getD j []) ∧ All ep ps k ((Sm.apply ks (fws ep ps k)).drop (2 + k))
  | [], k, ks, _ => ⟨rfl, fun _ _ => rfl, trivial⟩
  | p :: r, k, ks, hk => by
    rw [List.length_cons] at hk
    have hlt : 2 + k < ks.length := by omega
    obtain ⟨h1, h2, h3⟩ := apply_fws ep r (k + 1) (ks.set (2 + k) (fsec ep k r.isEmpty p)) (by rw [List.length_set]; omega)
    have e : Sm.apply ks (fws ep (p :: r) k) = Sm.apply (ks.set (2 + k) (fsec ep k r.isEmpty p)) (fws ep r (k + 1)) := rfl
    rw [e]
    rw [List.length_set] at h1
    refine ⟨h1, fun j hj => ?_, ?_⟩
    · rw [List.length_cons] at hj
      rw [h2 j (by omega), Sm.getD_set _ _ _ _ hlt, if_neg (by omega)]
    · rw [drop_cons (ks := Sm.apply _ _) (by rw [h1]; omega), h2 (2 + k) (by omega), Sm.getD_set _ _ _ _ hlt, if_pos rfl]
      exact ⟨rfl, h3⟩
theorem fq_all {ep : Nat} (he : ep < 256) : ∀ (ps : List (List UInt8)) (k : Nat) (ns : List (List UInt8)), (∀ p ∈ ps, p.length ≤ 46) → k + ps.length ≤ 256 → All ep ps k ns → ∀ j, j < ps.length → Fq ep (k + j) (ns.getD j [])
  | [], _, _, _, _, _, j, hj => by simp at hj
  | p :: r, k, [], _, _, h, _, _ => h.elim
  | p :: r, k, n :: ns, h46, hk, h, j, hj => by
    obtain ⟨rfl, h⟩ := h
    rw [List.length_cons] at hk hj
    cases j with
    | zero => exact fq_new he (by omega) (h46 p (by simp))
    | succ j =>
      have := fq_all he r (k + 1) ns (fun x hx => h46 x (by simp [hx])) (by omega) h j (by omega)
      rw [show k + 1 + j = k + (j + 1) by omega] at this
      simpa using this
/-- the sectors' first frames with a batch behind them -/
theorem run_more {fr ep a n : Nat} {ks ks' : List (List UInt8)} {l : List (List UInt8)} {x base : Nat} {ps : List (List UInt8)} (he : ep < 256) (h1 : 1 ≤ ep) (hf : fr ≤ 200) (hl : ks'.length = fr + 2) (hl0 : ks.length = fr + 2) (hn : n = ps.length) (hps : ps ≠ []) (h46 : ∀ p ∈ ps, p.length ≤ 46) (ha : a + n ≤ fr)
    (hsame : ∀ j, j < 2 + a → ks'.getD j [] = ks.getD j []) (hall : All ep ps a (ks'.drop (2 + a))) (hx : x ≤ ep)
    (hrun : ∀ rest, sc ((ks.drop 2).take a ++ rest) 0 base false [] [] 0 = sc rest a x false [] l a) :
    ∀ rest, sc ((ks'.drop 2).take (a + n) ++ rest) 0 base false [] [] 0 = sc rest (a + n) ep false [] (l ++ [ps.flatten]) (a + n) := by
  intro rest
  have e1 : (ks'.drop 2).take a = (ks.drop 2).take a := by
    apply List.ext_getElem
    · simp [hl, hl0]
    · intro j h2 h3
      simp only [List.length_take, List.length_drop] at h2 h3
      simp only [List.getElem_take, List.getElem_drop]
      have := hsame (2 + j) (by omega)
      rw [List.getD, List.getD, List.getElem?_eq_getElem (by omega), List.getElem?_eq_getElem (by omega)] at this
      simpa using this
  have e2 : (ks'.drop 2).take (a + n) = (ks.drop 2).take a ++ (ks'.drop (2 + a)).take n := by
    rw [List.take_add, e1, List.drop_drop]
  rw [e2, List.append_assoc, hrun]
  have hall2 : All ep ps a ((ks'.drop (2 + a)).take n ++ rest) := by
    clear hrun e1 e2 hsame
    subst hn
    have : ∀ (ps : List (List UInt8)) (k : Nat) (ns : List (List UInt8)), All ep ps k ns → All ep ps k (ns.take ps.length ++ rest) := by
      intro ps
      induction ps with
      | nil => intro _ _ _; trivial
      | cons p r ih =>
        intro k ns h
        cases ns with
        | nil => exact h.elim
        | cons m ns => exact ⟨h.1, ih (k + 1) ns h.2⟩
    exact this ps a _ hall
  rw [sc_all he h1 ps a _ hps h46 (by omega) hall2 x false [] l a hx (fun h => by cases h), List.nil_append]
  have hlen : ((ks'.drop (2 + a)).take n).length = ps.length := by rw [List.length_take, List.length_drop]; omega
  rw [← hlen, List.drop_left, hlen, hn]
theorem low_rest {fr e a x : Nat} {ks : List (List UInt8)} {l : List (List UInt8)} (hl : ks.length = fr + 2) (hx : e ≤ x) (hq : ∀ j, j < fr → a ≤ j → Lo e j (ks.getD (2 + j) [])) : sc (ks.drop (2 + a)) a x false [] l a = (l, a) := by
  refine sc_low _ (fun h0 => ?_) _ _ _ _
  rw [List.length_drop, hl] at h0
  rw [getD_drop]
  intro ep last b h
  have := hq a (by omega) (Nat.le_refl _) ep last b h
  omega
/-- AN APPEND, whatever became of it: the cases -/
theorem app_cases {fr : Nat} {d : Sm.Dv} {L : Lg} (v : Lv fr d L) (he : L.h.epoch < 256) (hf : fr ≤ 200) (b : List UInt8) :
    (∃ c, append L d b = (L, d, c) ∧ ((c = 2 ∧ 65536 < b.length) ∨ (c = 70 ∧ b.length ≤ 65536 ∧ fr < L.at_ + (parts b).length))) ∨
    (b.length ≤ 65536 ∧ L.at_ + (parts b).length ≤ fr ∧ (((append L d b).2.2 = 0 ∧ (append L d b).1 = { L with at_ := L.at_ + (parts b).length, l := L.l ++ [b] } ∧ Lv fr (append L d b).2.1 (append L d b).1 ∧ (d.left = -1 → (append L d b).2.1.left = -1)) ∨
      ((append L d b).2.2 = 60 ∧ (append L d b).1.down = true ∧ d.left ≠ -1 ∧ ∀ ts, Rp fr (Sm.crash (append L d b).2.1 ts).kept L.h L.l L.at_ ∨ Rp fr (Sm.crash (append L d b).2.1 ts).kept L.h (L.l ++ [b]) (L.at_ + (parts b).length)))) := by
  have r := v.rp
  unfold append
  rw [v.dn, v.frm]
  simp only [Bool.false_eq_true, if_false]
  by_cases h1 : 65536 < b.length
  · rw [if_pos h1]; exact .inl ⟨2, rfl, .inl ⟨rfl, h1⟩⟩
  rw [if_neg h1]
  by_cases h2 : fr < L.at_ + (parts b).length
  · rw [if_pos h2]; exact .inl ⟨70, rfl, .inr ⟨rfl, by omega, h2⟩⟩
  rw [if_neg h2]
  right
  refine ⟨by omega, by omega, ?_⟩
  have hlen := r.len
  have h46 : ∀ p ∈ parts b, p.length ≤ 46 := fun p hp => parts_46 hp
  have hne := parts_ne b
  have hfl := parts_flat b
  obtain ⟨ps, hps⟩ : ∃ ps, ps = parts b := ⟨_, rfl⟩
  rw [← hps] at h46 hne hfl h2 ⊢
  obtain ⟨x, hx1, hx2, hx3⟩ := r.run
  obtain ⟨m, g1, g2, g3, g4, g5⟩ := put_spec L.h.epoch ps L.at_ d h46 (by omega)
  rw [v.ws, List.nil_append] at g3
  have e1 := v.e1
  -- the frames written, not flushed
  have htorn : ∀ d' : Sm.Dv, d'.kept = d.kept → d'.ws = (fws L.h.epoch ps L.at_).take m → ∀ ts, Rp fr (Sm.crash d' ts).kept L.h L.l L.at_ ∨ Rp fr (Sm.crash d' ts).kept L.h (L.l ++ [b]) (L.at_ + ps.length) := by
    intro d' hk hw ts
    show Rp fr (Sm.torn d'.kept d'.ws ts) L.h L.l L.at_ ∨ Rp fr (Sm.torn d'.kept d'.ws ts) L.h (L.l ++ [b]) (L.at_ + ps.length)
    rw [hk, hw]
    obtain ⟨q1, q2, q3, q4⟩ := torn_fws (E := L.h.epoch - 1) (ep := L.h.epoch) (by omega) he hf ps L.at_ m ts d.kept h46 hlen (by omega) v.hi
    obtain ⟨ks', hks⟩ : ∃ ks', ks' = Sm.torn d.kept ((fws L.h.epoch ps L.at_).take m) ts := ⟨_, rfl⟩
    rw [← hks] at q1 q2 q3 q4 ⊢
    have hlo : ∀ j, j < (d.kept.drop (2 + L.at_)).length → Lo L.h.epoch (L.at_ + j) ((d.kept.drop (2 + L.at_)).getD j []) := fun j hj => by
      rw [List.length_drop, hlen] at hj
      rw [getD_drop, Nat.add_assoc]
      exact (v.hi (L.at_ + j) (by omega) (by omega)).lo (by omega)
    have hq : ∀ i, i < 2 → Hq L.h.n (ks'.getD i []) := fun i hi => by rw [q2 i (by omega)]; exact r.hq i hi
    have hh : rhead (ks'.getD (L.h.n % 2) []) (L.h.n % 2) = some L.h ∨ L.h = ⟨0, 0, 0, []⟩ := by rw [q2 _ (by omega)]; exact r.hh
    have hfq : ∀ j, j < fr → Fq L.h.epoch j (ks'.getD (2 + j) []) := fun j hj => by
      by_cases hja : L.at_ ≤ j
      · exact q4 j hj hja
      · rw [q2 (2 + j) (by omega)]; exact r.fq j hj
    have htake : (ks'.drop 2).take L.at_ = (d.kept.drop 2).take L.at_ := by
      apply List.ext_getElem
      · simp [q1, hlen]
      · intro j h2 h3
        simp only [List.length_take, List.length_drop] at h2 h3
        simp only [List.getElem_take, List.getElem_drop]
        have := q2 (2 + j) (by omega)
        rw [List.getD, List.getD, List.getElem?_eq_getElem (by omega), List.getElem?_eq_getElem (by omega)] at this
        simpa using this
    by_cases hall : All L.h.epoch ps L.at_ (ks'.drop (2 + L.at_))
    · right
      refine ⟨q1, hq, hh, r.ba, r.bd, by omega, hfq, L.h.epoch, Nat.le_refl _, ?_, ?_⟩
      · have := run_more he e1 hf q1 hlen rfl hne h46 (by omega) q2 hall hx1 hx2
        rw [hfl] at this; exact this
      · refine low_rest q1 (Nat.le_refl _) fun j hj hja => ?_
        have hrel : ∀ (ps : List (List UInt8)) (k : Nat) (os ns : List (List UInt8)), Rel L.h.epoch ps k os ns → ∀ i, ps.length ≤ i → ns.getD i [] = os.getD i [] := by
          intro ps
          induction ps with
          | nil => intro k os ns h i _; rw [show os = ns from h]
          | cons p r ih =>
            intro k os ns h i hi
            match os, ns, h with
            | [], _, h => exact h.elim
            | o :: os, [], h => exact h.elim
            | o :: os, n :: ns, h =>
              obtain ⟨i', rfl⟩ : ∃ i', i = i' + 1 := ⟨i - 1, by simp at hi; omega⟩
              have := ih (k + 1) os ns h.2 i' (by simpa using hi)
              simpa using this
        have := hrel ps L.at_ _ _ q3 (j - L.at_) (by omega)
        rw [getD_drop, getD_drop, show 2 + L.at_ + (j - L.at_) = 2 + j by omega] at this
        rw [this]
        exact (v.hi j hj (by omega)).lo (by omega)
    · left
      refine ⟨q1, hq, hh, r.ba, r.bd, r.af, hfq, x, hx1, by rw [htake]; exact hx2, ?_⟩
      exact sc_torn he e1 ps L.at_ _ _ h46 (by omega) q3 hlo x false [] L.l L.at_ hx1 (fun h => by cases h) (.inr hall) hx3
  unfold putF
  rcases g4 with ⟨g4, gm⟩ | ⟨g4, gl⟩
  · rw [g4]
    simp only [ne_eq, not_true_eq_false, if_false]
    rcases flush_ok (d := (put L.h.epoch ps L.at_ d).1) (by rw [g2]; omega) with ⟨f1, f2⟩ | ⟨f1, f2⟩
    · rw [f2]
      simp only [show ¬ ((60 : Int) = 0) by decide, not_false_eq_true, if_true]
      right
      exact ⟨trivial, trivial, fun h => by rw [g5 h] at f1; exact absurd f1 (by decide), htorn _ g2 g3⟩
    · rw [f2]
      left
      simp only [not_true_eq_false, if_false]
      refine ⟨trivial, trivial, ?_, fun e => ?_⟩
      · rw [gm, List.take_of_length_le (by rw [fws_len]; exact Nat.le_refl _)] at g3
        obtain ⟨q1, q2, q3⟩ := apply_fws L.h.epoch ps L.at_ d.kept (by omega)
        have hkk : (Sm.count { (put L.h.epoch ps L.at_ d).1 with kept := Sm.apply (put L.h.epoch ps L.at_ d).1.kept (put L.h.epoch ps L.at_ d).1.ws, ws := [] }).kept = Sm.apply d.kept (fws L.h.epoch ps L.at_) := by
          show Sm.apply (put L.h.epoch ps L.at_ d).1.kept (put L.h.epoch ps L.at_ d).1.ws = _
          rw [g2, g3]
        have hok : Sm.Ok (Sm.count { (put L.h.epoch ps L.at_ d).1 with kept := Sm.apply (put L.h.epoch ps L.at_ d).1.kept (put L.h.epoch ps L.at_ d).1.ws, ws := [] }) := by
          have hl0 : Sm.Ok (put L.h.epoch ps L.at_ d).1 := by
            have : ∀ (ps : List (List UInt8)) (k : Nat) (d : Sm.Dv), Sm.Ok d → Sm.Ok (put L.h.epoch ps k d).1 := by
              intro ps
              induction ps with
              | nil => intro _ _ h; exact h
              | cons p r ih =>
                intro k d h
                unfold put
                split
                · exact Sm.ok_write h _ _
                · exact ih _ _ (Sm.ok_write h _ _)
            exact this ps _ d v.ok
          have := Sm.ok_flush hl0
          rw [f2] at this
          exact this
        refine ⟨hok, rfl, ?_, rfl, rfl, e1, ?_⟩
        · rw [hkk]
          refine ⟨by rw [q1]; exact hlen, fun i hi => by rw [q2 i (.inl (by omega))]; exact r.hq i hi, by show rhead ((Sm.apply _ _).getD (L.h.n % 2) []) (L.h.n % 2) = some L.h ∨ _; rw [q2 _ (.inl (by omega))]; exact r.hh, r.ba, r.bd, by show L.at_ + ps.length ≤ fr; omega, fun j hj => ?_, L.h.epoch, Nat.le_refl _, ?_, ?_⟩
          · by_cases hja : L.at_ ≤ j
            · by_cases hjb : j < L.at_ + ps.length
              · have := fq_all he ps L.at_ _ h46 (by omega) q3 (j - L.at_) (by omega)
                rw [getD_drop, show 2 + L.at_ + (j - L.at_) = 2 + j by omega, show L.at_ + (j - L.at_) = j by omega] at this
                exact this
              · rw [q2 (2 + j) (.inr (by omega))]; exact r.fq j hj
            · rw [q2 (2 + j) (.inl (by omega))]; exact r.fq j hj
          · have := run_more he e1 hf (by rw [q1]; exact hlen) hlen rfl hne h46 (by omega) (fun j hj => q2 j (.inl hj)) q3 hx1 hx2
            rw [hfl] at this; exact this
          · refine low_rest (e := L.h.epoch) (by rw [q1]; exact hlen) (Nat.le_refl _) fun j hj hja => ?_
            have hja : L.at_ + ps.length ≤ j := hja
            rw [q2 (2 + j) (.inr (by omega))]
            exact (v.hi j hj (by omega)).lo (by omega)
        · intro j hj hja
          have hja : L.at_ + ps.length ≤ j := hja
          rw [hkk, q2 (2 + j) (.inr (by omega))]
          exact v.hi j hj (by omega)
      · have := g5 e
        show (if 0 < (put L.h.epoch ps L.at_ d).1.left then _ else (put L.h.epoch ps L.at_ d).1.left) = -1
        rw [this]; rfl
  · rw [g4]
    simp only [show ¬ ((60 : Int) = 0) by decide, ne_eq, not_false_eq_true, if_true, g4]
    right
    exact ⟨trivial, trivial, gl, htorn _ g2 g3⟩
end Go.Proofs.Ytofbignggadkiaa.Lm
/- Layer 7 in plain words: Reset and Open, and what a crash leaves of them. -/
namespace Go.Proofs.Ytofbignggadkiaa.Lm

theorem next_ok {h : Hd} {d : Sm.Dv} (ho : Sm.Ok d) : Sm.Ok (next h d).1 := by
  unfold next
  split
  · exact ho
  split
  · exact Sm.ok_write ho _ _
  · exact Sm.ok_flush (Sm.ok_write ho _ _)
/-- A RESET, whatever became of it: the cases -/
theorem reset_cases {fr : Nat} {d : Sm.Dv} {L : Lg} (v : Lv fr d L) (he : L.h.epoch + 1 < 256) (hn : L.h.n + 1 < 256) (b : List UInt8) :
    (32 < b.length ∧ reset L d b = (L, d, 2)) ∨
    (b.length ≤ 32 ∧ (((reset L d b).2.2 = 0 ∧ (reset L d b).1 = { L with h := fresh L b, l := [], at_ := 0 } ∧ Lv fr (reset L d b).2.1 (reset L d b).1 ∧ (d.left = -1 → (reset L d b).2.1.left = -1)) ∨
      ((reset L d b).2.2 = 60 ∧ d.left ≠ -1 ∧ ∀ ts, Rp fr (Sm.crash (reset L d b).2.1 ts).kept L.h L.l L.at_ ∨ Rp fr (Sm.crash (reset L d b).2.1 ts).kept (fresh L b) [] 0))) := by
  have r := v.rp
  by_cases hb : 32 < b.length
  · left
    unfold reset
    rw [v.dn, if_neg (by decide), if_pos hb]
    exact ⟨hb, rfl⟩
  right
  refine ⟨by omega, ?_⟩
  have hcr := next_crash (h' := fresh L b) (l' := []) (a' := 0) r v.ws rfl hn rfl he (Nat.le_refl _) (by show b.length ≤ 32; omega) (.inr ⟨rfl, rfl, rfl⟩)
  have hset := rp_set (h' := fresh L b) (l' := []) (a' := 0) r rfl hn rfl he (Nat.le_refl _) (by show b.length ≤ 32; omega) (.inr ⟨rfl, rfl, rfl⟩)
  have hok := next_ok (h := fresh L b) v.ok
  have hsp := next_spec (h := fresh L b) v.ws (by have := r.len; omega) (show L.h.epoch + 1 ≤ 4294967295 by omega) (by show b.length ≤ 32; omega)
  unfold reset
  rw [v.dn, if_neg (by decide), if_neg hb]
  rcases hsp with ⟨h0, h1, h2, h3⟩ | ⟨h0, h1, h2, h3⟩
  · left
    rw [if_neg (by rw [h0]; rintro ⟨h, _⟩; exact absurd h (by decide)), if_neg (by rw [h0]; decide)]
    refine ⟨rfl, rfl, ⟨hok, h2, ?_, v.frm, rfl, by show 1 ≤ L.h.epoch + 1; omega, fun j hj _ => ?_⟩, h3⟩
    · show Rp fr (next (fresh L b) d).1.kept (fresh L b) [] 0
      rw [h1]; exact hset
    · show Fq (L.h.epoch + 1 - 1) j ((next (fresh L b) d).1.kept.getD (2 + j) [])
      rw [h1, Sm.getD_set _ _ _ _ (by have := r.len; omega), if_neg (by omega)]
      exact (r.fq j hj).le (by omega)
  · right
    rw [if_neg (by rw [h0]; rintro ⟨h, _⟩; exact absurd h (by decide)), if_pos (by rw [h0]; decide)]
    refine ⟨h0, h1, fun ts => ?_⟩
    rcases hcr ts with h | h
    · exact .inl h.1
    · exact .inr h
/-- AN OPEN, whatever became of it: the cases -/
theorem open_cases {fr : Nat} {d : Sm.Dv} {h : Hd} {l : List (List UInt8)} {a : Nat} (r : Rp fr d.kept h l a) (ho : Sm.Ok d) (ws : d.ws = []) (f1 : 1 ≤ fr) (he : h.epoch + 1 < 256) (hn : h.n + 1 < 256) :
    (open_ d (fr : Int) = (some ⟨fr, up h, l, a, false⟩, (open_ d (fr : Int)).2.1, 0) ∧ Lv fr (open_ d (fr : Int)).2.1 ⟨fr, up h, l, a, false⟩ ∧ (d.left = -1 → (open_ d (fr : Int)).2.1.left = -1)) ∨
    (open_ d (fr : Int) = (none, (open_ d (fr : Int)).2.1, 60) ∧ d.left ≠ -1 ∧ ∀ ts, Rp fr (Sm.crash (open_ d (fr : Int)).2.1 ts).kept h l a ∨ Rp fr (Sm.crash (open_ d (fr : Int)).2.1 ts).kept (up h) l a) := by
  have hhd := rp_hd r ws
  have hbt := rp_bats r ws (by omega)
  have hcr := next_crash (h' := up h) (l' := l) (a' := a) r ws rfl hn rfl he (by have := r.ba; show h.base ≤ h.epoch + 1; omega) r.bd (.inl ⟨rfl, rfl, rfl⟩)
  have hset := rp_set (h' := up h) (l' := l) (a' := a) r rfl hn rfl he (by have := r.ba; show h.base ≤ h.epoch + 1; omega) r.bd (.inl ⟨rfl, rfl, rfl⟩)
  have hok := next_ok (h := up h) ho
  have hsp := next_spec (h := up h) ws (by have := r.len; omega) (show h.epoch + 1 ≤ 4294967295 by omega) r.bd
  unfold open_
  rw [hhd, Int.toNat_natCast, hbt, if_neg (by have := r.len; omega)]
  by_cases hl : d.left = 0
  · rw [if_pos hl]
    right
    exact ⟨rfl, by omega, fun ts => .inl (by show Rp fr (Sm.torn d.kept d.ws ts) h l a; rw [ws]; exact r)⟩
  rw [if_neg hl]
  rcases hsp with ⟨h0, h1, h2, h3⟩ | ⟨h0, h1, h2, h3⟩
  · rw [if_neg (by rw [h0]; decide)]
    left
    refine ⟨rfl, ⟨hok, h2, ?_, rfl, rfl, by show 1 ≤ h.epoch + 1; omega, fun j hj _ => ?_⟩, h3⟩
    · show Rp fr (next (up h) d).1.kept (up h) l a
      rw [h1]; exact hset
    · show Fq (h.epoch + 1 - 1) j ((next (up h) d).1.kept.getD (2 + j) [])
      rw [h1, Sm.getD_set _ _ _ _ (by have := r.len; omega), if_neg (by omega)]
      exact (r.fq j hj).le (by omega)
  · rw [if_pos (by rw [h0]; decide)]
    right
    refine ⟨by rw [h0], h1, fun ts => ?_⟩
    rcases hcr ts with h | h
    · exact .inl h.1
    · exact .inr h
/-- a new device holds the empty log -/
theorem rp_new (fr : Nat) : Rp fr (Sm.new (fr + 2)).kept ⟨0, 0, 0, []⟩ [] 0 := by
  have hg : ∀ j, j < fr + 2 → (Sm.new (fr + 2)).kept.getD j [] = Sm.full [] := fun j hj => by
    show (List.replicate (fr + 2) (Sm.full [])).getD j [] = _
    rw [List.getD, List.getElem?_replicate, if_pos hj]; rfl
  have hl : (Sm.new (fr + 2)).kept.length = fr + 2 := List.length_replicate
  refine ⟨hl, fun i hi => by rw [hg i (by omega)]; exact hq_zero _, .inr rfl, Nat.le_refl _, Nat.zero_le _, Nat.zero_le _, fun j hj => by rw [hg _ (by omega)]; exact fq_zero _ _, 0, Nat.le_refl _, fun rest => rfl, ?_⟩
  cases fr with
  | zero =>
    have : (Sm.new 2).kept.drop (2 + 0) = [] := rfl
    rw [this]; rfl
  | succ n =>
    rw [drop_cons (by rw [hl]; omega), hg _ (by omega)]
    have hf : fr (Sm.full []) 0 = some (0, false, []) := by decide +kernel
    exact sc_stop hf _ _ _ _ _ _ (.inl (by omega))
end Go.Proofs.Ytofbignggadkiaa.Lm
