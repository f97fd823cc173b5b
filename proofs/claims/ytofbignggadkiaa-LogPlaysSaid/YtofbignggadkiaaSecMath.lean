/- Layer 6 in plain words: a device of sectors, what its calls answer and leave, what a crash leaves. No function of the program is named here. -/
import Derived.Test.YtofbignggadkiaaRows
namespace Go.Proofs.Ytofbignggadkiaa.Sm

/-- bytes with noughts behind, 64 in all -/
def full (b : List UInt8) : List UInt8 := b ++ List.replicate (64 - b.length) 0
theorem full_len {b : List UInt8} (h : b.length ≤ 64) : (full b).length = 64 := by
  unfold full; rw [List.length_append, List.length_replicate]; omega
structure Wr where
  i : Nat
  b : List UInt8
structure Dv where
  kept : List (List UInt8)
  ws : List Wr
  left : Int
  calls : Int
def new (n : Nat) : Dv := ⟨List.replicate n (full []), [], -1, 0⟩
def check (d : Dv) (i : Int) (len : Nat) : Int := if i < 0 ∨ (d.kept.length : Int) ≤ i ∨ 64 < len then 2 else if d.left = 0 then 60 else 0
/-- the last write of a sector, if there is one -/
def last (s : List UInt8) (i : Nat) : List Wr → List UInt8
  | [] => s
  | w :: r => last (if w.i = i then w.b else s) i r
def read (d : Dv) (i : Int) : List UInt8 × Int := if check d i 0 = 0 then (last (d.kept.getD i.toNat []) i.toNat d.ws, 0) else ([], check d i 0)
def count (d : Dv) : Dv := { d with calls := d.calls + 1, left := if 0 < d.left then d.left - 1 else d.left }
def write (d : Dv) (i : Int) (b : List UInt8) : Dv × Int := if check d i b.length = 0 then (count { d with ws := d.ws ++ [⟨i.toNat, full b⟩] }, 0) else (d, check d i b.length)
def apply (ks : List (List UInt8)) : List Wr → List (List UInt8)
  | [] => ks
  | w :: r => apply (ks.set w.i w.b) r
def flush (d : Dv) : Dv × Int := if check d 0 0 = 0 then (count { d with kept := apply d.kept d.ws, ws := [] }, 0) else (d, check d 0 0)
def tear : Option Int → Nat
  | none => 0
  | some n => (min 64 (max 0 n)).toNat
def torn (ks : List (List UInt8)) : List Wr → List Int → List (List UInt8)
  | [], _ => ks
  | w :: r, ts => torn (ks.set w.i (w.b.take (tear ts.head?) ++ (ks.getD w.i []).drop (tear ts.head?))) r ts.tail
def crash (d : Dv) (ts : List Int) : Dv := { d with kept := torn d.kept d.ws ts, ws := [], left := -1 }
def bound (d : Dv) (n : Int) : Dv := { d with left := max n 0 }
structure Ok (d : Dv) : Prop where
  k : ∀ s ∈ d.kept, s.length = 64
  w : ∀ x ∈ d.ws, x.i < d.kept.length ∧ x.b.length = 64
theorem ok_new (n : Nat) : Ok (new n) :=
  ⟨fun s hs => by rw [(List.mem_replicate.1 hs).2]; exact full_len (by simp), fun x hx => by cases hx⟩
theorem ok_count {d : Dv} (h : Ok d) : Ok (count d) := ⟨h.k, h.w⟩
theorem check_0 {d : Dv} {i : Int} {len : Nat} (h : check d i len = 0) : 0 ≤ i ∧ i < (d.kept.length : Int) ∧ len ≤ 64 ∧ d.left ≠ 0 := by
  unfold check at h
  split at h
  · cases h
  split at h
  · cases h
  · omega
theorem ok_write {d : Dv} (h : Ok d) (i : Int) (b : List UInt8) : Ok (write d i b).1 := by
  unfold write
  split
  · rename_i hc
    obtain ⟨h0, h1, h2, _⟩ := check_0 hc
    refine ok_count ⟨h.k, fun x hx => ?_⟩
    rcases List.mem_append.1 hx with hx | hx
    · exact h.w x hx
    · rw [List.mem_singleton.1 hx]
      exact ⟨by show i.toNat < d.kept.length; omega, full_len h2⟩
  · exact h
theorem apply_len : ∀ (ws : List Wr) (ks : List (List UInt8)), (apply ks ws).length = ks.length
  | [], _ => rfl
  | w :: r, ks => by rw [apply, apply_len r]; simp
theorem apply_64 : ∀ (ws : List Wr) (ks : List (List UInt8)), (∀ s ∈ ks, s.length = 64) → (∀ x ∈ ws, x.b.length = 64) → ∀ s ∈ apply ks ws, s.length = 64
  | [], _, h, _, s, hs => h s hs
  | w :: r, ks, h, hw, s, hs => by
    refine apply_64 r (ks.set w.i w.b) (fun t ht => ?_) (fun x hx => hw x (by simp [hx])) s hs
    rcases List.mem_or_eq_of_mem_set ht with ht | rfl
    · exact h t ht
    · exact hw w (by simp)
theorem ok_flush {d : Dv} (h : Ok d) : Ok (flush d).1 := by
  unfold flush
  split
  · exact ok_count ⟨apply_64 _ _ h.k fun x hx => (h.w x hx).2, fun x hx => by cases hx⟩
  · exact h
theorem tear_le (t : Option Int) : tear t ≤ 64 := by
  unfold tear
  split <;> omega
theorem torn_len : ∀ (ws : List Wr) (ks : List (List UInt8)) (ts : List Int), (torn ks ws ts).length = ks.length
  | [], _, _ => rfl
  | w :: r, ks, ts => by rw [torn, torn_len r]; simp
theorem getD_64 {ks : List (List UInt8)} (h : ∀ s ∈ ks, s.length = 64) {i : Nat} (hi : i < ks.length) : (ks.getD i []).length = 64 := by
  rw [List.getD, List.getElem?_eq_getElem hi]; exact h _ (List.getElem_mem hi)
theorem mix_64 {a b : List UInt8} (ha : a.length = 64) (hb : b.length = 64) (n : Nat) (hn : n ≤ 64) : (a.take n ++ b.drop n).length = 64 := by
  rw [List.length_append, List.length_take, List.length_drop]; omega
theorem torn_64 : ∀ (ws : List Wr) (ks : List (List UInt8)) (ts : List Int), (∀ s ∈ ks, s.length = 64) → (∀ x ∈ ws, x.i < ks.length ∧ x.b.length = 64) → ∀ s ∈ torn ks ws ts, s.length = 64
  | [], _, _, h, _, s, hs => h s hs
  | w :: r, ks, ts, h, hw, s, hs => by
    refine torn_64 r _ ts.tail (fun t ht => ?_) (fun x hx => by rw [List.length_set]; exact hw x (by simp [hx])) s hs
    rcases List.mem_or_eq_of_mem_set ht with ht | rfl
    · exact h t ht
    · exact mix_64 (hw w (by simp)).2 (getD_64 h (hw w (by simp)).1) _ (tear_le _)
theorem ok_crash {d : Dv} (h : Ok d) (ts : List Int) : Ok (crash d ts) := ⟨torn_64 _ _ _ h.k h.w, fun x hx => by cases hx⟩
theorem ok_bound {d : Dv} (h : Ok d) (n : Int) : Ok (bound d n) := ⟨h.k, h.w⟩
theorem getD_set (ks : List (List UInt8)) (i j : Nat) (s : List UInt8) (hi : i < ks.length) : (ks.set i s).getD j [] = if i = j then s else ks.getD j [] := by
  rw [List.getD, List.getD, List.getElem?_set]
  by_cases h : i = j
  · subst h; rw [if_pos rfl, if_pos rfl, if_pos hi]; rfl
  · rw [if_neg h, if_neg h]
theorem apply_at : ∀ (ws : List Wr) (ks : List (List UInt8)) (i : Nat), (∀ x ∈ ws, x.i < ks.length) → (apply ks ws).getD i [] = last (ks.getD i []) i ws
  | [], _, _, _ => rfl
  | w :: r, ks, i, h => by
    rw [apply, last, apply_at r _ i (fun x hx => by rw [List.length_set]; exact h x (by simp [hx])), getD_set _ _ _ _ (h w (by simp))]
theorem last_app (s : List UInt8) (i : Nat) (w : Wr) : ∀ ws : List Wr, last s i (ws ++ [w]) = if w.i = i then w.b else last s i ws := by
  intro ws
  induction ws generalizing s with
  | nil => rfl
  | cons x r ih => rw [List.cons_append, last, last, ih]
theorem last_none (i : Nat) : ∀ (ws : List Wr) (s : List UInt8), (∀ x ∈ ws, x.i ≠ i) → last s i ws = s
  | [], _, _ => rfl
  | w :: r, s, h => by rw [last, if_neg (h w (by simp))]; exact last_none i r s fun x hx => h x (by simp [hx])
theorem torn_other (i : Nat) : ∀ (ws : List Wr) (ks : List (List UInt8)) (ts : List Int), (∀ x ∈ ws, x.i < ks.length ∧ x.i ≠ i) → (torn ks ws ts).getD i [] = ks.getD i []
  | [], _, _, _ => rfl
  | w :: r, ks, ts, h => by
    rw [torn, torn_other i r _ _ (fun x hx => by rw [List.length_set]; exact h x (by simp [hx])), getD_set _ _ _ _ (h w (by simp)).1, if_neg (h w (by simp)).2]
/-- a crash that keeps all is as a flush -/
theorem torn_all : ∀ (ws : List Wr) (ks : List (List UInt8)) (ts : List Int), (∀ s ∈ ks, s.length = 64) → (∀ x ∈ ws, x.i < ks.length ∧ x.b.length = 64) → ws.length ≤ ts.length → (∀ t ∈ ts, t = 64) → torn ks ws ts = apply ks ws
  | [], _, _, _, _, _, _ => rfl
  | w :: r, ks, [], _, _, h, _ => by simp at h
  | w :: r, ks, t :: ts, hk, hw, hl, ht => by
    have e : t = 64 := ht t (by simp)
    subst e
    have h1 := hw w (by simp)
    have hb : w.b.take 64 ++ (ks.getD w.i []).drop 64 = w.b := by
      rw [List.take_of_length_le (by omega), List.drop_eq_nil_of_le (by rw [getD_64 hk h1.1]; omega), List.append_nil]
    rw [torn, apply]
    show torn (ks.set w.i (w.b.take 64 ++ (ks.getD w.i []).drop 64)) r ts = _
    rw [hb]
    refine torn_all r _ ts (fun s hs => ?_) (fun x hx => by rw [List.length_set]; exact hw x (by simp [hx])) (by simpa using hl) (fun u hu => ht u (by simp [hu]))
    rcases List.mem_or_eq_of_mem_set hs with hs | rfl
    · exact hk s hs
    · exact h1.2
theorem mix_at {a b : List UInt8} (ha : a.length = 64) (_hb : b.length = 64) (n k : Nat) (hn : n ≤ 64) (_hk : k < 64) : (a.take n ++ b.drop n).getD k 0 = a.getD k 0 ∨ (a.take n ++ b.drop n).getD k 0 = b.getD k 0 := by
  by_cases h : k < n
  · left
    rw [List.getD, List.getD, List.getElem?_append_left (by rw [List.length_take]; omega), List.getElem?_take, if_pos h]
  · right
    rw [List.getD, List.getD, List.getElem?_append_right (by rw [List.length_take]; omega), List.length_take, List.getElem?_drop]
    congr 2
    omega
/-- behind a crash each byte is one that stood there, or one of a write that waited -/
theorem torn_byte (i k : Nat) (hk : k < 64) : ∀ (ws : List Wr) (ks : List (List UInt8)) (ts : List Int), (∀ s ∈ ks, s.length = 64) → (∀ x ∈ ws, x.i < ks.length ∧ x.b.length = 64) → i < ks.length →
    ((torn ks ws ts).getD i []).getD k 0 = (ks.getD i []).getD k 0 ∨ ∃ x ∈ ws, x.i = i ∧ ((torn ks ws ts).getD i []).getD k 0 = x.b.getD k 0
  | [], _, _, _, _, _ => .inl rfl
  | w :: r, ks, ts, hs, hw, hi => by
    have h1 := hw w (by simp)
    have hn := tear_le ts.head?
    rw [torn]
    have hks : ∀ s ∈ ks.set w.i (w.b.take (tear ts.head?) ++ (ks.getD w.i []).drop (tear ts.head?)), s.length = 64 := by
      intro s h
      rcases List.mem_or_eq_of_mem_set h with h | rfl
      · exact hs s h
      · exact mix_64 h1.2 (getD_64 hs h1.1) _ hn
    rcases torn_byte i k hk r _ ts.tail hks (fun x hx => by rw [List.length_set]; exact hw x (by simp [hx])) (by simpa using hi) with h | ⟨x, hx, hxi, h⟩
    · rw [h, getD_set _ _ _ _ h1.1]
      by_cases e : w.i = i
      · rw [if_pos e]
        rcases mix_at h1.2 (getD_64 hs h1.1) (tear ts.head?) k hn hk with h2 | h2
        · exact .inr ⟨w, by simp, e, h2⟩
        · rw [h2, e]; exact .inl rfl
      · rw [if_neg e]; exact .inl rfl
    · exact .inr ⟨x, by simp [hx], hxi, h⟩
end Go.Proofs.Ytofbignggadkiaa.Sm
