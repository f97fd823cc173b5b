/- Layer 11 in plain words: rows; what Get, Set, Keep, Put and Parse answer. No function of the program is named here. -/
import Derived.Test.YtmipomglbccjbaaDoorValMath
import Derived.Test.YtmipomglbccjbaaDoorWireFa
namespace Go.Proofs.YtmipomglbccjbaaDoor.Rm

/-- a cell of a row -/
structure C where
  col : Int
  v : Vm.Cl
  deriving DecidableEq
def fillB (v : Vm.Cl) : Bool := decide (v.k ≠ 0) && Vm.rightB v
def rgt (p : Int) : List C → Bool
  | [] => true
  | c :: r => decide (p < c.col) && fillB c.v && rgt c.col r
def right (l : List C) : Bool := rgt (-1) l
def get (col : Int) : List C → Vm.Cl
  | [] => Vm.nil
  | c :: r => if c.col = col then c.v else get col r
def one (col : Int) (v : Vm.Cl) : List C := if fillB v then [⟨col, v⟩] else []
/-- how many cells have lower columns -/
def low (col : Int) : List C → Nat
  | [] => 0
  | c :: r => if c.col < col then low col r + 1 else 0
def rst (col : Int) : List C → List C
  | [] => []
  | c :: r => if c.col = col then r else c :: r
def ins (col : Int) (v : Vm.Cl) : List C → List C
  | [] => one col v
  | c :: r => if c.col < col then c :: ins col v r else one col v ++ rst col (c :: r)
def set (col : Int) (v : Vm.Cl) (l : List C) : List C := if col < 0 then l else ins col v l
def keep (cols : List Int) (l : List C) : List C := l.filter fun c => cols.contains c.col
/-- Set as the reference makes it -/
def setF (col : Int) (v : Vm.Cl) : Bool → List C → List C
  | i, [] => if i then [] else [⟨col, v⟩]
  | i, c :: r => if i = false ∧ col ≤ c.col then ⟨col, v⟩ :: ((if c.col ≠ col ∨ col < 0 then [c] else []) ++ setF col v true r)
    else (if c.col ≠ col ∨ col < 0 then [c] else []) ++ setF col v i r
def in0 (col : Int) (v : Vm.Cl) : Bool := decide (col < 0) || !fillB v

theorem low_le (col : Int) : ∀ l : List C, low col l ≤ l.length
  | [] => Nat.le_refl _
  | c :: r => by
    rw [low]; split
    · have := low_le col r; simp; omega
    · exact Nat.zero_le _
theorem low_lt (col : Int) : ∀ (l : List C) (i : Nat) (h : i < l.length), i < low col l → l[i].col < col
  | [], i, h, _ => by simp at h
  | c :: r, 0, h, hi => by
    rw [low] at hi; split at hi
    · assumption
    · omega
  | c :: r, i + 1, h, hi => by
    rw [low] at hi; split at hi
    · rw [List.getElem_cons_succ]; exact low_lt col r i _ (by omega)
    · omega
theorem low_ge (col : Int) : ∀ (l : List C) (h : low col l < l.length), col ≤ (l[low col l]).col
  | [], h => by simp at h
  | c :: r, h => by
    by_cases hc : c.col < col
    · have e : low col (c :: r) = low col r + 1 := by rw [low, if_pos hc]
      have h2 : low col r < r.length := by rw [e] at h; simpa using h
      have := low_ge col r h2
      simp only [e, List.getElem_cons_succ]; exact this
    · have e : low col (c :: r) = 0 := by rw [low, if_neg hc]
      simp only [e, List.getElem_cons_zero]; omega
/-- the number with just these two facts -/
theorem low_of (col : Int) (l : List C) (m : Nat) (hm : m ≤ l.length) (h1 : ∀ i (h : i < l.length), i < m → l[i].col < col) (h2 : ∀ h : m < l.length, col ≤ l[m].col) : low col l = m := by
  rcases Nat.lt_trichotomy (low col l) m with h | h | h
  · have := low_ge col l (by omega)
    have := h1 (low col l) (by omega) h
    omega
  · exact h
  · have hl := low_le col l
    have := low_lt col l m (by omega) h
    have := h2 (by omega)
    omega
theorem ins_eq (col : Int) (v : Vm.Cl) : ∀ l : List C, ins col v l = l.take (low col l) ++ one col v ++ rst col (l.drop (low col l))
  | [] => by simp [ins, low, rst]
  | c :: r => by
    by_cases hc : c.col < col
    · rw [ins, if_pos hc, low, if_pos hc, ins_eq col v r]; simp
    · rw [ins, if_neg hc, low, if_neg hc]; simp
theorem fill_k {v : Vm.Cl} (h : fillB v = true) : v.k ≠ 0 ∧ Vm.rightB v = true := by
  unfold fillB at h; simp at h; exact h
theorem rgt_mono {p q : Int} (h : q ≤ p) : ∀ {l : List C}, rgt p l = true → rgt q l = true
  | [], _ => rfl
  | c :: r, h1 => by
    rw [rgt] at h1 ⊢
    simp only [Bool.and_eq_true, decide_eq_true_eq] at h1 ⊢
    exact ⟨⟨by omega, h1.1.2⟩, h1.2⟩
theorem rgt_low {p : Int} : ∀ {l : List C}, rgt p l = true → ∀ c ∈ l, p < c.col
  | [], _, c, hc => by cases hc
  | d :: r, h, c, hc => by
    rw [rgt] at h; simp only [Bool.and_eq_true, decide_eq_true_eq] at h
    rcases List.mem_cons.1 hc with rfl | hc
    · exact h.1.1
    · have := rgt_low h.2 c hc; omega
theorem rgt_fill {p : Int} : ∀ {l : List C}, rgt p l = true → ∀ c ∈ l, fillB c.v = true
  | [], _, c, hc => by cases hc
  | d :: r, h, c, hc => by
    rw [rgt] at h; simp only [Bool.and_eq_true, decide_eq_true_eq] at h
    rcases List.mem_cons.1 hc with rfl | hc
    · exact h.1.2
    · exact rgt_fill h.2 c hc
theorem rgt_one {p col : Int} {v : Vm.Cl} {l : List C} (hp : p < col) (hl : rgt col l = true) : rgt p (one col v ++ l) = true := by
  unfold one; split
  · rename_i hf
    rw [List.singleton_append, rgt]; simp only [Bool.and_eq_true, decide_eq_true_eq]; exact ⟨⟨hp, hf⟩, hl⟩
  · exact rgt_mono (by omega) hl
theorem rgt_ins {col : Int} {v : Vm.Cl} : ∀ {p : Int} {l : List C}, p < col → rgt p l = true → rgt p (ins col v l) = true
  | p, [], hp, _ => by
    have := rgt_one (v := v) (l := []) hp rfl
    rw [List.append_nil] at this; exact this
  | p, c :: r, hp, h => by
    have h' := h
    rw [rgt] at h; simp only [Bool.and_eq_true, decide_eq_true_eq] at h
    rw [ins]; split
    · rename_i hc
      rw [rgt]; simp only [Bool.and_eq_true, decide_eq_true_eq]
      exact ⟨h.1, rgt_ins hc h.2⟩
    · rename_i hc
      refine rgt_one hp ?_
      rw [rst]; split
      · rename_i e; rw [← e]; exact h.2
      · rename_i e
        rw [rgt]; simp only [Bool.and_eq_true, decide_eq_true_eq]
        exact ⟨⟨by omega, h.1.2⟩, h.2⟩
theorem right_set {col : Int} {v : Vm.Cl} {l : List C} (h : right l = true) : right (set col v l) = true := by
  unfold set right at *; split
  · exact h
  · exact rgt_ins (by omega) h
theorem setF_true (col : Int) (v : Vm.Cl) (h0 : 0 ≤ col) : ∀ {l : List C}, rgt col l = true → setF col v true l = l
  | [], _ => rfl
  | c :: r, h => by
    rw [rgt] at h; simp only [Bool.and_eq_true, decide_eq_true_eq] at h
    have hr := setF_true col v h0 (rgt_mono (by omega) h.2)
    rw [setF, if_neg (by simp), if_pos (by left; omega), hr]; rfl
theorem setF_neg (col : Int) (v : Vm.Cl) (h0 : col < 0) : ∀ l : List C, setF col v true l = l
  | [] => rfl
  | c :: r => by rw [setF, if_neg (by simp), if_pos (.inr h0), setF_neg col v h0 r]; rfl
theorem setF_ins {col : Int} {v : Vm.Cl} (h0 : 0 ≤ col) : ∀ {p : Int} {l : List C}, rgt p l = true → setF col v (!fillB v) l = ins col v l
  | p, [], _ => by
    rw [setF, ins, one]
    cases fillB v <;> rfl
  | p, c :: r, h => by
    have h' := h
    rw [rgt] at h; simp only [Bool.and_eq_true, decide_eq_true_eq] at h
    rw [ins]; split
    · rename_i hc
      rw [setF, if_neg (by omega), if_pos (by left; omega), setF_ins h0 h.2]; rfl
    · rename_i hc
      rw [rst]
      by_cases he : c.col = col
      · rw [if_pos he]
        have hr : setF col v true r = r := setF_true col v h0 (by rw [← he]; exact h.2)
        rw [setF, one]
        cases hf : fillB v
        · rw [if_neg (by simp), if_neg (by omega)]; simpa using hr
        · rw [if_pos (by refine ⟨by simp, by omega⟩), if_neg (by omega), hr]; rfl
      · rw [if_neg he]
        have hr : setF col v true r = r := setF_true col v h0 (rgt_mono (by omega) h.2)
        rw [setF, one]
        cases hf : fillB v
        · rw [if_neg (by simp), if_pos (by left; omega)]; simpa using hr
        · rw [if_pos (by refine ⟨by simp, by omega⟩), if_pos (by left; omega), hr]; rfl
theorem setF_eq {col : Int} {v : Vm.Cl} {l : List C} (h : right l = true) : setF col v (in0 col v) l = set col v l := by
  unfold set in0; split
  · rename_i h0
    rw [show (decide (col < 0) || !fillB v) = true by simp [h0]]
    exact setF_neg col v h0 l
  · rename_i h0
    rw [show (decide (col < 0) || !fillB v) = !fillB v by simp [h0]]
    exact setF_ins (by omega) h
theorem get_of_right {p : Int} : ∀ {l : List C}, rgt p l = true → ∀ c ∈ l, get c.col l = c.v
  | [], _, c, hc => by cases hc
  | d :: r, h, c, hc => by
    rw [rgt] at h; simp only [Bool.and_eq_true, decide_eq_true_eq] at h
    rw [get]
    rcases List.mem_cons.1 hc with rfl | hc
    · rw [if_pos rfl]
    · have := rgt_low h.2 c hc
      rw [if_neg (by omega), get_of_right h.2 c hc]
theorem get_one_ne {col col' : Int} {v : Vm.Cl} {l : List C} (h : col' ≠ col) : get col' (one col v ++ l) = get col' l := by
  unfold one; split
  · rw [List.singleton_append, get, if_neg (fun e => h e.symm)]
  · rfl
theorem get_ins_ne {col col' : Int} {v : Vm.Cl} (h : col' ≠ col) : ∀ l : List C, get col' (ins col v l) = get col' l
  | [] => by
    have := get_one_ne (v := v) (l := []) h
    rw [List.append_nil] at this; exact this
  | c :: r => by
    rw [ins]; split
    · rw [get, get, get_ins_ne h r]
    · rw [get_one_ne h, rst]; split
      · rw [get, if_neg (by omega)]
      · rfl
theorem get_set_ne {col col' : Int} {v : Vm.Cl} {l : List C} (h : col' ≠ col) : get col' (set col v l) = get col' l := by
  unfold set; split
  · rfl
  · exact get_ins_ne h l
theorem get_none {p col : Int} : ∀ {l : List C}, rgt p l = true → col ≤ p → get col l = Vm.nil
  | [], _, _ => rfl
  | c :: r, h, hp => by
    rw [rgt] at h; simp only [Bool.and_eq_true, decide_eq_true_eq] at h
    rw [get, if_neg (by omega), get_none h.2 (by omega)]
theorem get_ins {col : Int} {v : Vm.Cl} : ∀ {p : Int} {l : List C}, rgt p l = true → get col (ins col v l) = if fillB v then v else Vm.nil
  | p, [], _ => by
    rw [ins, one]
    cases fillB v
    · rfl
    · simp [get]
  | p, c :: r, h => by
    rw [rgt] at h; simp only [Bool.and_eq_true, decide_eq_true_eq] at h
    rw [ins]; split
    · rw [get, if_neg (by omega), get_ins h.2]
    · rename_i hc
      rw [one]
      cases hf : fillB v
      · simp only [Bool.false_eq_true, if_false, List.nil_append]
        rw [rst]; split
        · rename_i e; exact get_none h.2 (by omega)
        · rename_i e
          rw [get, if_neg e, get_none h.2 (by omega)]
      · simp [get]
theorem get_set {col : Int} {v : Vm.Cl} {l : List C} (h : right l = true) (h0 : 0 ≤ col) : get col (set col v l) = if fillB v then v else Vm.nil := by
  unfold set; rw [if_neg (by omega)]; exact get_ins h
theorem set_len (col : Int) (v : Vm.Cl) (l : List C) : (set col v l).length ≤ l.length + 1 := by
  unfold set; split
  · omega
  · rw [ins_eq, List.length_append, List.length_append, List.length_take]
    have h1 : (one col v).length ≤ 1 := by unfold one; split <;> simp
    have h2 : (rst col (l.drop (low col l))).length ≤ l.length - low col l := by
      rw [← List.length_drop]
      cases l.drop (low col l) with
      | nil => exact Nat.le_refl _
      | cons c r => rw [rst]; split <;> simp
    have := low_le col l
    omega
theorem right_take (p : Int) : ∀ (l : List C) (j : Nat), rgt p l = true → rgt p (l.take j) = true
  | [], _, _ => by simp [rgt]
  | c :: r, 0, _ => rfl
  | c :: r, j + 1, h => by
    rw [rgt] at h; simp only [Bool.and_eq_true, decide_eq_true_eq] at h
    rw [List.take_succ_cons, rgt]; simp only [Bool.and_eq_true, decide_eq_true_eq]
    exact ⟨h.1, right_take c.col r j h.2⟩

/-! ### bytes -/
def valB (v : Vm.Cl) : List UInt8 := Wm.enc v.k ++ (if v.k = 1 ∨ v.k = 2 then Wm.enc v.n else if v.k = 3 then Wm.enc v.sc ++ Wm.enc v.n else tx v.s)
def cellB (c : C) : List UInt8 := Wm.enc c.col ++ valB c.v
def put (l : List C) : List UInt8 := Wm.enc (l.length : Nat) ++ l.flatMap cellB
abbrev St := Option (List UInt8)
def bf (st : St) : Int × St := btw (-9223372036854775808) 9223372036854775807 st
def cval (k : Int) (st : St) : Vm.Cl × St :=
  if k = 1 then (⟨1, if (btw 0 1 st).1 = 1 then 1 else 0, 0, ⟨#[]⟩⟩, (btw 0 1 st).2)
  else if k = 2 then (⟨2, (bf st).1, 0, ⟨#[]⟩⟩, (bf st).2)
  else if k = 3 then (⟨3, (bf (bf st).2).1, (bf st).1, ⟨#[]⟩⟩, (bf (bf st).2).2)
  else if k = 4 ∨ k = 5 then (⟨k, 0, 0, bstr (rtext st).1⟩, (rtext st).2)
  else (⟨k, 0, 0, ⟨#[]⟩⟩, st)
def ccell (st : St) : C × St := (⟨(bf st).1, (cval (bf (bf st).2).1 (bf (bf st).2).2).1⟩, (cval (bf (bf st).2).1 (bf (bf st).2).2).2)
def ccells : Nat → St → List C × St
  | 0, st => ([], st)
  | _ + 1, none => ([], none)
  | n + 1, some l => ((ccell (some l)).1 :: (ccells n (ccell (some l)).2).1, (ccells n (ccell (some l)).2).2)
def cpar (l : List UInt8) : Option (List C) :=
  if (ccells (btw 0 (l.length : Nat) (some l)).1.toNat (btw 0 (l.length : Nat) (some l)).2).2 = some [] ∧ right (ccells (btw 0 (l.length : Nat) (some l)).1.toNat (btw 0 (l.length : Nat) (some l)).2).1 = true then some (ccells (btw 0 (l.length : Nat) (some l)).1.toNat (btw 0 (l.length : Nat) (some l)).2).1 else none
/-- as the reference reads -/
def rnum (l : List UInt8) : Option (Int × List UInt8) := if (dv l).2 = 0 then none else some ((dv l).1, l.drop (dv l).2)
def rval (k : Int) (l : List UInt8) : Option (Vm.Cl × List UInt8) :=
  if k < 1 ∨ 5 < k then none
  else if 3 < k then (if (gtx l).2 = 0 then none else some (⟨k, 0, 0, bstr (gtx l).1⟩, l.drop (gtx l).2))
  else match rnum l with
    | none => none
    | some (x, l1) => if k = 3 then (match rnum l1 with | none => none | some (y, l2) => some (⟨k, y, x, ⟨#[]⟩⟩, l2)) else some (⟨k, x, 0, ⟨#[]⟩⟩, l1)
def rcell (l : List UInt8) : Option (C × List UInt8) :=
  match rnum l with
  | none => none
  | some (c, l1) => match rnum l1 with
    | none => none
    | some (k, l2) => (rval k l2).map fun x => (⟨c, x.1⟩, x.2)
def rcells : Nat → List UInt8 → Option (List C × List UInt8)
  | 0, l => some ([], l)
  | n + 1, l => match rcell l with
    | none => none
    | some (c, l1) => (rcells n l1).map fun x => (c :: x.1, x.2)
def rpar (l : List UInt8) : Option (List C) :=
  match rnum l with
  | none => none
  | some (n, l1) => if n < 0 then none else match rcells n.toNat l1 with
    | none => none
    | some (cs, l2) => if l2 = [] ∧ right cs = true then some cs else none
end Go.Proofs.YtmipomglbccjbaaDoor.Rm
/- Layer 11 in plain words: the two ways of reading a row agree; a row that was written is read again. No function of the program is named here. -/
namespace Go.Proofs.YtmipomglbccjbaaDoor.Rm

theorem rnum_len {l l' : List UInt8} {n : Int} (h : rnum l = some (n, l')) : l'.length < l.length ∧ Wm.inR n := by
  unfold rnum at h
  rcases hd : Wm.dec l with _ | ⟨m, k⟩
  · rw [dv_none hd] at h; simp at h
  · obtain ⟨hin, hk1, hk9, hkl⟩ := Wm.dec_some hd
    rw [dv_some hd, if_neg (by show k ≠ 0; omega)] at h
    injection h with h; injection h with h1 h2
    dsimp only at h1 h2
    rw [← h1, ← h2, List.length_drop]
    exact ⟨by omega, hin⟩
theorem btw_r (lo hi : Int) (l : List UInt8) : btw lo hi (some l) = match rnum l with | none => (0, none) | some (n, l') => if n < lo ∨ hi < n then (0, none) else (n, some l') := by
  rcases hd : Wm.dec l with _ | ⟨m, k⟩
  · have : rnum l = none := by unfold rnum; rw [dv_none hd]; rfl
    rw [this]; simp only [btw, hd]
  · obtain ⟨hin, hk1, hk9, hkl⟩ := Wm.dec_some hd
    have : rnum l = some (m, l.drop k) := by unfold rnum; rw [dv_some hd, if_neg (by show k ≠ 0; omega)]
    rw [this]; simp only [btw, hd]
theorem bf_none {l : List UInt8} (h : rnum l = none) : bf (some l) = (0, none) := by unfold bf; rw [btw_r, h]
theorem bf_some {l l' : List UInt8} {n : Int} (h : rnum l = some (n, l')) : bf (some l) = (n, some l') := by
  have := (rnum_len h).2
  unfold Wm.inR at this
  unfold bf; rw [btw_r, h]; simp only; rw [if_neg (by omega)]
theorem bf_bad : bf none = (0, none) := rfl
theorem cval_bad (k : Int) : (cval k none).2 = none := by
  unfold cval; split
  · rfl
  · split
    · rfl
    · split
      · rfl
      · split
        · rfl
        · rfl
theorem fill_cases {v : Vm.Cl} (h : fillB v = true) : (v.k = 1 ∧ (v.n = 0 ∨ v.n = 1) ∧ v.sc = 0 ∧ v.s = ⟨#[]⟩) ∨ (v.k = 2 ∧ v.sc = 0 ∧ v.s = ⟨#[]⟩) ∨ (v.k = 3 ∧ scB v.sc = true ∧ v.s = ⟨#[]⟩) ∨ ((v.k = 4 ∨ v.k = 5) ∧ v.n = 0 ∧ v.sc = 0 ∧ v.s.size ≤ 200) := by
  obtain ⟨hk, hr⟩ := fill_k h
  have hs : ∀ s : ByteArray, s.size = 0 → s = ⟨#[]⟩ := fun s hs => by
    obtain ⟨d⟩ := s
    have : d = #[] := Array.eq_empty_of_size_eq_zero hs
    rw [this]
  unfold Vm.rightB at hr
  rw [if_neg hk] at hr
  split at hr
  · rename_i e
    simp only [Bool.and_eq_true, Bool.or_eq_true, decide_eq_true_eq] at hr
    exact .inl ⟨e, hr.1.1, hr.1.2, hs _ hr.2⟩
  · split at hr
    · rename_i e
      simp only [Bool.and_eq_true, decide_eq_true_eq] at hr
      exact .inr (.inl ⟨e, hr.1, hs _ hr.2⟩)
    · split at hr
      · rename_i e
        simp only [Bool.and_eq_true, decide_eq_true_eq] at hr
        exact .inr (.inr (.inl ⟨e, hr.1, hs _ hr.2⟩))
      · split at hr
        · rename_i e
          simp only [Bool.and_eq_true, decide_eq_true_eq] at hr
          exact .inr (.inr (.inr ⟨.inl e, hr.1.1.1, hr.1.1.2, hr.1.2⟩))
        · split at hr
          · rename_i e
            simp only [Bool.and_eq_true, decide_eq_true_eq] at hr
            exact .inr (.inr (.inr ⟨.inr e, hr.1.1, hr.1.2, hr.2⟩))
          · cases hr

theorem rval_len {k : Int} {l l' : List UInt8} {v : Vm.Cl} (h : rval k l = some (v, l')) : l'.length ≤ l.length ∧ v.k = k ∧ 1 ≤ k ∧ k ≤ 5 := by
  unfold rval at h
  split at h
  · cases h
  · rename_i h15
    split at h
    · split at h
      · cases h
      · injection h with h; injection h with h1 h2
        subst h1; subst h2
        exact ⟨by rw [List.length_drop]; omega, rfl, by omega, by omega⟩
    · split at h
      · cases h
      · rename_i x l1 hn
        have e1 := (rnum_len hn).1
        split at h
        · split at h
          · cases h
          · rename_i y l2 hm
            have e2 := (rnum_len hm).1
            injection h with h; injection h with h1 h2
            subst h1; subst h2
            exact ⟨by omega, rfl, by omega, by omega⟩
        · injection h with h; injection h with h1 h2
          subst h1; subst h2
          exact ⟨by omega, rfl, by omega, by omega⟩
theorem rcell_len {l l' : List UInt8} {c : C} (h : rcell l = some (c, l')) : l'.length < l.length := by
  unfold rcell at h
  split at h
  · cases h
  · rename_i x l1 h1
    split at h
    · cases h
    · rename_i k l2 h2
      rcases hv : rval k l2 with _ | ⟨v, l3⟩
      · rw [hv] at h; cases h
      · rw [hv] at h
        injection h with h; injection h with _ h
        dsimp only at h; subst h
        have := (rnum_len h1).1; have := (rnum_len h2).1; have := (rval_len hv).1
        omega
theorem rtext_gtx {l : List UInt8} (h : (gtx l).2 ≠ 0) : rtext (some l) = ((gtx l).1, some (l.drop (gtx l).2)) := by
  rcases gtx_rtext l with ⟨e, _⟩ | ⟨_, _, e⟩
  · exact absurd e h
  · exact e
theorem rtext_gtx0 {l : List UInt8} (h : (gtx l).2 = 0) : rtext (some l) = ([], none) := by
  rcases gtx_rtext l with ⟨_, _, e⟩ | ⟨e, _⟩
  · exact e
  · omega
theorem val_fwd {k : Int} {l l' : List UInt8} {v : Vm.Cl} (h : rval k l = some (v, l')) (hf : fillB v = true) : cval k (some l) = (v, some l') := by
  have hl := rval_len h
  unfold rval at h
  rw [if_neg (by omega)] at h
  by_cases h3 : 3 < k
  · rw [if_pos h3] at h
    split at h
    · cases h
    · rename_i h0
      injection h with h; injection h with h1 h2
      unfold cval
      rw [if_neg (by omega), if_neg (by omega), if_neg (by omega), if_pos (by omega), rtext_gtx h0, ← h1, ← h2]
  · rw [if_neg h3] at h
    rcases hn : rnum l with _ | ⟨x, l1⟩
    · rw [hn] at h; cases h
    · rw [hn] at h
      dsimp only at h
      by_cases hk : k = 3
      · subst hk
        rw [if_pos rfl] at h
        rcases hm : rnum l1 with _ | ⟨y, l2⟩
        · rw [hm] at h; cases h
        · rw [hm] at h
          injection h with h; injection h with h1 h2
          unfold cval
          rw [if_neg (by omega), if_neg (by omega), if_pos rfl, bf_some hn]
          dsimp only
          rw [bf_some hm, ← h1, ← h2]
      · rw [if_neg hk] at h
        injection h with h; injection h with h1 h2
        subst h1; subst h2
        rcases (show k = 1 ∨ k = 2 by omega) with rfl | rfl
        · have hx : x = 0 ∨ x = 1 := by
            rcases fill_cases hf with h | h | h | h
            · exact h.2.1
            · exact absurd (show (1 : Int) = 2 from h.1) (by decide)
            · exact absurd (show (1 : Int) = 3 from h.1) (by decide)
            · exact absurd (show (1 : Int) = 4 ∨ (1 : Int) = 5 from h.1) (by decide)
          have hb : btw 0 1 (some l) = (x, some l1) := by rw [btw_r, hn]; dsimp only; rw [if_neg (by omega)]
          unfold cval
          rw [if_pos rfl, hb]
          rcases hx with rfl | rfl <;> rfl
        · unfold cval
          rw [if_neg (by omega), if_pos rfl, bf_some hn]
theorem val_bwd {k : Int} {l l' : List UInt8} {v : Vm.Cl} (h : cval k (some l) = (v, some l')) (hf : fillB v = true) : rval k l = some (v, l') := by
  have hvk : v.k = k := by
    have := congrArg Prod.fst h
    dsimp only at this
    rw [← this]; unfold cval
    split
    · rename_i e; exact e.symm
    · split
      · rename_i e; exact e.symm
      · split
        · rename_i e; exact e.symm
        · split <;> rfl
  have hk5 : 1 ≤ k ∧ k ≤ 5 := by
    rcases fill_cases hf with e | e | e | e <;> omega
  unfold cval at h
  unfold rval
  rw [if_neg (by omega)]
  by_cases h3 : 3 < k
  · rw [if_neg (by omega), if_neg (by omega), if_neg (by omega), if_pos (by omega)] at h
    rw [if_pos h3]
    by_cases h0 : (gtx l).2 = 0
    · rw [rtext_gtx0 h0] at h; injection h with _ h; cases h
    · rw [rtext_gtx h0] at h
      injection h with h1 h2; injection h2 with h2
      rw [if_neg h0, h1, h2]
  · rw [if_neg h3]
    rcases hn : rnum l with _ | ⟨x, l1⟩
    · exfalso
      rcases (show k = 1 ∨ k = 2 ∨ k = 3 by omega) with rfl | rfl | rfl
      · rw [if_pos rfl, btw_r, hn] at h; injection h with _ h; cases h
      · rw [if_neg (by omega), if_pos rfl, bf_none hn] at h; injection h with _ h; cases h
      · rw [if_neg (by omega), if_neg (by omega), if_pos rfl, bf_none hn] at h; injection h with _ h; cases h
    · dsimp only
      rcases (show k = 1 ∨ k = 2 ∨ k = 3 by omega) with rfl | rfl | rfl
      · rw [if_neg (by omega)]
        rw [if_pos rfl] at h
        by_cases hx : x < 0 ∨ 1 < x
        · have hb : btw 0 1 (some l) = (0, none) := by rw [btw_r, hn]; dsimp only; rw [if_pos hx]
          rw [hb] at h; injection h with _ h; cases h
        · have hb : btw 0 1 (some l) = (x, some l1) := by rw [btw_r, hn]; dsimp only; rw [if_neg hx]
          rw [hb] at h
          injection h with h1 h2; injection h2 with h2
          dsimp only at h1
          rw [← h1, ← h2]
          rcases (show x = 0 ∨ x = 1 by omega) with rfl | rfl <;> rfl
      · rw [if_neg (by omega)]
        rw [if_neg (by omega), if_pos rfl, bf_some hn] at h
        injection h with h1 h2; injection h2 with h2
        rw [← h1, ← h2]
      · rw [if_pos rfl]
        rw [if_neg (by omega), if_neg (by omega), if_pos rfl, bf_some hn] at h
        dsimp only at h
        rcases hm : rnum l1 with _ | ⟨y, l2⟩
        · rw [bf_none hm] at h; injection h with _ h; cases h
        · rw [bf_some hm] at h
          injection h with h1 h2; injection h2 with h2
          dsimp only
          rw [← h1, ← h2]
theorem cell_fwd {l l' : List UInt8} {c : C} (h : rcell l = some (c, l')) (hf : fillB c.v = true) : ccell (some l) = (c, some l') := by
  unfold rcell at h
  rcases h1 : rnum l with _ | ⟨x, l1⟩
  · rw [h1] at h; cases h
  · rw [h1] at h; dsimp only at h
    rcases h2 : rnum l1 with _ | ⟨k, l2⟩
    · rw [h2] at h; cases h
    · rw [h2] at h; dsimp only at h
      rcases hv : rval k l2 with _ | ⟨v, l3⟩
      · rw [hv] at h; cases h
      · rw [hv] at h
        injection h with h; injection h with h3 h4
        dsimp only at h3 h4
        subst h3; subst h4
        unfold ccell
        rw [bf_some h1]; dsimp only
        rw [bf_some h2]; dsimp only
        rw [val_fwd hv hf]
theorem cell_bwd {l l' : List UInt8} {c : C} (h : ccell (some l) = (c, some l')) (hf : fillB c.v = true) : rcell l = some (c, l') := by
  unfold ccell at h
  unfold rcell
  rcases h1 : rnum l with _ | ⟨x, l1⟩
  · rw [bf_none h1] at h; dsimp only at h
    rw [bf_bad] at h
    injection h with _ h; rw [cval_bad] at h; cases h
  · rw [bf_some h1] at h; dsimp only at h ⊢
    rcases h2 : rnum l1 with _ | ⟨k, l2⟩
    · rw [bf_none h2] at h
      injection h with _ h; rw [cval_bad] at h; cases h
    · rw [bf_some h2] at h; dsimp only at h ⊢
      injection h with h3 h4
      have hv : rval k l2 = some (c.v, l') := by
        refine val_bwd ?_ hf
        rw [← h3, ← h4]
      rw [hv, ← h3]
      rfl
theorem ccells_none : ∀ n : Nat, ccells n none = ([], none)
  | 0 => rfl
  | _ + 1 => rfl
theorem cells_fwd : ∀ (n : Nat) (l l' : List UInt8) (cs : List C), rcells n l = some (cs, l') → (∀ c ∈ cs, fillB c.v = true) → ccells n (some l) = (cs, some l')
  | 0, l, l', cs, h, _ => by
    rw [rcells] at h; injection h with h; injection h with h1 h2
    rw [ccells, h1, h2]
  | n + 1, l, l', cs, h, hf => by
    rw [rcells] at h
    rcases hc : rcell l with _ | ⟨c, l1⟩
    · rw [hc] at h; cases h
    · rw [hc] at h; dsimp only at h
      rcases hr : rcells n l1 with _ | ⟨cs1, l2⟩
      · rw [hr] at h; cases h
      · rw [hr] at h
        injection h with h; injection h with h1 h2
        dsimp only at h1 h2
        subst h1; subst h2
        rw [ccells, cell_fwd hc (hf c (by simp))]
        dsimp only
        rw [cells_fwd n l1 l2 cs1 hr (fun d hd => hf d (by simp [hd]))]
theorem cells_bwd : ∀ (n : Nat) (l l' : List UInt8) (cs : List C), ccells n (some l) = (cs, some l') → (∀ c ∈ cs, fillB c.v = true) → rcells n l = some (cs, l')
  | 0, l, l', cs, h, _ => by
    rw [ccells] at h; injection h with h1 h2; injection h2 with h2
    rw [rcells, h1, h2]
  | n + 1, l, l', cs, h, hf => by
    rw [ccells] at h
    injection h with h1 h2
    rcases hc : (ccell (some l)).2 with _ | l1
    · rw [hc, ccells_none] at h2; cases h2
    · rw [hc] at h1 h2
      have e1 : ccell (some l) = ((ccell (some l)).1, some l1) := by rw [← hc]
      have hc2 : rcell l = some ((ccell (some l)).1, l1) := cell_bwd e1 (hf _ (by rw [← h1]; simp))
      have hr : rcells n l1 = some ((ccells n (some l1)).1, l') := cells_bwd n l1 l' _ (by rw [← h2]) (fun d hd => hf d (by rw [← h1]; simp [hd]))
      rw [rcells, hc2]
      dsimp only
      rw [hr, ← h1]; rfl
theorem rcells_len : ∀ (n : Nat) (l l' : List UInt8) (cs : List C), rcells n l = some (cs, l') → cs.length = n ∧ n + l'.length ≤ l.length
  | 0, l, l', cs, h => by
    rw [rcells] at h; injection h with h; injection h with h1 h2
    rw [← h1, ← h2]; simp
  | n + 1, l, l', cs, h => by
    rw [rcells] at h
    rcases hc : rcell l with _ | ⟨c, l1⟩
    · rw [hc] at h; cases h
    · rw [hc] at h; dsimp only at h
      rcases hr : rcells n l1 with _ | ⟨cs1, l2⟩
      · rw [hr] at h; cases h
      · rw [hr] at h
        injection h with h; injection h with h1 h2
        dsimp only at h1 h2
        subst h1; subst h2
        have := rcells_len n l1 l2 cs1 hr
        have := rcell_len hc
        exact ⟨by simp; omega, by omega⟩
/-- THE TWO WAYS AGREE -/
theorem par_eq (l : List UInt8) : cpar l = rpar l := by
  have hnone : ∀ n : Nat, ¬ ((ccells n none).2 = some [] ∧ right (ccells n none).1 = true) := fun n => by rw [ccells_none]; simp
  rcases hn : rnum l with _ | ⟨n, l1⟩
  · unfold cpar rpar; rw [btw_r, hn]; dsimp only
    rw [if_neg (hnone _)]
  · have hl := rnum_len hn
    by_cases h0 : n < 0
    · have hb : btw 0 (l.length : Nat) (some l) = (0, none) := by rw [btw_r, hn]; dsimp only; rw [if_pos (.inl h0)]
      unfold cpar rpar; rw [hb, hn]; dsimp only
      rw [if_pos h0, if_neg (hnone _)]
    · by_cases h1 : (l.length : Int) < n
      · have hr : rcells n.toNat l1 = none := by
          rcases hr : rcells n.toNat l1 with _ | ⟨cs, l2⟩
          · rfl
          · have := rcells_len _ _ _ _ hr; omega
        have hb : btw 0 (l.length : Nat) (some l) = (0, none) := by rw [btw_r, hn]; dsimp only; rw [if_pos (.inr h1)]
        unfold cpar rpar; rw [hb, hn]; dsimp only
        rw [if_neg h0, hr, if_neg (hnone _)]
      · have hb : btw 0 (l.length : Nat) (some l) = (n, some l1) := by rw [btw_r, hn]; dsimp only; rw [if_neg (by omega)]
        unfold cpar rpar
        rw [hb, hn]; dsimp only
        rw [if_neg h0]
        by_cases H : (ccells n.toNat (some l1)).2 = some [] ∧ right (ccells n.toNat (some l1)).1 = true
        · rw [if_pos H]
          have hr : rcells n.toNat l1 = some ((ccells n.toNat (some l1)).1, []) := cells_bwd _ _ _ _ (by rw [← H.1]) (fun c hc => rgt_fill H.2 c hc)
          rw [hr]; dsimp only
          rw [if_pos ⟨rfl, H.2⟩]
        · rw [if_neg H]
          rcases hr : rcells n.toNat l1 with _ | ⟨cs, l2⟩
          · rfl
          · dsimp only
            rw [if_neg]
            rintro ⟨rfl, hr2⟩
            have := cells_fwd _ _ _ _ hr (fun c hc => rgt_fill hr2 c hc)
            rw [this] at H
            exact H ⟨rfl, hr2⟩

/-! ### what was written is read -/
theorem bf_enc (n : Int) (r : List UInt8) (h : Wm.inR n) : bf (some (Wm.enc n ++ r)) = (n, some r) := number_some n r h
theorem bstr_toList (s : ByteArray) : bstr s.data.toList = s := by
  obtain ⟨d⟩ := s
  unfold bstr; simp
theorem scB_in {u : Int} (h : scB u = true) : Wm.inR u := by
  unfold scB at h; simp at h; unfold Wm.inR; omega
theorem val_back {v : Vm.Cl} (h : fillB v = true) (hn : Wm.inR v.n) (r : List UInt8) : bf (some (valB v ++ r)) = (v.k, (bf (some (valB v ++ r))).2) ∧ cval v.k (bf (some (valB v ++ r))).2 = (v, some r) := by
  obtain ⟨k, n, sc, s⟩ := v
  dsimp only at hn
  rcases fill_cases h with ⟨h1, h2, h3, h4⟩ | ⟨h1, h3, h4⟩ | ⟨h1, h3, h4⟩ | ⟨h1, h2, h3, h4⟩
  · dsimp only at h1 h2 h3 h4
    subst h1; subst h3; subst h4
    have e : valB ⟨1, n, 0, ⟨#[]⟩⟩ ++ r = Wm.enc 1 ++ (Wm.enc n ++ r) := by unfold valB; rw [if_pos (.inl rfl), List.append_assoc]
    rw [e, bf_enc _ _ (by unfold Wm.inR; omega)]
    refine ⟨rfl, ?_⟩
    dsimp only
    have hb : btw 0 1 (some (Wm.enc n ++ r)) = (n, some r) := by rw [btw_enc _ _ _ _ hn, if_neg (by omega)]
    unfold cval
    rw [if_pos rfl, hb]
    rcases h2 with rfl | rfl <;> rfl
  · dsimp only at h1 h3 h4
    subst h1; subst h3; subst h4
    have e : valB ⟨2, n, 0, ⟨#[]⟩⟩ ++ r = Wm.enc 2 ++ (Wm.enc n ++ r) := by unfold valB; rw [if_pos (.inr rfl), List.append_assoc]
    rw [e, bf_enc _ _ (by unfold Wm.inR; omega)]
    refine ⟨rfl, ?_⟩
    dsimp only
    unfold cval
    rw [if_neg (by omega), if_pos rfl, bf_enc _ _ hn]
  · dsimp only at h1 h3 h4
    subst h1; subst h4
    have e : valB ⟨3, n, sc, ⟨#[]⟩⟩ ++ r = Wm.enc 3 ++ (Wm.enc sc ++ (Wm.enc n ++ r)) := by unfold valB; rw [if_neg (by simp), if_pos rfl, List.append_assoc, List.append_assoc]
    rw [e, bf_enc _ _ (by unfold Wm.inR; omega)]
    refine ⟨rfl, ?_⟩
    dsimp only
    unfold cval
    rw [if_neg (by omega), if_neg (by omega), if_pos rfl, bf_enc _ _ (scB_in h3)]
    dsimp only
    rw [bf_enc _ _ hn]
  · dsimp only at h1 h2 h3 h4
    subst h2; subst h3
    have e : valB ⟨k, 0, 0, s⟩ ++ r = Wm.enc k ++ (tx s ++ r) := by unfold valB; rw [if_neg (by dsimp only; omega), if_neg (by dsimp only; omega), List.append_assoc]
    rw [e, bf_enc _ _ (by unfold Wm.inR; omega)]
    refine ⟨rfl, ?_⟩
    dsimp only
    unfold cval
    rw [if_neg (by omega), if_neg (by omega), if_neg (by omega), if_pos h1, rtext_some _ _ (by omega), bstr_toList]
theorem cell_back {c : C} (h : fillB c.v = true) (hc : Wm.inR c.col) (hn : Wm.inR c.v.n) (r : List UInt8) : ccell (some (cellB c ++ r)) = (c, some r) := by
  obtain ⟨h1, h2⟩ := val_back h hn r
  unfold ccell cellB
  rw [List.append_assoc, bf_enc _ _ hc]
  dsimp only
  have e : (bf (some (valB c.v ++ r))).1 = c.v.k := by rw [h1]
  rw [e, h2]
theorem cells_back : ∀ (cs : List C) (r : List UInt8), (∀ c ∈ cs, fillB c.v = true ∧ Wm.inR c.col ∧ Wm.inR c.v.n) → ccells cs.length (some (cs.flatMap cellB ++ r)) = (cs, some r)
  | [], r, _ => rfl
  | c :: cs, r, h => by
    obtain ⟨h1, h2, h3⟩ := h c (by simp)
    rw [List.length_cons, ccells, List.flatMap_cons, List.append_assoc, cell_back h1 h2 h3]
    dsimp only
    rw [cells_back cs r (fun d hd => h d (by simp [hd]))]
theorem cellB_pos (c : C) : 0 < (cellB c).length := by
  unfold cellB; rw [List.length_append]; have := Wm.enc_length_pos c.col; omega
theorem cells_pos : ∀ cs : List C, cs.length ≤ (cs.flatMap cellB).length
  | [] => Nat.le_refl _
  | c :: cs => by
    rw [List.flatMap_cons, List.length_append, List.length_cons]
    have := cellB_pos c; have := cells_pos cs; omega
theorem parse_put {cs : List C} (h : right cs = true) (hi : ∀ c ∈ cs, Wm.inR c.col ∧ Wm.inR c.v.n) (hl : cs.length ≤ 1000000) : cpar (put cs) = some cs := by
  have hb : btw 0 ((put cs).length : Nat) (some (put cs)) = ((cs.length : Int), some (cs.flatMap cellB)) := by
    have hp := cells_pos cs
    have hq : (put cs).length = (Wm.enc (cs.length : Nat)).length + (cs.flatMap cellB).length := by unfold put; rw [List.length_append]
    have := btw_enc (cs.length : Nat) 0 ((put cs).length : Nat) (cs.flatMap cellB) (by unfold Wm.inR; omega)
    rw [if_neg (by omega)] at this
    exact this
  have hc := cells_back cs [] (fun c hc => ⟨rgt_fill h c hc, hi c hc⟩)
  rw [List.append_nil] at hc
  unfold cpar
  rw [hb]
  dsimp only
  rw [Int.toNat_natCast, hc]
  dsimp only
  rw [if_pos ⟨rfl, h⟩]
theorem valB_len {v : Vm.Cl} (h : fillB v = true) (hn : Wm.inR v.n) : (valB v).length ≤ 250 := by
  have hn9 := Wm.enc_length_le v.n hn
  unfold valB
  rw [List.length_append]
  rcases fill_cases h with ⟨h1, _⟩ | ⟨h1, _⟩ | ⟨h1, h3, _⟩ | ⟨h1, _, _, h4⟩
  · have := Wm.enc_length_le v.k (by unfold Wm.inR; omega)
    rw [if_pos (.inl h1)]; omega
  · have := Wm.enc_length_le v.k (by unfold Wm.inR; omega)
    rw [if_pos (.inr h1)]; omega
  · have := Wm.enc_length_le v.k (by unfold Wm.inR; omega)
    have := Wm.enc_length_le v.sc (scB_in h3)
    rw [if_neg (by omega), if_pos h1, List.length_append]; omega
  · have := Wm.enc_length_le v.k (by unfold Wm.inR; omega)
    have := tx_le v.s (by omega)
    rw [if_neg (by omega), if_neg (by omega)]; omega
theorem put_len : ∀ {cs : List C}, (∀ c ∈ cs, fillB c.v = true ∧ Wm.inR c.col ∧ Wm.inR c.v.n) → (cs.flatMap cellB).length ≤ 260 * cs.length
  | [], _ => Nat.le_refl _
  | c :: cs, h => by
    obtain ⟨h1, h2, h3⟩ := h c (by simp)
    have := put_len (cs := cs) (fun d hd => h d (by simp [hd]))
    have h4 := valB_len h1 h3
    have h5 := Wm.enc_length_le c.col h2
    rw [List.flatMap_cons, List.length_append, List.length_cons]
    have : (cellB c).length = (Wm.enc c.col).length + (valB c.v).length := by unfold cellB; rw [List.length_append]
    omega
end Go.Proofs.YtmipomglbccjbaaDoor.Rm
