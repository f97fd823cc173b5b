/- Layer 5 in plain words: what the reading of one value meets at its end; unescaping step by step. -/
import Derived.Test.YtamclbagafcmgaaDoorKeyMath
namespace Go.Proofs.YtamclbagafcmgaaDoor.Vm
open Go.RowKit

/-- a value and a length that stand for the one at the beginning, if they are good -/
structure Tl (l : List UInt8) (c : Cl) (n : Nat) : Prop where
  big : l.length < n → next l = none
  bad : n ≤ l.length → rightB c = false → next l = none
  good : n ≤ l.length → rightB c = true → next l = some (c, n)
theorem tl_0 (r : List UInt8) : Tl (0 :: r) ⟨0, 0, 0, ⟨#[]⟩⟩ 1 :=
  ⟨fun h => by simp at h, fun _ h => by exact absurd h (by decide), fun _ _ => rfl⟩
theorem tl_1a : Tl [1] ⟨1, 0, 0, ⟨#[]⟩⟩ 2 := ⟨fun _ => rfl, fun h => by simp at h, fun h => by simp at h⟩
theorem right1 (n : Int) : rightB ⟨1, n, 0, ⟨#[]⟩⟩ = decide (n = 0 ∨ n = 1) := by
  unfold rightB
  simp
  intro _; rfl
theorem next_1 (b : UInt8) (r : List UInt8) : next (1 :: b :: r) = if b.toNat < 2 then some (⟨1, (b.toNat : Int), 0, ⟨#[]⟩⟩, 2) else none := rfl
theorem tl_1b (b : UInt8) (r : List UInt8) : Tl (1 :: b :: r) ⟨1, (b.toNat : Int), 0, ⟨#[]⟩⟩ 2 := by
  refine ⟨fun h => by rw [List.length_cons, List.length_cons] at h; omega, fun _ h => ?_, fun _ h => ?_⟩
  · rw [right1] at h
    rw [next_1, if_neg]
    simp at h; omega
  · rw [right1] at h
    rw [next_1, if_pos]
    simp at h; omega
theorem next_2 (r : List UInt8) : next (2 :: r) = if r.length < 8 then none else some (⟨2, (Wm.val (r.take 8) : Int) - 9223372036854775808, 0, ⟨#[]⟩⟩, 9) := rfl
theorem tl_2 (r : List UInt8) (h8 : 8 ≤ r.length) : Tl (2 :: r) ⟨2, (Wm.val (r.take 8) : Int) - 9223372036854775808, 0, ⟨#[]⟩⟩ 9 := by
  have e : next (2 :: r) = some (⟨2, (Wm.val (r.take 8) : Int) - 9223372036854775808, 0, ⟨#[]⟩⟩, 9) := by rw [next_2, if_neg (by omega)]
  refine ⟨fun h => ?_, fun _ h => ?_, fun _ h => e⟩
  · rw [List.length_cons] at h; omega
  · have := (next_some _ _ _ e).1
    rw [h] at this; cases this
theorem next_3 (b : UInt8) (t : List UInt8) : next (3 :: b :: t) = if t.length < 8 ∨ 6 < b.toNat then none else some (⟨3, (Wm.val (t.take 8) : Int) - 9223372036854775808, (b.toNat : Int), ⟨#[]⟩⟩, 10) := rfl
theorem right3 (n sc : Int) : rightB ⟨3, n, sc, ⟨#[]⟩⟩ = scB sc := by
  unfold rightB; simp
  intro _; rfl
theorem tl_3 (b : UInt8) (t : List UInt8) (h8 : 8 ≤ t.length) : Tl (3 :: b :: t) ⟨3, (Wm.val (t.take 8) : Int) - 9223372036854775808, (b.toNat : Int), ⟨#[]⟩⟩ 10 := by
  refine ⟨fun h => ?_, fun _ h => ?_, fun _ h => ?_⟩
  · rw [List.length_cons, List.length_cons] at h; omega
  · rw [right3] at h
    rw [next_3, if_pos]
    right
    unfold scB at h; simp at h; omega
  · rw [right3] at h
    rw [next_3, if_neg]
    have := scB_true h
    omega
theorem next_3s (r : List UInt8) (h : r.length < 9) : next (3 :: r) = none := by
  cases r with
  | nil => rfl
  | cons b t => rw [List.length_cons] at h; rw [next_3, if_pos (.inl (by omega))]
theorem next_x (k : UInt8) (r : List UInt8) (h : 6 ≤ k.toNat) : next (k :: r) = none := by
  have hk : ∀ m : UInt8, m.toNat < 6 → k ≠ m := by intro m hm e; rw [e] at h; omega
  show nextC k r = none
  unfold nextC
  rw [if_neg (hk 0 (by decide)), if_neg (hk 1 (by decide)), if_neg (hk 2 (by decide)), if_neg (hk 3 (by decide)), if_neg (hk 4 (by decide)), if_neg (hk 5 (by decide))]
theorem tl_x (k : UInt8) (r : List UInt8) (h : 6 ≤ k.toNat) : Tl (k :: r) ⟨(k.toNat : Int), 0, 0, ⟨#[]⟩⟩ 1 := by
  refine ⟨fun _ => next_x k r h, fun _ _ => next_x k r h, fun _ hr => ?_⟩
  have : rightB ⟨(k.toNat : Int), 0, 0, ⟨#[]⟩⟩ = false := by
    unfold rightB
    rw [if_neg (by show (k.toNat : Int) ≠ 0; omega), if_neg (by show (k.toNat : Int) ≠ 1; omega), if_neg (by show (k.toNat : Int) ≠ 2; omega), if_neg (by show (k.toNat : Int) ≠ 3; omega), if_neg (by show (k.toNat : Int) ≠ 4; omega), if_neg (by show (k.toNat : Int) ≠ 5; omega)]
  rw [this] at hr; cases hr

/-- how far the unescaping has come -/
def Un (r : List UInt8) (i : Nat) (t : List UInt8) : Prop := unesc0 r = (unesc0 (r.drop i)).map (fun p => (t ++ p.1, p.2 + i))
theorem un_start (r : List UInt8) : Un r 0 [] := by
  unfold Un
  rw [List.drop_zero]
  cases unesc0 r with
  | none => rfl
  | some p => rfl
theorem drop_two {r : List UInt8} {i : Nat} (h : i + 1 < r.length) : r.drop i = r[i] :: r[i + 1] :: r.drop (i + 2) := by
  rw [List.drop_eq_getElem_cons (by omega), List.drop_eq_getElem_cons (by omega)]
theorem unesc0_two (c d : UInt8) (r : List UInt8) : unesc0 (c :: d :: r) = if c = 0 then (if d = 1 then some ([], 2) else if d = 255 then (unesc0 r).map (fun p => (0 :: p.1, p.2 + 2)) else none) else (unesc0 (d :: r)).map (fun p => (c :: p.1, p.2 + 1)) := by rw [unesc0]
theorem un_one {r : List UInt8} {i : Nat} {t : List UInt8} (h : Un r i t) (hi : i + 1 < r.length) (h0 : r[i] ≠ 0) : Un r (i + 1) (t ++ [r[i]]) := by
  unfold Un at h ⊢
  rw [h, drop_two hi, unesc0_two, if_neg h0, show r.drop (i + 1) = r[i + 1] :: r.drop (i + 2) by rw [List.drop_eq_getElem_cons (by omega)]]
  cases unesc0 (r[i + 1] :: r.drop (i + 2)) with
  | none => rfl
  | some p => simp; omega
theorem un_zero {r : List UInt8} {i : Nat} {t : List UInt8} (h : Un r i t) (hi : i + 1 < r.length) (h0 : r[i] = 0) (h1 : r[i + 1] = 255) : Un r (i + 2) (t ++ [0]) := by
  unfold Un at h ⊢
  rw [h, drop_two hi, unesc0_two, if_pos h0, if_neg (by rw [h1]; decide), if_pos h1]
  cases unesc0 (r.drop (i + 2)) with
  | none => rfl
  | some p => simp; omega
theorem un_bad {r : List UInt8} {i : Nat} {t : List UInt8} (h : Un r i t) (hi : i + 1 < r.length) (h0 : r[i] = 0) (h1 : r[i + 1] ≠ 1) (h2 : r[i + 1] ≠ 255) : unesc0 r = none := by
  unfold Un at h
  rw [h, drop_two hi, unesc0_two, if_pos h0, if_neg h1, if_neg h2]; rfl
theorem un_end {r : List UInt8} {i : Nat} {t : List UInt8} (h : Un r i t) (hi : i + 1 < r.length) (h0 : r[i] = 0) (h1 : r[i + 1] = 1) : unesc0 r = some (t, i + 2) := by
  unfold Un at h
  rw [h, drop_two hi, unesc0_two, if_pos h0, if_pos h1]
  simp; omega
theorem un_short {r : List UInt8} {i : Nat} {t : List UInt8} (h : Un r i t) (hi : r.length ≤ i + 1) : unesc0 r = none := by
  unfold Un at h
  rw [h]
  have hl : (r.drop i).length ≤ 1 := by rw [List.length_drop]; omega
  revert hl
  generalize r.drop i = x
  intro hl
  match x, hl with
  | [], _ => rfl
  | [_], _ => rfl
theorem next_t (k : UInt8) (hk : k = 4 ∨ k = 5) (r : List UInt8) : next (k :: r) = match unesc0 r with
  | none => none
  | some (t, n) => if rightB ⟨(k.toNat : Int), 0, 0, ⟨t.toArray⟩⟩ then some (⟨(k.toNat : Int), 0, 0, ⟨t.toArray⟩⟩, n + 1) else none := by
  rcases hk with rfl | rfl <;> rfl
theorem next_tn (k : UInt8) (hk : k = 4 ∨ k = 5) (r : List UInt8) (h : unesc0 r = none) : next (k :: r) = none := by
  rw [next_t k hk, h]
theorem tl_short (k : UInt8) (hk : k = 4 ∨ k = 5) (r : List UInt8) (i : Nat) (t : List UInt8) (c : Cl) (h : Un r i t) (hi : r.length ≤ i + 1) : Tl (k :: r) c (i + 3) := by
  have e := next_tn k hk r (un_short h hi)
  refine ⟨fun _ => e, fun _ _ => e, fun h => ?_⟩
  rw [List.length_cons] at h; omega
theorem tl_end (k : UInt8) (hk : k = 4 ∨ k = 5) (r : List UInt8) (i : Nat) (t : List UInt8) (h : Un r i t) (hi : i + 1 < r.length) (h0 : r[i] = 0) (h1 : r[i + 1] = 1) : Tl (k :: r) ⟨(k.toNat : Int), 0, 0, ⟨t.toArray⟩⟩ (i + 3) := by
  have e := next_t k hk r
  rw [un_end h hi h0 h1] at e
  dsimp only at e
  refine ⟨fun h => ?_, fun _ hr => ?_, fun _ hr => ?_⟩
  · rw [List.length_cons] at h; omega
  · rw [e, hr]; rfl
  · rw [e, hr]; rfl
/-- the answer of Next in the reference -/
def nxt (l : List UInt8) : Cl × Nat := match next l with | none => (nil, 0) | some p => p
theorem nxt_none {l : List UInt8} (h : next l = none) : nxt l = (nil, 0) := by unfold nxt; rw [h]
theorem nxt_some {l : List UInt8} {p : Cl × Nat} (h : next l = some p) : nxt l = p := by unfold nxt; rw [h]
theorem above_len : ∀ l : List UInt8, (above l).length ≤ l.length
  | [] => Nat.le_refl _
  | c :: r => by
    have h := above_len r
    rw [above]
    revert h
    cases above r with
    | nil =>
      intro _
      dsimp only
      split
      · simp
      · simp
    | cons x t =>
      intro h
      dsimp only
      simp only [List.length_cons] at h ⊢
      omega
theorem i64_z : i64 0 := ⟨by decide, by decide⟩
/-- a number's bytes, read one after another -/
theorem val_next (l : List UInt8) (m : Nat) (h : m < l.length) : Wm.val (l.take (m + 1)) = 256 * Wm.val (l.take m) + l[m].toNat := by
  rw [← List.take_append_getElem h, Wm.val_snoc]; omega
theorem val_b7 (l : List UInt8) (m : Nat) (h : m ≤ 7) : Wm.val (l.take m) ≤ 72057594037927935 := by
  have h1 := Wm.val_lt (l.take m)
  have h2 : (l.take m).length ≤ 7 := by rw [List.length_take]; omega
  have h3 := Nat.pow_le_pow_right (n := 256) (by omega) h2
  omega
theorem val_b8 (l : List UInt8) : (Wm.val (l.take 8) : Int) < 18446744073709551616 := by
  have h1 := Wm.val_lt (l.take 8)
  have h2 : (l.take 8).length ≤ 8 := by rw [List.length_take]; omega
  have h3 := Nat.pow_le_pow_right (n := 256) (by omega) h2
  omega
theorem i64_val (V : Int) (h0 : 0 ≤ V) (h : V < 18446744073709551616) : i64 (V - 9223372036854775808) := ⟨by omega, by omega⟩
end Go.Proofs.YtamclbagafcmgaaDoor.Vm
