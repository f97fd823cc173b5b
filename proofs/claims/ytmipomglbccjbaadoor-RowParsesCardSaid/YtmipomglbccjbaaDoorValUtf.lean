/- Which bytes are UTF-8, in plain words: as the reference of layer 3 goes through them. -/
import Derived.Lib.ValidLaws
namespace Go.Proofs.YtmipomglbccjbaaDoor.Um
open Go.Lib

/-- one step: how many bytes a character has; none: no character begins here -/
def uN (n b0 b1 b2 b3 : Nat) : Option Nat :=
  if b0 < 128 then some 1
  else if b0 < 192 then none
  else if b0 < 224 then
    (if n < 2 ∨ b1 < 128 ∨ 191 < b1 then none
     else if 64 * (b0 - 192) + (b1 - 128) < 128 then none else some 2)
  else if b0 < 240 then
    (if n < 3 ∨ b1 < 128 ∨ 191 < b1 ∨ b2 < 128 ∨ 191 < b2 then none
     else if 64 * (64 * (b0 - 224) + (b1 - 128)) + (b2 - 128) < 2048 ∨ (55296 ≤ 64 * (64 * (b0 - 224) + (b1 - 128)) + (b2 - 128) ∧ 64 * (64 * (b0 - 224) + (b1 - 128)) + (b2 - 128) < 57344) then none else some 3)
  else if b0 < 248 then
    (if n < 4 ∨ b1 < 128 ∨ 191 < b1 ∨ b2 < 128 ∨ 191 < b2 ∨ b3 < 128 ∨ 191 < b3 then none
     else if 64 * (64 * (64 * (b0 - 240) + (b1 - 128)) + (b2 - 128)) + (b3 - 128) < 65536 ∨ 1114111 < 64 * (64 * (64 * (b0 - 240) + (b1 - 128)) + (b2 - 128)) + (b3 - 128) then none else some 4)
  else none
set_option maxRecDepth 100000 in
set_option maxHeartbeats 8000000 in
theorem u_decode (n b0 b1 b2 b3 : Nat) (_hn : 1 ≤ n) (h0 : b0 < 256) (h1 : b1 < 256) (h2 : b2 < 256) (h3 : b3 < 256) :
    (uN n b0 b1 b2 b3 = none ∧ decodeN n b0 b1 b2 b3 = (65533, 1)) ∨ ∃ k, uN n b0 b1 b2 b3 = some k ∧ (decodeN n b0 b1 b2 b3).2 = k ∧ ¬ ((decodeN n b0 b1 b2 b3).1 = 65533 ∧ (decodeN n b0 b1 b2 b3).2 = 1) := by
  by_cases c0 : b0 < 128
  · right; refine ⟨1, by simp [uN, c0], by simp [decodeN, c0], by simp [decodeN, c0]; omega⟩
  by_cases c1 : b0 < 192
  · left; refine ⟨by simp [uN, c0, c1], decodeN_bad n b0 b1 b2 b3 (.inl ⟨by omega, by omega⟩)⟩
  by_cases c2 : b0 < 224
  · by_cases d1 : n < 2 ∨ b1 < 128 ∨ 191 < b1
    · left
      constructor
      · unfold uN; rw [if_neg c0, if_neg c1, if_pos c2, if_pos d1]
      · unfold decodeN; rw [if_neg c0, if_neg (by omega), if_neg (by omega), if_neg (by omega)]
    · have hu : uN n b0 b1 b2 b3 = if 64 * (b0 - 192) + (b1 - 128) < 128 then none else some 2 := by unfold uN; rw [if_neg c0, if_neg c1, if_pos c2, if_neg d1]
      have hd : decodeN n b0 b1 b2 b3 = if b0 % 32 * 64 + b1 % 64 ≥ 128 then (b0 % 32 * 64 + b1 % 64, 2) else (65533, 1) := by
        unfold decodeN; rw [if_neg c0, if_pos ⟨by omega, by omega, by omega⟩]
      rw [hu, hd]
      by_cases e1 : 64 * (b0 - 192) + (b1 - 128) < 128
      · left; rw [if_pos e1, if_neg (by omega)]; exact ⟨rfl, rfl⟩
      · right; rw [if_neg e1, if_pos (by omega)]; exact ⟨2, rfl, rfl, fun h => by simp at h⟩
  by_cases c3 : b0 < 240
  · by_cases d1 : n < 3 ∨ b1 < 128 ∨ 191 < b1 ∨ b2 < 128 ∨ 191 < b2
    · left
      constructor
      · unfold uN; rw [if_neg c0, if_neg c1, if_neg c2, if_pos c3, if_pos d1]
      · unfold decodeN; rw [if_neg c0, if_neg (by omega), if_neg (by omega), if_neg (by omega)]
    · have e0 : b0 % 16 * 4096 + b1 % 64 * 64 + b2 % 64 = 64 * (64 * (b0 - 224) + (b1 - 128)) + (b2 - 128) := by omega
      obtain ⟨x, hx⟩ : ∃ x, 64 * (64 * (b0 - 224) + (b1 - 128)) + (b2 - 128) = x := ⟨_, rfl⟩
      rw [hx] at e0
      have hu : uN n b0 b1 b2 b3 = if x < 2048 ∨ (55296 ≤ x ∧ x < 57344) then none else some 3 := by
        unfold uN; rw [if_neg c0, if_neg c1, if_neg c2, if_pos c3, if_neg d1, hx]
      have hd : decodeN n b0 b1 b2 b3 = if x ≥ 2048 ∧ (x < 55296 ∨ (57344 ≤ x ∧ x ≤ 1114111)) then (x, 3) else (65533, 1) := by
        unfold decodeN; rw [if_neg c0, if_neg (by omega), if_pos ⟨by omega, ⟨by omega, by omega⟩, by omega, by omega⟩, e0]
      have hx2 : x < 65536 := by omega
      rw [hu, hd]
      by_cases e1 : x < 2048 ∨ (55296 ≤ x ∧ x < 57344)
      · left; rw [if_pos e1, if_neg (by omega)]; exact ⟨rfl, rfl⟩
      · right; rw [if_neg e1, if_pos (by omega)]; exact ⟨3, rfl, rfl, fun h => by simp at h⟩
  by_cases c4 : b0 < 248
  · by_cases d1 : n < 4 ∨ b1 < 128 ∨ 191 < b1 ∨ b2 < 128 ∨ 191 < b2 ∨ b3 < 128 ∨ 191 < b3
    · left
      constructor
      · unfold uN; rw [if_neg c0, if_neg c1, if_neg c2, if_neg c3, if_pos c4, if_pos d1]
      · unfold decodeN; rw [if_neg c0, if_neg (by omega), if_neg (by omega), if_neg (by omega)]
    · have e0 : b0 % 8 * 262144 + b1 % 64 * 4096 + b2 % 64 * 64 + b3 % 64 = 64 * (64 * (64 * (b0 - 240) + (b1 - 128)) + (b2 - 128)) + (b3 - 128) := by omega
      obtain ⟨x, hx⟩ : ∃ x, 64 * (64 * (64 * (b0 - 240) + (b1 - 128)) + (b2 - 128)) + (b3 - 128) = x := ⟨_, rfl⟩
      rw [hx] at e0
      have hu : uN n b0 b1 b2 b3 = if x < 65536 ∨ 1114111 < x then none else some 4 := by
        unfold uN; rw [if_neg c0, if_neg c1, if_neg c2, if_neg c3, if_pos c4, if_neg d1, hx]
      have hd : decodeN n b0 b1 b2 b3 = if x ≥ 65536 ∧ (x < 55296 ∨ (57344 ≤ x ∧ x ≤ 1114111)) then (x, 4) else (65533, 1) := by
        unfold decodeN; rw [if_neg c0, if_neg (by omega), if_neg (by omega), if_pos ⟨by omega, ⟨by omega, by omega⟩, ⟨by omega, by omega⟩, by omega, by omega⟩, e0]
      rw [hu, hd]
      by_cases e1 : x < 65536 ∨ 1114111 < x
      · left; rw [if_pos e1, if_neg (by omega)]; exact ⟨rfl, rfl⟩
      · right; rw [if_neg e1, if_pos (by omega)]; exact ⟨4, rfl, rfl, fun h => by simp at h⟩
  · left
    refine ⟨by simp [uN, c0, c1, c2, c3, c4], decodeN_bad n b0 b1 b2 b3 (.inr ⟨by omega, h0⟩)⟩
theorem u_step (l : List UInt8) (hne : l ≠ []) : validD l = match uN l.length (l.getD 0 0).toNat (l.getD 1 0).toNat (l.getD 2 0).toNat (l.getD 3 0).toNat with
    | none => false
    | some k => validD (l.drop k) := by
  have hl : 0 < l.length := List.length_pos_iff.2 hne
  rw [validD_step l hne, decodeL_N]
  rcases u_decode l.length (l.getD 0 0).toNat (l.getD 1 0).toNat (l.getD 2 0).toNat (l.getD 3 0).toNat hl (l.getD 0 0).toNat_lt (l.getD 1 0).toNat_lt (l.getD 2 0).toNat_lt (l.getD 3 0).toNat_lt with ⟨hc, hd⟩ | ⟨k, hc, hd, hx⟩
  · rw [hc, hd]; simp
  · rw [hc, if_neg hx, hd]
/-- the byte at a place, as a number -/
def at_ (s : ByteArray) (i : Nat) : Nat := (s.data.toList.getD i 0).toNat
theorem at_get (s : ByteArray) (i : Nat) (h : i < s.size) : at_ s i = (s[i]).toNat := by
  unfold at_
  have : s.data.toList.getD i 0 = s[i] := by
    have h2 : i < s.data.toList.length := by simpa using h
    simp only [List.getD, List.getElem?_eq_getElem h2, Option.getD_some]; rfl
  rw [this]
/-- what is left to ask behind a character -/
def nx (s : ByteArray) (i : Nat) : Option Nat → Bool
  | none => false
  | some k => validD (s.data.toList.drop (i + k))
theorem nx_none (s : ByteArray) (i : Nat) : nx s i none = false := rfl
theorem nx_some (s : ByteArray) (i k : Nat) : nx s i (some k) = validD (s.data.toList.drop (i + k)) := rfl
theorem u_at (s : ByteArray) (i : Nat) (h : i < s.size) : validD (s.data.toList.drop i) = nx s i (uN (s.size - i) (at_ s i) (at_ s (i + 1)) (at_ s (i + 2)) (at_ s (i + 3))) := by
  have hne : s.data.toList.drop i ≠ [] := by
    intro e
    have := congrArg List.length e
    simp at this
    have h2 : s.data.size = s.size := rfl
    omega
  have hg : ∀ j, (s.data.toList.drop i).getD j 0 = s.data.toList.getD (i + j) 0 := by
    intro j; simp [List.getD]
  rw [u_step _ hne, hg 0, hg 1, hg 2, hg 3]
  simp only [List.drop_drop, List.length_drop, Array.length_toList]
  show (match uN (s.size - i) (at_ s i) (at_ s (i + 1)) (at_ s (i + 2)) (at_ s (i + 3)) with | none => false | some k => validD (s.data.toList.drop (i + k))) = _
  cases uN (s.size - i) (at_ s i) (at_ s (i + 1)) (at_ s (i + 2)) (at_ s (i + 3)) <;> rfl
/-- the bytes that follow, taken in one after another -/
def cv (s : ByteArray) (i x0 : Nat) : Nat → Nat
  | 0 => x0
  | q + 1 => 64 * cv s i x0 q + (at_ s (i + 1 + q) - 128)
def good (s : ByteArray) (i q : Nat) : Prop := ∀ j, j < q → 128 ≤ at_ s (i + 1 + j) ∧ at_ s (i + 1 + j) ≤ 191
theorem good_zero (s : ByteArray) (i : Nat) : good s i 0 := fun j h => by omega
theorem good_succ {s : ByteArray} {i q : Nat} (h : good s i q) (h1 : 128 ≤ at_ s (i + 1 + q)) (h2 : at_ s (i + 1 + q) ≤ 191) : good s i (q + 1) := by
  intro j hj
  by_cases e : j = q
  · subst e; exact ⟨h1, h2⟩
  · exact h j (by omega)
theorem cv_zero (s : ByteArray) (i x0 : Nat) : cv s i x0 0 = x0 := rfl
theorem cv_succ (s : ByteArray) (i x0 q : Nat) : cv s i x0 (q + 1) = 64 * cv s i x0 q + (at_ s (i + 1 + q) - 128) := rfl
theorem cv_le (s : ByteArray) (i x0 q : Nat) (h : good s i q) (hx : x0 ≤ 31) (hq : q ≤ 3) : cv s i x0 q ≤ 8388607 := by
  have step : ∀ r B, r < q → cv s i x0 r ≤ B → cv s i x0 (r + 1) ≤ 64 * B + 63 := by
    intro r B hr hB
    have := h r hr
    rw [cv_succ]; omega
  rcases (show q = 0 ∨ q = 1 ∨ q = 2 ∨ q = 3 by omega) with rfl | rfl | rfl | rfl
  · rw [cv_zero]; omega
  · exact Nat.le_trans (step 0 31 (by omega) (by rw [cv_zero]; exact hx)) (by decide)
  · exact Nat.le_trans (step 1 2047 (by omega) (Nat.le_trans (step 0 31 (by omega) (by rw [cv_zero]; exact hx)) (by decide))) (by decide)
  · exact Nat.le_trans (step 2 131071 (by omega) (Nat.le_trans (step 1 2047 (by omega) (Nat.le_trans (step 0 31 (by omega) (by rw [cv_zero]; exact hx)) (by decide))) (by decide))) (by decide)
theorem cv_b1 (s : ByteArray) (i x0 : Nat) (h : good s i 1) : cv s i x0 1 ≤ 64 * x0 + 63 := by
  have := h 0 (by omega)
  rw [cv_succ, cv_zero]; omega
theorem cv_b2 (s : ByteArray) (i x0 : Nat) (h : good s i 2) : cv s i x0 2 ≤ 4096 * x0 + 4095 := by
  have h1 := cv_b1 s i x0 (fun j hj => h j (by omega))
  have := h 1 (by omega)
  rw [cv_succ]; omega
theorem cv_b3 (s : ByteArray) (i x0 : Nat) (h : good s i 3) : cv s i x0 3 ≤ 262144 * x0 + 262143 := by
  have h1 := cv_b2 s i x0 (fun j hj => h j (by omega))
  have := h 2 (by omega)
  rw [cv_succ]; omega
theorem u_bad1 (s : ByteArray) (i n b0 : Nat) (h : 192 ≤ b0 ∧ b0 < 224) (q : Nat) (hq : q < 1) (hb : at_ s (i + 1 + q) < 128 ∨ 191 < at_ s (i + 1 + q)) : uN n b0 (at_ s (i + 1)) (at_ s (i + 2)) (at_ s (i + 3)) = none := by
  obtain rfl : q = 0 := by omega
  rw [Nat.add_zero] at hb
  unfold uN
  rw [if_neg (by omega), if_neg (by omega), if_pos (by omega), if_pos (by omega)]
theorem u_bad2 (s : ByteArray) (i n b0 : Nat) (h : 224 ≤ b0 ∧ b0 < 240) (q : Nat) (hq : q < 2) (hb : at_ s (i + 1 + q) < 128 ∨ 191 < at_ s (i + 1 + q)) : uN n b0 (at_ s (i + 1)) (at_ s (i + 2)) (at_ s (i + 3)) = none := by
  unfold uN
  rw [if_neg (by omega), if_neg (by omega), if_neg (by omega), if_pos (by omega), if_pos]
  rcases (show q = 0 ∨ q = 1 by omega) with rfl | rfl
  · rw [Nat.add_zero] at hb; omega
  · rw [show i + 1 + 1 = i + 2 by omega] at hb; omega
theorem u_bad3 (s : ByteArray) (i n b0 : Nat) (h : 240 ≤ b0 ∧ b0 < 248) (q : Nat) (hq : q < 3) (hb : at_ s (i + 1 + q) < 128 ∨ 191 < at_ s (i + 1 + q)) : uN n b0 (at_ s (i + 1)) (at_ s (i + 2)) (at_ s (i + 3)) = none := by
  unfold uN
  rw [if_neg (by omega), if_neg (by omega), if_neg (by omega), if_neg (by omega), if_pos (by omega), if_pos]
  rcases (show q = 0 ∨ q = 1 ∨ q = 2 by omega) with rfl | rfl | rfl
  · rw [Nat.add_zero] at hb; omega
  · rw [show i + 1 + 1 = i + 2 by omega] at hb; omega
  · rw [show i + 1 + 2 = i + 3 by omega] at hb; omega
theorem u_short1 (n b0 b1 b2 b3 : Nat) (h : 192 ≤ b0 ∧ b0 < 224) (hn : n < 2) : uN n b0 b1 b2 b3 = none := by
  unfold uN
  rw [if_neg (by omega), if_neg (by omega), if_pos (by omega), if_pos (by omega)]
theorem u_short2 (n b0 b1 b2 b3 : Nat) (h : 224 ≤ b0 ∧ b0 < 240) (hn : n < 3) : uN n b0 b1 b2 b3 = none := by
  unfold uN
  rw [if_neg (by omega), if_neg (by omega), if_neg (by omega), if_pos (by omega), if_pos (by omega)]
theorem u_short3 (n b0 b1 b2 b3 : Nat) (h : 240 ≤ b0 ∧ b0 < 248) (hn : n < 4) : uN n b0 b1 b2 b3 = none := by
  unfold uN
  rw [if_neg (by omega), if_neg (by omega), if_neg (by omega), if_neg (by omega), if_pos (by omega), if_pos (by omega)]
theorem u_good1 (s : ByteArray) (i n b0 : Nat) (h : 192 ≤ b0 ∧ b0 < 224) (hn : 2 ≤ n) (hg : good s i 1) : uN n b0 (at_ s (i + 1)) (at_ s (i + 2)) (at_ s (i + 3)) = if cv s i (b0 - 192) 1 < 128 then none else some 2 := by
  have g0 := hg 0 (by omega)
  rw [Nat.add_zero] at g0
  unfold uN
  rw [if_neg (by omega), if_neg (by omega), if_pos (by omega), if_neg (by omega)]; rfl
theorem u_good2 (s : ByteArray) (i n b0 : Nat) (h : 224 ≤ b0 ∧ b0 < 240) (hn : 3 ≤ n) (hg : good s i 2) : uN n b0 (at_ s (i + 1)) (at_ s (i + 2)) (at_ s (i + 3)) = if cv s i (b0 - 224) 2 < 2048 ∨ (55296 ≤ cv s i (b0 - 224) 2 ∧ cv s i (b0 - 224) 2 < 57344) then none else some 3 := by
  have g0 := hg 0 (by omega)
  have g1 := hg 1 (by omega)
  rw [Nat.add_zero] at g0
  rw [show i + 1 + 1 = i + 2 by omega] at g1
  unfold uN
  rw [if_neg (by omega), if_neg (by omega), if_neg (by omega), if_pos (by omega), if_neg (by omega)]; rfl
theorem u_good3 (s : ByteArray) (i n b0 : Nat) (h : 240 ≤ b0 ∧ b0 < 248) (hn : 4 ≤ n) (hg : good s i 3) : uN n b0 (at_ s (i + 1)) (at_ s (i + 2)) (at_ s (i + 3)) = if cv s i (b0 - 240) 3 < 65536 ∨ 1114111 < cv s i (b0 - 240) 3 then none else some 4 := by
  have g0 := hg 0 (by omega)
  have g1 := hg 1 (by omega)
  have g2 := hg 2 (by omega)
  rw [Nat.add_zero] at g0
  rw [show i + 1 + 1 = i + 2 by omega] at g1
  rw [show i + 1 + 2 = i + 3 by omega] at g2
  unfold uN
  rw [if_neg (by omega), if_neg (by omega), if_neg (by omega), if_neg (by omega), if_pos (by omega), if_neg (by omega)]; rfl
end Go.Proofs.YtmipomglbccjbaaDoor.Um
