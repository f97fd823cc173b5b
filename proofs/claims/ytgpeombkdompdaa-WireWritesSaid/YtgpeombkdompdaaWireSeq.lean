/- Plain facts about sequences of encoded numbers and strings: reading them, and reading what is one byte short of them. -/
import Derived.Test.YtgpeombkdompdaaWireFirst
import Derived.ProofKit
import Derived.OpenShut
namespace Go.Proofs.Ytgpeombkdompdaa
open Go.RowKit

/-- the bytes of numbers, of strings -/
def nums (l : List Int) : List UInt8 := l.flatMap Wm.enc
def tx (s : ByteArray) : List UInt8 := Wm.enc (s.size : Nat) ++ s.data.toList
def txs (l : List ByteArray) : List UInt8 := l.flatMap tx

theorem dataLen (s : ByteArray) : s.data.toList.length = s.size := by rw [Array.length_toList]; rfl
theorem nums_cons (n : Int) (l : List Int) : nums (n :: l) = Wm.enc n ++ nums l := by simp [nums]
theorem nums_snoc (l : List Int) (n : Int) : nums (l ++ [n]) = nums l ++ Wm.enc n := by simp [nums]
theorem txs_cons (s : ByteArray) (l : List ByteArray) : txs (s :: l) = tx s ++ txs l := by simp [txs]
theorem txs_snoc (l : List ByteArray) (s : ByteArray) : txs (l ++ [s]) = txs l ++ tx s := by simp [txs]
theorem tx_pos (s : ByteArray) : tx s ≠ [] := by
  intro h
  have := congrArg List.length h
  have h2 := Wm.enc_length_pos (s.size : Nat)
  simp [tx] at this
  rw [this.1] at h2; simp at h2
theorem nums_le (l : List Int) (h : ∀ n ∈ l, Wm.inR n) : (nums l).length ≤ 9 * l.length := by
  induction l with
  | nil => simp [nums]
  | cons n t ih =>
    have := ih (fun m hm => h m (by simp [hm]))
    have h2 := Wm.enc_length_le n (h n (by simp))
    rw [nums_cons]; simp only [List.length_append, List.length_cons]; omega
theorem tx_le (s : ByteArray) (h : s.size ≤ 1000000000) : (tx s).length ≤ 9 + s.size := by
  have h2 := Wm.enc_length_le (s.size : Nat) (by unfold Wm.inR; omega)
  simp only [tx, List.length_append, dataLen]; omega
theorem txs_le (l : List ByteArray) (k : Nat) (hk : k ≤ 1000000000) (h : ∀ s ∈ l, s.size ≤ k) : (txs l).length ≤ (9 + k) * l.length := by
  induction l with
  | nil => simp [txs]
  | cons s t ih =>
    have := ih (fun m hm => h m (by simp [hm]))
    have h1 := h s (by simp)
    have h2 := tx_le s (by omega)
    rw [txs_cons]; simp only [List.length_append, List.length_cons]
    have e : (9 + k) * (t.length + 1) = (9 + k) * t.length + (9 + k) := by rw [Nat.mul_add, Nat.mul_one]
    omega

/-- a number is read -/
theorem number_some (n : Int) (r : List UInt8) (h : Wm.inR n) : btw (-9223372036854775808) 9223372036854775807 (some (Wm.enc n ++ r)) = (n, some r) := by
  rw [btw_enc _ _ _ _ h, if_neg (by unfold Wm.inR at h; omega)]
theorem rtext_some (s : ByteArray) (r : List UInt8) (h : s.size ≤ 1000000000) : rtext (some (tx s ++ r)) = (s.data.toList, some r) := by
  have := rtext_enc s.data.toList r (by rw [dataLen]; exact h)
  rw [dataLen] at this
  simpa [tx] using this

theorem dropLast_append_ne {α : Type} (a b : List α) (h : b ≠ []) : (a ++ b).dropLast = a ++ b.dropLast := List.dropLast_append_of_ne_nil h

/-- a number of which the last byte lacks is not read -/
theorem number_short (n : Int) (h : Wm.inR n) : btw (-9223372036854775808) 9223372036854775807 (some (Wm.enc n).dropLast) = (0, none) := by
  have hd := Wm.dec_short n h ((Wm.enc n).length - 1) (by have := Wm.enc_length_pos n; omega)
  rw [← List.dropLast_eq_take] at hd
  simp only [btw, hd]
theorem number_last (n : Int) (r : List UInt8) (h : Wm.inR n) : (btw (-9223372036854775808) 9223372036854775807 (some (Wm.enc n ++ r).dropLast)).2 = none ∨ (r ≠ [] ∧ (btw (-9223372036854775808) 9223372036854775807 (some (Wm.enc n ++ r).dropLast)).2 = some r.dropLast) := by
  by_cases hr : r = []
  · subst hr; left; rw [List.append_nil, number_short n h]
  · right; rw [dropLast_append_ne _ _ hr, number_some n _ h]; exact ⟨hr, rfl⟩
theorem rtext_short (s : ByteArray) (h : s.size ≤ 1000000000) : (rtext (some (tx s).dropLast)).2 = none := by
  by_cases hs : s.data.toList = []
  · have h0 : (tx s).dropLast = (Wm.enc (s.size : Nat)).dropLast := by simp [tx, hs]
    rw [h0]
    have hd := Wm.dec_short (s.size : Nat) (by unfold Wm.inR; omega) ((Wm.enc (s.size : Nat)).length - 1) (by have := Wm.enc_length_pos (s.size : Nat); omega)
    rw [← List.dropLast_eq_take] at hd
    have hb : btw 0 9223372036854775807 (some (Wm.enc (s.size : Nat)).dropLast) = (0, none) := by simp only [btw, hd]
    unfold rtext; rw [hb]; rfl
  · have h0 : (tx s).dropLast = Wm.enc (s.size : Nat) ++ s.data.toList.dropLast := dropLast_append_ne _ _ hs
    have hl := dataLen s
    have hp : 0 < s.data.toList.length := List.length_pos_iff.2 hs
    have hb : btw 0 9223372036854775807 (some (Wm.enc (s.size : Nat) ++ s.data.toList.dropLast)) = ((s.size : Int), some s.data.toList.dropLast) := by
      rw [btw_enc _ _ _ _ (by unfold Wm.inR; omega), if_neg (by omega)]
    rw [h0]; unfold rtext; rw [hb]
    simp only [rt2]
    rw [if_pos (by simp only [List.length_dropLast]; omega)]
theorem rtext_last (s : ByteArray) (r : List UInt8) (h : s.size ≤ 1000000000) : (rtext (some (tx s ++ r).dropLast)).2 = none ∨ (r ≠ [] ∧ (rtext (some (tx s ++ r).dropLast)).2 = some r.dropLast) := by
  by_cases hr : r = []
  · subst hr; left; rw [List.append_nil]; exact rtext_short s h
  · right; rw [dropLast_append_ne _ _ hr, rtext_some s _ h]; exact ⟨hr, rfl⟩

/-- a slice that came in: its cells -/
def RowAt (w : World) (a : Option Addr) (len : Nat) (f : Nat → Value) : Prop :=
  len = 0 ∨ ∃ b off, a = some ⟨b, off, none⟩ ∧ b < w.heap.size ∧ ∀ j, j < len → w.cell? ⟨b, off + j, none⟩ = some (f j)

/-- BYTES THAT CAME IN: what is known of the cells alone -/
def BytC (v : Value) (l : List UInt8) (w : World) : Prop :=
  (∃ a c, v = .slice a 0 c ∧ l = []) ∨
  ∃ g off cap, v = .slice (some ⟨g, off, none⟩) l.length cap ∧ l.length ≤ cap ∧ g < w.heap.size ∧ ∀ j, j < l.length → w.cell? ⟨g, off + j, none⟩ = some (Value.int .u8 (l.getD j 0).toNat)

theorem BytC.keep {v : Value} {l : List UInt8} {w w' : World} (h : BytC v l w) (hb : Below w.heap.size w w') : BytC v l w' := by
  rcases h with h | ⟨g, off, cap, rfl, hc, hg, hcell⟩
  · exact .inl h
  · exact .inr ⟨g, off, cap, rfl, hc, by have := hb.size; omega, fun j hj => (hb.cell (p := ⟨g, off + j, none⟩) hg).trans (hcell j hj)⟩
theorem BytC.form {v : Value} {l : List UInt8} {w : World} (h : BytC v l w) : ∃ a c, v = .slice a l.length c := by
  rcases h with ⟨a, c, rfl, rfl⟩ | ⟨g, off, cap, rfl, _⟩
  · exact ⟨_, _, rfl⟩
  · exact ⟨_, _, rfl⟩
theorem BytC.src {v : Value} {l : List UInt8} {w : World} (h : BytC v l w) : Src Try.prog 1 24 v l.length (bc l) w := by
  rcases h with ⟨a, c, rfl, rfl⟩ | ⟨g, off, cap, rfl, _, _, hc⟩
  · cases a with
    | none => exact Src.ofNil w Try.underlying24 c
    | some a => exact Src.ofSlice w Try.underlying24 a 0 c [] rfl (fun j u h => by simp at h) (fun u h => by simp at h)
  · refine Src.ofSlice w Try.underlying24 ⟨g, off, none⟩ l.length cap (bc l) (by rw [bc_length]; omega) ?_ (bc_one l)
    intro j u hj
    have hjn : j < l.length := by
      have := (List.getElem?_eq_some_iff.1 hj).1
      rwa [bc_length] at this
    rw [bc_get] at hj
    have hadd : (⟨g, off, none⟩ : Addr).add j = ⟨g, off + j, none⟩ := by unfold Addr.add; split <;> simp_all
    rw [hadd, hc j hjn]
    simpa [List.getD, hjn] using hj
theorem BytC.str {v : Value} {l : List UInt8} {w : World} (h : BytC v l w) : (convert 24 9 v).run Try.prog w = .ok (.string (bstr l)) w := by
  rcases h with ⟨a, c, rfl, rfl⟩ | ⟨g, off, cap, rfl, _, _, hc⟩
  · cases a with
    | none => exact run_convert_bytes_nil w 24 5 Try.underlying24 Try.underlying5 0 c 9 Try.underlying9
    | some a =>
      rw [run_convert_bytes_string w 24 9 5 _ 0 c Try.underlying24 Try.underlying5 Try.underlying9, run_bytesToString w _ 0 c [] (by simp [loadCells, loadCellsFrom])]
      rfl
  · rw [run_convert_bytes_arg w 24 5 Try.underlying24 Try.underlying5 g off l.length cap (l.map fun b => (b.toNat : Int)) (by simp) ?_ 9 Try.underlying9]
    · have : strOfNums (l.map fun b => (b.toNat : Int)) = bstr l := by
        unfold strOfNums bstr
        congr 2
        rw [List.map_map]
        conv => rhs; rw [← List.map_id l]
        apply List.map_congr_left
        intro a _
        simp
      rw [this]
    · intro i hi
      rw [hc i hi]
      simp [List.getD, hi]
/-- s[k:], s[k:m] -/
theorem BytC.from_ {sv : Value} {l : List UInt8} {w : World} (h : BytC sv l w) (k : Nat) (hk : k ≤ l.length) :
    ∃ a c b d, sv = .slice a l.length c ∧ BytC (.slice b (l.length - k) d) (l.drop k) w ∧
      ∀ w', (Instr.slice 24 (.slice a l.length c) (some (.int .i64 (k : Int))) none none).run Try.prog w' = .ok (.slice b (l.length - k) d) w' := by
  have hs : ∀ w' : World, (sizeOf (Try.prog.elem 24)).run Try.prog w' = .ok 1 w' := fun w' => by kernel_rfl
  have hr : ∀ (a : Option Addr) (c : Nat) (w' : World), (Instr.slice 24 (.slice a l.length c) (some (.int .i64 (k : Int))) none none).run Try.prog w' = .ok (sliced a k l.length c 1) w' := fun a c w' => by
    rw [run_slice_l w' 24 a l.length c (by kernel_rfl) .i64 k (by omega) (by omega), hs]
    simp
  rcases h with ⟨a, c, rfl, rfl⟩ | ⟨g, off, cap, rfl, hc, hg, hcell⟩
  · simp only [List.length_nil] at hk
    obtain rfl : k = 0 := by omega
    refine ⟨a, c, _, _, rfl, ?_, fun w' => by rw [hr]; rfl⟩
    exact .inl ⟨_, _, rfl, rfl⟩
  · by_cases hck : cap = k
    · subst hck
      have hl : l.length = cap := by omega
      have hd : l.drop cap = [] := List.drop_eq_nil_of_le (by omega)
      refine ⟨some ⟨g, off, none⟩, cap, some ⟨g, off, none⟩, 0, rfl, ?_, fun w' => by rw [hr]; simp [sliced]⟩
      rw [hd]
      have e0 : l.length - cap = 0 := by omega
      rw [e0]
      exact .inl ⟨_, _, rfl, rfl⟩
    · refine ⟨some ⟨g, off, none⟩, cap, some ⟨g, off + k, none⟩, cap - k, rfl, ?_, fun w' => ?_⟩
      · refine .inr ⟨g, off + k, cap - k, by rw [List.length_drop], by rw [List.length_drop]; omega, hg, fun j hj => ?_⟩
        rw [List.length_drop] at hj
        rw [show off + k + j = off + (k + j) by omega, hcell (k + j) (by omega)]
        simp [List.getD]
      · rw [hr]
        have hadd : (⟨g, off, none⟩ : Addr).add (k * 1) = ⟨g, off + k, none⟩ := by rw [Nat.mul_one]; unfold Addr.add; split <;> simp_all
        simp only [sliced, if_neg hck, Option.map_some, hadd]
theorem BytC.mid {sv : Value} {l : List UInt8} {w : World} (h : BytC sv l w) (k m : Nat) (hk : k + m ≤ l.length) :
    ∃ a c b d, sv = .slice a l.length c ∧ BytC (.slice b m d) ((l.drop k).take m) w ∧
      ∀ w', (Instr.slice 24 (.slice a l.length c) (some (.int .i64 (k : Int))) (some (.int .i64 ((k + m : Nat) : Int))) none).run Try.prog w' = .ok (.slice b m d) w' := by
  have hs : ∀ w' : World, (sizeOf (Try.prog.elem 24)).run Try.prog w' = .ok 1 w' := fun w' => by kernel_rfl
  have hr : ∀ (a : Option Addr) (c : Nat) (w' : World), k + m ≤ c → (Instr.slice 24 (.slice a l.length c) (some (.int .i64 (k : Int))) (some (.int .i64 ((k + m : Nat) : Int))) none).run Try.prog w' = .ok (sliced a k (k + m) c 1) w' := fun a c w' hc => by
    rw [run_slice_lh w' 24 a l.length c (by kernel_rfl) .i64 .i64 k ((k + m : Nat) : Int) (by omega) (by omega) (by omega), hs]
    simp only [Result.andThen_ok, Int.toNat_natCast]
  rcases h with ⟨a, c, rfl, rfl⟩ | ⟨g, off, cap, rfl, hc, hg, hcell⟩
  · simp only [List.length_nil] at hk
    obtain rfl : k = 0 := by omega
    obtain rfl : m = 0 := by omega
    refine ⟨a, c, _, _, rfl, ?_, fun w' => by rw [hr _ _ _ (Nat.zero_le _)]; rfl⟩
    exact .inl ⟨_, _, rfl, by simp⟩
  · by_cases hck : cap = k
    · subst hck
      obtain rfl : m = 0 := by omega
      refine ⟨some ⟨g, off, none⟩, cap, some ⟨g, off, none⟩, 0, rfl, ?_, fun w' => by rw [hr _ _ _ (by omega)]; simp [sliced]⟩
      exact .inl ⟨_, _, rfl, by simp⟩
    · refine ⟨some ⟨g, off, none⟩, cap, some ⟨g, off + k, none⟩, cap - k, rfl, ?_, fun w' => ?_⟩
      · have e : ((l.drop k).take m).length = m := by rw [List.length_take, List.length_drop]; omega
        refine .inr ⟨g, off + k, cap - k, by rw [e], by rw [e]; omega, hg, fun j hj => ?_⟩
        rw [e] at hj
        rw [show off + k + j = off + (k + j) by omega, hcell (k + j) (by omega)]
        simp [List.getD, hj]
      · rw [hr _ _ _ (by omega)]
        have hadd : (⟨g, off, none⟩ : Addr).add (k * 1) = ⟨g, off + k, none⟩ := by rw [Nat.mul_one]; unfold Addr.add; split <;> simp_all
        simp only [sliced, if_neg hck, Option.map_some, hadd, Nat.add_sub_cancel_left]

/-- A ROW OF BYTES IN WHICH A CALL SCRIBBLES -/
def Scr (g n : Nat) (w : World) : Prop :=
  ∃ cs, w.heap[g]? = some (.cells cs 5 (0, 0)) ∧ n ≤ cs.size ∧ ∀ j, j < n → ∃ z, cs[j]? = some (.int .u8 z)
theorem Scr.cell {g n : Nat} {w : World} (h : Scr g n w) (j : Nat) (hj : j < n) : ∃ z, w.cell? ⟨g, j, none⟩ = some (.int .u8 z) ∧ w.frozen? ⟨g, j, none⟩ = false := by
  obtain ⟨cs, h1, h2, h3⟩ := h
  obtain ⟨z, hz⟩ := h3 j hj
  exact ⟨z, by rw [Lib.cell_of_heap h1]; exact hz, Lib.frozen_of_heap h1 j⟩
theorem Scr.set {g n : Nat} {w : World} (h : Scr g n w) (j : Nat) (z : Int) : Scr g n (w.setCell ⟨g, j, none⟩ (.int .u8 z)) := by
  obtain ⟨cs, h1, h2, h3⟩ := h
  refine ⟨cs.setIfInBounds j (.int .u8 z), setCell_blk h1 _, by simpa using h2, fun i hi => ?_⟩
  rw [Array.getElem?_setIfInBounds]
  split
  · split
    · exact ⟨z, rfl⟩
    · omega
  · exact h3 i hi
theorem Scr.lt {g n : Nat} {w : World} (h : Scr g n w) : g < w.heap.size := heap_lt h.choose_spec.1
theorem Scr.of_own {w : World} {B n g cap : Nat} {l : List UInt8} (h : w.ownsRow B 5 1 (.slice (some ⟨g, 0, none⟩) n cap) n (bc l)) : Scr g n w := by
  rcases h.2 with ⟨e, _⟩ | ⟨g', cap', cur, e, _, hg, hc, hm, hs, ht⟩
  · cases e
  · simp only [Value.slice.injEq, Option.some.injEq, Addr.mk.injEq, true_and, and_true] at e
    obtain ⟨rfl, rfl⟩ := e
    refine ⟨cur, hg, by omega, fun j hj => ?_⟩
    have hl := h.1
    rw [bc_length] at hl
    have hb : (bc l)[j]? = some (Value.int .u8 (l.getD j 0).toNat) := by rw [bc_get]; simp [List.getD, show j < l.length by omega]
    rw [← ht, List.getElem?_take] at hb
    split at hb
    · exact ⟨_, by simpa using hb⟩
    · cases hb
theorem Scr.keep {g n : Nat} {w w' : World} {p : Nat → Prop} (h : Scr g n w) (ho : Only p w w') (hp : ¬ p g) : Scr g n w' := by
  obtain ⟨cs, h1, h2⟩ := h
  exact ⟨cs, (ho.block g (heap_lt h1) hp).trans h1, h2⟩

/-- a []byte that came in, out of its reading -/
theorem bytC_open {W : World} (x : Addr) (len cap : Nat) (zs : List Int) (hl : len ≤ cap) (hm : cap ≤ maxLen) (hzl : zs.length = cap) (hcell : ∀ i, i < zs.length → W.cell? (x.add i) = some (.int .u8 (zs.getD i 0))) (hwz : ∀ n ∈ zs, (Lit.int .u8 n).wf = true) :
    ∃ raw : List UInt8, raw.length = len ∧ len ≤ maxLen ∧ BytC (.slice (some x) len cap) raw W := by
  have hlen : ((zs.take len).map fun z => UInt8.ofNat z.toNat).length = len := by rw [List.length_map, List.length_take]; omega
  refine ⟨(zs.take len).map fun z => UInt8.ofNat z.toNat, hlen, by omega, ?_⟩
  rcases Nat.eq_zero_or_pos len with e | e
  · subst e; exact .inl ⟨_, _, rfl, by simp⟩
  · obtain ⟨b, off, spot⟩ := x
    have hspot : spot = none := by simpa [Addr.add] using World.cell?_spot (hcell 0 (by omega))
    subst hspot
    have hc : ∀ j, j < zs.length → W.cell? ⟨b, off + j, none⟩ = some (.int .u8 (zs.getD j 0)) := fun j hj => by rw [← Go.WideShapes.add_plain]; exact hcell j hj
    refine .inr ⟨b, off, cap, by rw [hlen], by rw [hlen]; exact hl, World.block_lt_of_cell? W ⟨b, off + 0, none⟩ (hc 0 (by omega)), fun j hj => ?_⟩
    rw [hlen] at hj
    have hj' : j < zs.length := by omega
    rw [hc j hj']
    have hb : 0 ≤ zs.getD j 0 ∧ zs.getD j 0 ≤ 255 := by
      have := hwz (zs.getD j 0) (by simp [List.getD, hj'])
      simpa [Lit.wf, IntKind.min, IntKind.max, IntKind.signed, IntKind.bits] using this
    have e2 : ((zs.take len).map fun z => UInt8.ofNat z.toNat).getD j 0 = UInt8.ofNat (zs.getD j 0).toNat := by
      simp [List.getD, hj, hj']
    rw [e2, UInt8.toNat_ofNat']
    congr 2
    omega

end Go.Proofs.Ytgpeombkdompdaa
