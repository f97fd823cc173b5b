/- The first lines of every statement of layer 1 hold: the document's examples. -/
import Derived.Test.YtmipomglbccjbaaDoorWireRa
import Derived.Outline
import Derived.ProofKit
import Derived.OpenShut
namespace Go.Proofs.YtmipomglbccjbaaDoor
open Go.RowKit
theorem Byt.lit (l : List UInt8) (w : World) (h : l.length ≤ maxLen) (cs : Array Value) (hcs : cs = (bc l).toArray) (n : Nat) (hn : n = l.length) : Byt (.slice (some ⟨w.heap.size, 0, none⟩) n n) l (w.alloc (.cells cs 5)) := by
  subst hcs; subst hn
  refine .inr ⟨w.heap.size, 0, l.length, (bc l).toArray, 5, (0, 0), rfl, Nat.le_refl _, heap_alloc_new w _, rfl, by simp [bc_length], by simpa [bc_length] using h, fun j hj => ?_⟩
  simp only [List.getElem?_toArray, Nat.zero_add]
  rw [bc_get]; simp [List.getD, hj]
/-- A writer of the call's own: everything of it lies from B on. -/
structure WrB (B b : Nat) (bs : List UInt8) (W w : World) : Prop where
  ex : ∃ v, Wr b v bs w ∧ ∀ g, v.ownBlock = some g → B ≤ g
  le : B ≤ b
  bel : Below B W w
  base : B ≤ W.heap.size
theorem WrB.step {B b : Nat} {v : Value} {bs : List UInt8} {W w w' : World} (hB : B ≤ b) (hv : ∀ g, v.ownBlock = some g → B ≤ g) (hb : Below B W w) (hW : B ≤ W.heap.size) (h : Wrote b v bs w w') : WrB B b bs W w' := by
  obtain ⟨v', h1, h2, h3⟩ := h
  have hs := hb.size
  refine ⟨⟨v', h1, fun g hg => ?_⟩, hB, hb.trans (h3.belowB (by omega) ?_), hW⟩
  · rcases h2 with e | ⟨g', e, hg'⟩
    · exact hv g (by rw [← e]; exact hg)
    · rw [e] at hg; simp at hg; omega
  · rintro k hk (e | e)
    · omega
    · have := hv k e; omega
theorem WrB.below {B b : Nat} {bs : List UInt8} {W w w' : World} (h : WrB B b bs W w) (hb : Below w.heap.size w w') : WrB B b bs W w' := by
  obtain ⟨v, h1, h2⟩ := h.ex
  have hs := h.bel.size
  have hB := h.base
  refine ⟨⟨v, h1.keep (Only.of_below hb) (by have := h1.lt; omega) (fun g hg => by have := h1.ltv g hg; omega), h2⟩, h.le, h.bel.trans (hb.mono (by omega)), hB⟩
theorem WrB.only {B b : Nat} {bs : List UInt8} {W w w' : World} {p : Nat → Prop} (h : WrB B b bs W w) (ho : Only p w w') (hp : ∀ v, Wr b v bs w → ¬ p b ∧ (∀ g, v.ownBlock = some g → ¬ p g)) (hb : Below B w w') : WrB B b bs W w' := by
  obtain ⟨v, h1, h2⟩ := h.ex
  obtain ⟨h3, h4⟩ := hp v h1
  exact ⟨⟨v, h1.keep ho h3 h4, h2⟩, h.le, h.bel.trans hb, h.base⟩
theorem Wr.drew {b : Nat} {v : Value} {bs : List UInt8} {w : World} (h : Wr b v bs w) : Wr b v bs w.drew := ⟨h.blk, h.own⟩
theorem Rd.drew {b : Nat} {v : Value} {st : Option (List UInt8)} {w : World} (h : Rd b v st w) : Rd b v st w.drew := ⟨h.blk, h.byt⟩
theorem WrB.drew {B b : Nat} {bs : List UInt8} {W w : World} (h : WrB B b bs W w) : WrB B b bs W w.drew := by
  obtain ⟨v, h1, h2⟩ := h.ex
  exact ⟨⟨v, h1.drew, h2⟩, h.le, h.bel.drew, h.base⟩
/-- A READER of the call's own. -/
structure RdB (B b : Nat) (st : Option (List UInt8)) (W w : World) : Prop where
  ex : ∃ sv, Rd b sv st w ∧ ∀ g, sv.ownBlock = some g → B ≤ g
  le : B ≤ b
  bel : Below B W w
  base : B ≤ W.heap.size
theorem RdB.step {B b : Nat} {sv : Value} {st : Option (List UInt8)} {W w w' : World} (hB : B ≤ b) (hv : ∀ g, sv.ownBlock = some g → B ≤ g) (hb : Below B W w) (hW : B ≤ W.heap.size) (h : Red b sv st w w') : RdB B b st W w' := by
  obtain ⟨v', h1, h2, h3⟩ := h
  have hs := hb.size
  refine ⟨⟨v', h1, fun g hg => ?_⟩, hB, hb.trans (h3.belowB (by omega) (fun k hk e => by omega)), hW⟩
  rcases h2 with e | e
  · rw [e] at hg; cases hg
  · exact hv g (by rw [← e]; exact hg)
theorem RdB.below {B b : Nat} {st : Option (List UInt8)} {W w w' : World} (h : RdB B b st W w) (hb : Below w.heap.size w w') : RdB B b st W w' := by
  obtain ⟨v, h1, h2⟩ := h.ex
  have hs := h.bel.size
  have hB := h.base
  refine ⟨⟨v, h1.keep (Only.of_below hb) (by have := h1.lt; omega) (fun g hg => by have := h1.byt.lt g hg; omega), h2⟩, h.le, h.bel.trans (hb.mono (by omega)), hB⟩
end Go.Proofs.YtmipomglbccjbaaDoor
/- Plain facts about sequences of encoded numbers and strings: reading them, and reading what is one byte short of them. -/
namespace Go.Proofs.YtmipomglbccjbaaDoor
open Go.RowKit
def tx (s : ByteArray) : List UInt8 := Wm.enc (s.size : Nat) ++ s.data.toList
theorem dataLen (s : ByteArray) : s.data.toList.length = s.size := by rw [Array.length_toList]; rfl
theorem tx_le (s : ByteArray) (h : s.size ≤ 1000000000) : (tx s).length ≤ 9 + s.size := by
  have h2 := Wm.enc_length_le (s.size : Nat) (by unfold Wm.inR; omega)
  simp only [tx, List.length_append, dataLen]; omega
/-- a number is read -/
theorem number_some (n : Int) (r : List UInt8) (h : Wm.inR n) : btw (-9223372036854775808) 9223372036854775807 (some (Wm.enc n ++ r)) = (n, some r) := by
  rw [btw_enc _ _ _ _ h, if_neg (by unfold Wm.inR at h; omega)]
theorem rtext_some (s : ByteArray) (r : List UInt8) (h : s.size ≤ 1000000000) : rtext (some (tx s ++ r)) = (s.data.toList, some r) := by
  have := rtext_enc s.data.toList r (by rw [dataLen]; exact h)
  rw [dataLen] at this
  simpa [tx] using this
/-- BYTES THAT CAME IN: what is known of the cells alone -/
def BytC (v : Value) (l : List UInt8) (w : World) : Prop :=
  (∃ a c, v = .slice a 0 c ∧ l = []) ∨
  ∃ g off cap, v = .slice (some ⟨g, off, none⟩) l.length cap ∧ l.length ≤ cap ∧ g < w.heap.size ∧ ∀ j, j < l.length → w.cell? ⟨g, off + j, none⟩ = some (Value.int .u8 (l.getD j 0).toNat)
theorem BytC.keep {v : Value} {l : List UInt8} {w w' : World} (h : BytC v l w) (hb : Below w.heap.size w w') : BytC v l w' := by
  rcases h with h | ⟨g, off, cap, rfl, hc, hg, hcell⟩
  · exact .inl h
  · exact .inr ⟨g, off, cap, rfl, hc, by have := hb.size; omega, fun j hj => (hb.cell (p := ⟨g, off + j, none⟩) hg).trans (hcell j hj)⟩
theorem BytC.form {v : Value} {l : List UInt8} {w : World} (h : BytC v l w) : ∃ a c, v = .slice a l.length c := by
  rcases h with ⟨a, c, rfl, rfl⟩ | ⟨g, off, cap, rfl, _⟩
  · exact ⟨_, _, rfl⟩
  · exact ⟨_, _, rfl⟩
theorem BytC.src {v : Value} {l : List UInt8} {w : World} (h : BytC v l w) : Src Tryd.prog 1 25 v l.length (bc l) w := by
  rcases h with ⟨a, c, rfl, rfl⟩ | ⟨g, off, cap, rfl, _, _, hc⟩
  · cases a with
    | none => exact Src.ofNil w Tryd.underlying25 c
    | some a => exact Src.ofSlice w Tryd.underlying25 a 0 c [] rfl (fun j u h => by simp at h) (fun u h => by simp at h)
  · refine Src.ofSlice w Tryd.underlying25 ⟨g, off, none⟩ l.length cap (bc l) (by rw [bc_length]; omega) ?_ (bcw_one l)
    intro j u hj
    have hjn : j < l.length := by
      have := (List.getElem?_eq_some_iff.1 hj).1
      rwa [bc_length] at this
    rw [bc_get] at hj
    have hadd : (⟨g, off, none⟩ : Addr).add j = ⟨g, off + j, none⟩ := by unfold Addr.add; split <;> simp_all
    rw [hadd, hc j hjn]
    simpa [List.getD, hjn] using hj
theorem BytC.str {v : Value} {l : List UInt8} {w : World} (h : BytC v l w) : (convert 25 9 v).run Tryd.prog w = .ok (.string (bstr l)) w := by
  rcases h with ⟨a, c, rfl, rfl⟩ | ⟨g, off, cap, rfl, _, _, hc⟩
  · cases a with
    | none => exact run_convert_bytes_nil w 25 5 Tryd.underlying25 Tryd.underlying5 0 c 9 Tryd.underlying9
    | some a =>
      rw [run_convert_bytes_string w 25 9 5 _ 0 c Tryd.underlying25 Tryd.underlying5 Tryd.underlying9, run_bytesToString w _ 0 c [] (by simp [loadCells, loadCellsFrom])]
      rfl
  · rw [run_convert_bytes_arg w 25 5 Tryd.underlying25 Tryd.underlying5 g off l.length cap (l.map fun b => (b.toNat : Int)) (by simp) ?_ 9 Tryd.underlying9]
    · have : strOfNums (l.map fun b => (b.toNat : Int)) = bstr l := by
        unfold strOfNums bstr
        congr 2
        rw [List.map_map]
        conv => rhs; rw [← List.map_id l]
        apply List.map_congr_left
        intro a _
        simp
      rw [this]
    · intro i hi
      rw [hc i hi]
      simp [List.getD, hi]
/-- s[k:], s[k:m] -/
theorem BytC.from_ {sv : Value} {l : List UInt8} {w : World} (h : BytC sv l w) (k : Nat) (hk : k ≤ l.length) :
    ∃ a c b d, sv = .slice a l.length c ∧ BytC (.slice b (l.length - k) d) (l.drop k) w ∧
      ∀ w', (Instr.slice 25 (.slice a l.length c) (some (.int .i64 (k : Int))) none none).run Tryd.prog w' = .ok (.slice b (l.length - k) d) w' := by
  have hs : ∀ w' : World, (sizeOf (Tryd.prog.elem 25)).run Tryd.prog w' = .ok 1 w' := fun w' => by kernel_rfl
  have hr : ∀ (a : Option Addr) (c : Nat) (w' : World), (Instr.slice 25 (.slice a l.length c) (some (.int .i64 (k : Int))) none none).run Tryd.prog w' = .ok (sliced a k l.length c 1) w' := fun a c w' => by
    rw [run_slice_l w' 25 a l.length c (by kernel_rfl) .i64 k (by omega) (by omega), hs]
    simp
  rcases h with ⟨a, c, rfl, rfl⟩ | ⟨g, off, cap, rfl, hc, hg, hcell⟩
  · simp only [List.length_nil] at hk
    obtain rfl : k = 0 := by omega
    refine ⟨a, c, _, _, rfl, ?_, fun w' => by rw [hr]; rfl⟩
    exact .inl ⟨_, _, rfl, rfl⟩
  · by_cases hck : cap = k
    · subst hck
      have hl : l.length = cap := by omega
      have hd : l.drop cap = [] := List.drop_eq_nil_of_le (by omega)
      refine ⟨some ⟨g, off, none⟩, cap, some ⟨g, off, none⟩, 0, rfl, ?_, fun w' => by rw [hr]; simp [sliced]⟩
      rw [hd]
      have e0 : l.length - cap = 0 := by omega
      rw [e0]
      exact .inl ⟨_, _, rfl, rfl⟩
    · refine ⟨some ⟨g, off, none⟩, cap, some ⟨g, off + k, none⟩, cap - k, rfl, ?_, fun w' => ?_⟩
      · refine .inr ⟨g, off + k, cap - k, by rw [List.length_drop], by rw [List.length_drop]; omega, hg, fun j hj => ?_⟩
        rw [List.length_drop] at hj
        rw [show off + k + j = off + (k + j) by omega, hcell (k + j) (by omega)]
        simp [List.getD]
      · rw [hr]
        have hadd : (⟨g, off, none⟩ : Addr).add (k * 1) = ⟨g, off + k, none⟩ := by rw [Nat.mul_one]; unfold Addr.add; split <;> simp_all
        simp only [sliced, if_neg hck, Option.map_some, hadd]
theorem BytC.mid {sv : Value} {l : List UInt8} {w : World} (h : BytC sv l w) (k m : Nat) (hk : k + m ≤ l.length) :
    ∃ a c b d, sv = .slice a l.length c ∧ BytC (.slice b m d) ((l.drop k).take m) w ∧
      ∀ w', (Instr.slice 25 (.slice a l.length c) (some (.int .i64 (k : Int))) (some (.int .i64 ((k + m : Nat) : Int))) none).run Tryd.prog w' = .ok (.slice b m d) w' := by
  have hs : ∀ w' : World, (sizeOf (Tryd.prog.elem 25)).run Tryd.prog w' = .ok 1 w' := fun w' => by kernel_rfl
  have hr : ∀ (a : Option Addr) (c : Nat) (w' : World), k + m ≤ c → (Instr.slice 25 (.slice a l.length c) (some (.int .i64 (k : Int))) (some (.int .i64 ((k + m : Nat) : Int))) none).run Tryd.prog w' = .ok (sliced a k (k + m) c 1) w' := fun a c w' hc => by
    rw [run_slice_lh w' 25 a l.length c (by kernel_rfl) .i64 .i64 k ((k + m : Nat) : Int) (by omega) (by omega) (by omega), hs]
    simp only [Result.andThen_ok, Int.toNat_natCast]
  rcases h with ⟨a, c, rfl, rfl⟩ | ⟨g, off, cap, rfl, hc, hg, hcell⟩
  · simp only [List.length_nil] at hk
    obtain rfl : k = 0 := by omega
    obtain rfl : m = 0 := by omega
    refine ⟨a, c, _, _, rfl, ?_, fun w' => by rw [hr _ _ _ (Nat.zero_le _)]; rfl⟩
    exact .inl ⟨_, _, rfl, by simp⟩
  · by_cases hck : cap = k
    · subst hck
      obtain rfl : m = 0 := by omega
      refine ⟨some ⟨g, off, none⟩, cap, some ⟨g, off, none⟩, 0, rfl, ?_, fun w' => by rw [hr _ _ _ (by omega)]; simp [sliced]⟩
      exact .inl ⟨_, _, rfl, by simp⟩
    · refine ⟨some ⟨g, off, none⟩, cap, some ⟨g, off + k, none⟩, cap - k, rfl, ?_, fun w' => ?_⟩
      · have e : ((l.drop k).take m).length = m := by rw [List.length_take, List.length_drop]; omega
        refine .inr ⟨g, off + k, cap - k, by rw [e], by rw [e]; omega, hg, fun j hj => ?_⟩
        rw [e] at hj
        rw [show off + k + j = off + (k + j) by omega, hcell (k + j) (by omega)]
        simp [List.getD, hj]
      · rw [hr _ _ _ (by omega)]
        have hadd : (⟨g, off, none⟩ : Addr).add (k * 1) = ⟨g, off + k, none⟩ := by rw [Nat.mul_one]; unfold Addr.add; split <;> simp_all
        simp only [sliced, if_neg hck, Option.map_some, hadd, Nat.add_sub_cancel_left]
/-- A ROW OF BYTES IN WHICH A CALL SCRIBBLES -/
def Scr (g n : Nat) (w : World) : Prop :=
  ∃ cs, w.heap[g]? = some (.cells cs 5 (0, 0)) ∧ n ≤ cs.size ∧ ∀ j, j < n → ∃ z, cs[j]? = some (.int .u8 z)
theorem Scr.cell {g n : Nat} {w : World} (h : Scr g n w) (j : Nat) (hj : j < n) : ∃ z, w.cell? ⟨g, j, none⟩ = some (.int .u8 z) ∧ w.frozen? ⟨g, j, none⟩ = false := by
  obtain ⟨cs, h1, h2, h3⟩ := h
  obtain ⟨z, hz⟩ := h3 j hj
  exact ⟨z, by rw [Lib.cell_of_heap h1]; exact hz, Lib.frozen_of_heap h1 j⟩
theorem Scr.set {g n : Nat} {w : World} (h : Scr g n w) (j : Nat) (z : Int) : Scr g n (w.setCell ⟨g, j, none⟩ (.int .u8 z)) := by
  obtain ⟨cs, h1, h2, h3⟩ := h
  refine ⟨cs.setIfInBounds j (.int .u8 z), setCell_blk h1 _, by simpa using h2, fun i hi => ?_⟩
  rw [Array.getElem?_setIfInBounds]
  split
  · split
    · exact ⟨z, rfl⟩
    · omega
  · exact h3 i hi
theorem Scr.lt {g n : Nat} {w : World} (h : Scr g n w) : g < w.heap.size := heap_lt h.choose_spec.1
theorem Scr.of_own {w : World} {B n g cap : Nat} {l : List UInt8} (h : w.ownsRow B 5 1 (.slice (some ⟨g, 0, none⟩) n cap) n (bc l)) : Scr g n w := by
  rcases h.2 with ⟨e, _⟩ | ⟨g', cap', cur, e, _, hg, hc, hm, hs, ht⟩
  · cases e
  · simp only [Value.slice.injEq, Option.some.injEq, Addr.mk.injEq, true_and, and_true] at e
    obtain ⟨rfl, rfl⟩ := e
    refine ⟨cur, hg, by omega, fun j hj => ?_⟩
    have hl := h.1
    rw [bc_length] at hl
    have hb : (bc l)[j]? = some (Value.int .u8 (l.getD j 0).toNat) := by rw [bc_get]; simp [List.getD, show j < l.length by omega]
    rw [← ht, List.getElem?_take] at hb
    split at hb
    · exact ⟨_, by simpa using hb⟩
    · cases hb
theorem Scr.keep {g n : Nat} {w w' : World} {p : Nat → Prop} (h : Scr g n w) (ho : Only p w w') (hp : ¬ p g) : Scr g n w' := by
  obtain ⟨cs, h1, h2⟩ := h
  exact ⟨cs, (ho.block g (heap_lt h1) hp).trans h1, h2⟩
end Go.Proofs.YtmipomglbccjbaaDoor
/- The reference of layer 1: its Number and Text give the encoding. -/
namespace Go.Proofs.YtmipomglbccjbaaDoor
open Go.RowKit

theorem own_lit (w : World) (x : Value) (B : Nat) (hB : B ≤ w.heap.size) : (w.alloc (.cells #[x] 5)).ownsRow B 5 1 (.slice (some ⟨w.heap.size, 0, none⟩) 1 1) 1 [x] :=
  ⟨rfl, .inr ⟨w.heap.size, 1, #[x], rfl, hB, heap_alloc_new w _, Nat.le_refl _, by unfold maxLen; decide, rfl, rfl⟩⟩
theorem src_own {w : World} {B : Nat} {v : Value} {k : Nat} {l : List UInt8} (h : w.ownsRow B 5 1 v k (bc l)) (hl : l.length = k) (o : Obj) : Src Tryd.prog 1 25 v k (bc l) (w.alloc o) := by
  have h2 := (Byt.of_own (h.alloc o)).src
  rw [hl] at h2
  exact h2
set_option maxHeartbeats 2000000 in
set_option maxRecDepth 100000 in
theorem ref_number (n : Int) (w : World) (hn : Wm.inR n) : Calls Tryd.prog 34 #[.int .i64 n] w (Cloned (Wm.enc n) w) := by
  obtain ⟨i0, hi0, hz0, hz1, hz2⟩ := info_parts info5
  have HI0 := Lib.hid hi0; have HZ0 := Lib.hid hz0; have HZ1 := Lib.hid hz1; have HZ2 := Lib.hid hz2
  clear hi0 hz0 hz1 hz2
  have hml := Wm.mag_lt n hn
  have hmb := Wm.mag_back n
  have hen : Wm.enc n = Wm.hdr n :: Wm.be (Wm.nb (Wm.mag n)) (Wm.mag n) := rfl
  have hhd := Wm.hdr_toNat n hn
  have HEN := Lib.hid hen
  have HHD := Lib.hid hhd
  clear hen hhd
  generalize Wm.mag n = m at *
  unfold Wm.inR at hn
  obtain ⟨hb, hbh⟩ : ∃ hb : Nat, Hid (((Wm.hdr n).toNat = hb + Wm.nb m) ∧ (hb = 0 ∨ hb = 128)) := ⟨_, HHD.out, by split; exact .inr rfl; exact .inl rfl⟩
  have hcase : (decide (n < 0) = true ∧ -1 - n = (m : Int) ∧ hb = 128) ∨ (decide (n < 0) = false ∧ n = (m : Int) ∧ hb = 0) := by
    have h1 := HHD.out
    have h2 := hbh.out.1
    by_cases h : n < 0
    · left; rw [if_pos h] at h1 hmb; exact ⟨by simpa using h, by omega, by omega⟩
    · right; rw [if_neg h] at h1 hmb; exact ⟨by simpa using h, by omega, by omega⟩
  clear hmb HHD
  rcases hcase with ⟨hd, hmn, rfl⟩ | ⟨hd, hmn, rfl⟩
  · go_enter Tryd.func34, Tryd.ntmps34
    go_wp2
    go_loopw [0, 4] (fun q d wr => ∃ (k : Nat) (a : Option Addr) (c : Nat), q = .int .i64 ((m / 256 ^ k : Nat) : Int) ∧ d = .slice a k c ∧ Hid (k = 0 ∨ 256 ^ (k - 1) ≤ m) ∧ Hid (wr.ownsRow w.heap.size 5 1 (.slice a k c) k (bc (Wm.be k m))) ∧ Hid (Below w.heap.size w wr)) (fun q _ _ => (intOf q).toNat)
    case atStart => exact ⟨0, none, 0, by simp, rfl, .inl rfl, World.ownsRow_nil _ _ _ _, Below.refl _ _⟩
    case round =>
      obtain ⟨k, a, c, rfl, rfl, HK, HO, HB⟩ := hrel
      have hk8 : k ≤ 8 := by
        rcases Nat.lt_or_ge 8 k with h | h
        · rcases HK.out with e | e
          · omega
          · have : 256 ^ 8 ≤ 256 ^ (k - 1) := Nat.pow_le_pow_right (by omega) (by omega)
            omega
        · exact h
      obtain ⟨qq, hqq⟩ : ∃ qq : Nat, m / 256 ^ k = qq := ⟨_, rfl⟩
      have hqm : qq ≤ 9223372036854775807 := by have := Nat.div_le_self m (256 ^ k); omega
      have hsz := HB.out.size
      rcases Nat.eq_zero_or_pos qq with hz | hp
      · subst hz
        rw [hqq]
        have hnb : Wm.nb m = k := Wm.nb_unique m k (by omega) (by rw [Nat.div_eq_zero_iff] at hqq; rcases hqq with h | h; (have : 0 < 256 ^ k := Nat.pow_pos (by omega)); omega; exact h) HK.out
        have hfin : Hid (Wm.enc n = Wm.hdr n :: Wm.be k m) := by show _ = _; rw [HEN.out, hnb]
        have hhk : Hid (((Wm.hdr n).toNat : Int) = ((128 + k : Nat) : Int)) := by show _ = _; rw [hbh.out.1, hnb]
        clear hqq hnb HEN
        go_wp2_with (at_builtin; refine wpList_append_src _ rfl (.tmp 24) (.tmp 25) 25 25 rfl w.heap.size 5 i0 (.int .u8 0) 1 1 Tryd.underlying25 HI0.out HZ0.out HZ1.out HZ2.out rfl _ 1 [.int .u8 ((128 + k : Nat) : Int)] rfl (own_lit wr _ _ hsz) (.slice a k c) k (bc (Wm.be k m)) rfl ?qs ?qa ?qb ?qc ?_)
        case qs => exact src_own HO.out (Wm.be_length _ _) _
        case qa => unfold maxLen; omega
        case qb => omega
        case qc => simp; omega
        intro v2 w2 hown hgrow hat
        go_wp2
        go_ret
        refine ⟨v2, rfl, ?_, ?_⟩
        · rw [hfin.out]
          have e : bc (Wm.hdr n :: Wm.be k m) = [.int .u8 ((128 + k : Nat) : Int)] ++ bc (Wm.be k m) := by rw [← hhk.out]; rfl
          rw [e, List.length_cons, Wm.be_length, Nat.add_comm k 1]
          exact hown
        · exact (HB.out.alloc hsz _).grown hgrow (by simp; omega) (by intro k' hk'; simp [Value.ownBlock] at hk'; omega)
      · rw [hqq]
        have hx : ((qq : Int) % 256) = ((UInt8.ofNat qq).toNat : Int) := by rw [UInt8.toNat_ofNat']; omega
        have hpi : (0 : Int) < (qq : Int) := by omega
        have hbe : Wm.be (k + 1) m = UInt8.ofNat qq :: Wm.be k m := by rw [Wm.be, hqq]
        have hnx : m / 256 ^ (k + 1) = qq / 256 := by rw [Nat.pow_succ, ← Nat.div_div_eq_div_mul, hqq]
        have hge : 256 ^ k ≤ m := by
          have : 0 < m / 256 ^ k := by omega
          exact (Nat.div_pos_iff.1 this).2
        have HBE := Lib.hid hbe
        have HNX := Lib.hid hnx
        clear hqq hbe hnx
        generalize UInt8.ofNat qq = x at *
        go_wp2_with (at_builtin; refine wpList_append_src _ rfl (.tmp 14) (.tmp 15) 25 25 rfl w.heap.size 5 i0 (.int .u8 0) 1 1 Tryd.underlying25 HI0.out HZ0.out HZ1.out HZ2.out rfl _ 1 [.int .u8 x.toNat] rfl (own_lit wr _ _ hsz) (.slice a k c) k (bc (Wm.be k m)) rfl ?qs2 ?qa2 ?qb2 ?qc2 ?_)
        case qs2 => exact src_own HO.out (Wm.be_length _ _) _
        case qa2 => unfold maxLen; omega
        case qb2 => omega
        case qc2 => simp; omega
        intro v2 w2 hown hgrow hat
        have hbel := (HB.out.alloc hsz _).grown hgrow (by simp; omega) (by intro k' hk'; simp [Value.ownBlock] at hk'; omega)
        have hown2 : w2.ownsRow w.heap.size 5 1 v2 (k + 1) (bc (Wm.be (k + 1) m)) := by
          rw [HBE.out, Nat.add_comm k 1]; exact hown
        obtain ⟨a2, c2, hv2⟩ : ∃ a2 c2, v2 = .slice a2 (k + 1) c2 := by
          obtain ⟨a2, c2, e⟩ := (Byt.of_own hown2).form
          rw [Wm.be_length] at e; exact ⟨a2, c2, e⟩
        rw [hv2] at hown2 ⊢
        have HO2 := Lib.hid hown2
        have HB2 := Lib.hid hbel
        clear hown hgrow hat hbel hown2 hv2
        go_wp2
        go_roundw
        case rel => exact ⟨k + 1, a2, c2, by rw [HNX.out]; go_num, rfl, .inr hge, HO2, HB2⟩
        case measure => simp [intOf]; omega
  · go_enter Tryd.func34, Tryd.ntmps34
    go_wp2
    go_loopw [0, 4] (fun q d wr => ∃ (k : Nat) (a : Option Addr) (c : Nat), q = .int .i64 ((m / 256 ^ k : Nat) : Int) ∧ d = .slice a k c ∧ Hid (k = 0 ∨ 256 ^ (k - 1) ≤ m) ∧ Hid (wr.ownsRow w.heap.size 5 1 (.slice a k c) k (bc (Wm.be k m))) ∧ Hid (Below w.heap.size w wr)) (fun q _ _ => (intOf q).toNat)
    case atStart => exact ⟨0, none, 0, by simp, rfl, .inl rfl, World.ownsRow_nil _ _ _ _, Below.refl _ _⟩
    case round =>
      obtain ⟨k, a, c, rfl, rfl, HK, HO, HB⟩ := hrel
      have hk8 : k ≤ 8 := by
        rcases Nat.lt_or_ge 8 k with h | h
        · rcases HK.out with e | e
          · omega
          · have : 256 ^ 8 ≤ 256 ^ (k - 1) := Nat.pow_le_pow_right (by omega) (by omega)
            omega
        · exact h
      obtain ⟨qq, hqq⟩ : ∃ qq : Nat, m / 256 ^ k = qq := ⟨_, rfl⟩
      have hqm : qq ≤ 9223372036854775807 := by have := Nat.div_le_self m (256 ^ k); omega
      have hsz := HB.out.size
      rcases Nat.eq_zero_or_pos qq with hz | hp
      · subst hz
        rw [hqq]
        have hnb : Wm.nb m = k := Wm.nb_unique m k (by omega) (by rw [Nat.div_eq_zero_iff] at hqq; rcases hqq with h | h; (have : 0 < 256 ^ k := Nat.pow_pos (by omega)); omega; exact h) HK.out
        have hfin : Hid (Wm.enc n = Wm.hdr n :: Wm.be k m) := by show _ = _; rw [HEN.out, hnb]
        have hhk : Hid (((Wm.hdr n).toNat : Int) = (k : Int)) := by show _ = _; rw [hbh.out.1, hnb, Nat.zero_add]
        clear hqq hnb HEN
        go_wp2_with (at_builtin; refine wpList_append_src _ rfl (.tmp 24) (.tmp 25) 25 25 rfl w.heap.size 5 i0 (.int .u8 0) 1 1 Tryd.underlying25 HI0.out HZ0.out HZ1.out HZ2.out rfl _ 1 [.int .u8 (k : Int)] rfl (own_lit wr _ _ hsz) (.slice a k c) k (bc (Wm.be k m)) rfl ?qs3 ?qa3 ?qb3 ?qc3 ?_)
        case qs3 => exact src_own HO.out (Wm.be_length _ _) _
        case qa3 => unfold maxLen; omega
        case qb3 => omega
        case qc3 => simp; omega
        intro v2 w2 hown hgrow hat
        go_wp2
        go_ret
        refine ⟨v2, rfl, ?_, ?_⟩
        · rw [hfin.out]
          have e : bc (Wm.hdr n :: Wm.be k m) = [.int .u8 (k : Int)] ++ bc (Wm.be k m) := by rw [← hhk.out]; rfl
          rw [e, List.length_cons, Wm.be_length, Nat.add_comm k 1]
          exact hown
        · exact (HB.out.alloc hsz _).grown hgrow (by simp; omega) (by intro k' hk'; simp [Value.ownBlock] at hk'; omega)
      · rw [hqq]
        have hx : ((qq : Int) % 256) = ((UInt8.ofNat qq).toNat : Int) := by rw [UInt8.toNat_ofNat']; omega
        have hpi : (0 : Int) < (qq : Int) := by omega
        have hbe : Wm.be (k + 1) m = UInt8.ofNat qq :: Wm.be k m := by rw [Wm.be, hqq]
        have hnx : m / 256 ^ (k + 1) = qq / 256 := by rw [Nat.pow_succ, ← Nat.div_div_eq_div_mul, hqq]
        have hge : 256 ^ k ≤ m := by
          have : 0 < m / 256 ^ k := by omega
          exact (Nat.div_pos_iff.1 this).2
        have HBE := Lib.hid hbe
        have HNX := Lib.hid hnx
        clear hqq hbe hnx
        generalize UInt8.ofNat qq = x at *
        go_wp2_with (at_builtin; refine wpList_append_src _ rfl (.tmp 14) (.tmp 15) 25 25 rfl w.heap.size 5 i0 (.int .u8 0) 1 1 Tryd.underlying25 HI0.out HZ0.out HZ1.out HZ2.out rfl _ 1 [.int .u8 x.toNat] rfl (own_lit wr _ _ hsz) (.slice a k c) k (bc (Wm.be k m)) rfl ?qs4 ?qa4 ?qb4 ?qc4 ?_)
        case qs4 => exact src_own HO.out (Wm.be_length _ _) _
        case qa4 => unfold maxLen; omega
        case qb4 => omega
        case qc4 => simp; omega
        intro v2 w2 hown hgrow hat
        have hbel := (HB.out.alloc hsz _).grown hgrow (by simp; omega) (by intro k' hk'; simp [Value.ownBlock] at hk'; omega)
        have hown2 : w2.ownsRow w.heap.size 5 1 v2 (k + 1) (bc (Wm.be (k + 1) m)) := by
          rw [HBE.out, Nat.add_comm k 1]; exact hown
        obtain ⟨a2, c2, hv2⟩ : ∃ a2 c2, v2 = .slice a2 (k + 1) c2 := by
          obtain ⟨a2, c2, e⟩ := (Byt.of_own hown2).form
          rw [Wm.be_length] at e; exact ⟨a2, c2, e⟩
        rw [hv2] at hown2 ⊢
        have HO2 := Lib.hid hown2
        have HB2 := Lib.hid hbel
        clear hown hgrow hat hbel hown2 hv2
        go_wp2
        go_roundw
        case rel => exact ⟨k + 1, a2, c2, by rw [HNX.out]; go_num, rfl, .inr hge, HO2, HB2⟩
        case measure => simp [intOf]; omega
set_option maxHeartbeats 1000000 in
set_option maxRecDepth 100000 in
theorem ref_text (s : ByteArray) (w : World) (hs : s.size ≤ 1000000000) : Calls Tryd.prog 54 #[.string s] w (Cloned (tx s) w) := by
  obtain ⟨i0, hi0, hz0, hz1, hz2⟩ := info_parts info5
  have HI0 := Lib.hid hi0; have HZ0 := Lib.hid hz0; have HZ1 := Lib.hid hz1; have HZ2 := Lib.hid hz2
  clear hi0 hz0 hz1 hz2
  have hin : Wm.inR (s.size : Nat) := by unfold Wm.inR; omega
  have hel := Wm.enc_length_le (s.size : Nat) hin
  have hdl := dataLen s
  have HDL := Lib.hid hdl
  clear hdl
  go_enter Tryd.func54, Tryd.ntmps54
  go_wp2_with fail
  refine (ref_number (s.size : Nat) _ hin).mono ?_
  rintro e w1 ⟨v, rfl, ho, hb⟩
  have HO := Lib.hid ho
  have HB := Lib.hid hb
  have hsz := hb.size
  clear ho hb
  go_wp2_with (at_builtin; refine wpList_append_src _ rfl (.tmp 5) (.tmp 6) 25 9 rfl w.heap.size 5 i0 (.int .u8 0) 1 1 Tryd.underlying25 HI0.out HZ0.out HZ1.out HZ2.out rfl v (Wm.enc (s.size : Nat)).length (bc (Wm.enc (s.size : Nat))) rfl HO.out (.string s) s.size (bc s.data.toList) rfl (Src.ofString w1 Tryd.underlying9 s) ?qa ?qb hsz ?_)
  case qa => unfold maxLen; omega
  case qb => omega
  intro v2 w2 hown hgrow hat
  have hbel := HB.out.grown hgrow hsz (fun k hk => (HO.out.lt k hk).1)
  have HB2 := Lib.hid hbel
  have HO2 : Hid (w2.ownsRow w.heap.size 5 1 v2 (tx s).length (bc (tx s))) := by
    show World.ownsRow _ _ _ _ _ _ _
    rw [tx, bc_append, List.length_append, HDL.out]; exact hown
  clear hown hgrow hat hbel
  go_wp2
  go_ret
  exact ⟨v2, rfl, HO2.out, HB2.out⟩
end Go.Proofs.YtmipomglbccjbaaDoor
/- The reference of layer 1: its Get and GetText read as the document specifies; a nil Reader. -/
namespace Go.Proofs.YtmipomglbccjbaaDoor
open Go.RowKit

/-- at most eight bytes are beyond the greatest number exactly if they are eight and the first is above 127 -/
theorem val_big (t : List UInt8) (k : Nat) (hk : k ≤ 8) (ht : k ≤ t.length) : 9223372036854775807 < Wm.val (t.take k) ↔ (k = 8 ∧ 127 < (t.getD 0 0).toNat) := by
  by_cases h8 : k = 8
  · subst h8
    obtain ⟨x, t', rfl⟩ : ∃ x t', t = x :: t' := by
      cases t with
      | nil => simp at ht
      | cons x t' => exact ⟨x, t', rfl⟩
    have hl : (t'.take 7).length = 7 := by rw [List.length_take]; simp at ht; omega
    have h1 := Wm.val_lt (t'.take 7)
    rw [hl] at h1
    have h2 : Wm.val ((x :: t').take 8) = x.toNat * 256 ^ 7 + Wm.val (t'.take 7) := by
      rw [List.take_succ_cons, Wm.val_cons, hl]
    rw [h2]
    simp only [List.getD_cons_zero, true_and]
    have h3 : (256 : Nat) ^ 7 = 72057594037927936 := by decide
    rw [h3] at h1 ⊢
    omega
  · have h1 := Wm.val_lt (t.take k)
    have hl : (t.take k).length = k := by rw [List.length_take]; omega
    rw [hl] at h1
    have h3 : 256 ^ k ≤ 256 ^ 7 := Nat.pow_le_pow_right (by omega) (by omega)
    have h4 : (256 : Nat) ^ 7 = 72057594037927936 := by decide
    omega
theorem ref_get_nil (a : Option Addr) (c : Nat) (w : World) : Calls Tryd.prog 36 #[.slice a 0 c] w fun e w' => e = .returned (.tuple #[.int .i64 0, .int .i64 0]) ∧ w = w' := by
  go_enter Tryd.func36, Tryd.ntmps36
  go_wp2
  go_ret2
  exact ⟨rfl, rfl⟩
set_option maxHeartbeats 2000000 in
set_option maxRecDepth 100000 in
theorem ref_get_cons (g off cap : Nat) (h : UInt8) (t : List UInt8) (w : World) (hm : t.length + 1 ≤ 1000000000000)
    (hc0 : w.cell? ⟨g, off, none⟩ = some (.int .u8 h.toNat)) (hc : ∀ j, j < t.length → w.cell? ⟨g, off + 1 + j, none⟩ = some (.int .u8 (t.getD j 0).toNat)) :
    Calls Tryd.prog 36 #[.slice (some ⟨g, off, none⟩) (t.length + 1) cap] w fun e w' => e = .returned (.tuple #[.int .i64 (dv (h :: t)).1, .int .i64 ((dv (h :: t)).2 : Nat)]) ∧ w = w' := by
  obtain ⟨k, hk⟩ : ∃ k : Nat, h.toNat % 128 = k := ⟨_, rfl⟩
  have hk128 : k < 128 := by omega
  have hki : ((h.toNat : Int) % 128) = (k : Int) := by omega
  have HC := Lib.hid hc
  clear hc
  have hdv : Hid (dv (h :: t) = (Wm.decT h t).getD (0, 0)) := rfl
  unfold Wm.decT at hdv
  rw [hk] at hdv
  have HK := Lib.hid hk
  clear hk
  have q0 : ((t.length : Int) + 1 == 0) = false := by simp; omega
  by_cases hk8 : 8 < k
  · have e : Hid (dv (h :: t) = (0, 0)) := by have := hdv.out; rw [if_pos (.inl hk8)] at this; exact this
    have q1 : decide ((8 : Int) < (k : Int)) = true := by simp; omega
    clear hdv
    go_enter Tryd.func36, Tryd.ntmps36
    go_wp2
    go_ret2
    exact ⟨by rw [e.out]; rfl, rfl⟩
  have q1 : decide ((8 : Int) < (k : Int)) = false := by simp; omega
  by_cases hkt : t.length < k
  · have e : Hid (dv (h :: t) = (0, 0)) := by have := hdv.out; rw [if_pos (.inr hkt)] at this; exact this
    have q2 : decide ((t.length : Int) + 1 < 1 + (k : Int)) = true := by simp; omega
    clear hdv
    go_enter Tryd.func36, Tryd.ntmps36
    go_wp2
    go_ret2
    exact ⟨by rw [e.out]; rfl, rfl⟩
  have q2 : decide ((t.length : Int) + 1 < 1 + (k : Int)) = false := by simp; omega
  have e1 : Hid (dv (h :: t) = (if (0 < k ∧ t.head? = some 0) ∨ 9223372036854775807 < Wm.val (t.take k) then none
      else some (if 128 ≤ h.toNat then -1 - (Wm.val (t.take k) : Int) else (Wm.val (t.take k) : Int), 1 + k) : Option (Int × Nat)).getD (0, 0)) := by
    have := hdv.out; rw [if_neg (by omega)] at this; exact this
  clear hdv
  have b1 : k ≤ 8 := by omega
  have b2 : k ≤ t.length := by omega
  have hbig := val_big t k b1 b2
  have HBIG := Lib.hid hbig
  clear hk8 hkt hbig
  have hfin : ∀ n : Int, ∀ m : Nat, dv (h :: t) = (n, m) → (Ending.returned (.tuple #[.int .i64 n, .int .i64 (m : Int)]) = Ending.returned (.tuple #[.int .i64 (dv (h :: t)).1, .int .i64 ((dv (h :: t)).2 : Nat)])) := by
    intro n m e; rw [e]
  have HF := Lib.hid hfin
  clear hfin
  have hneg : (decide ((127 : Int) < (h.toNat : Int)) = true ∧ 128 ≤ h.toNat) ∨ (decide ((127 : Int) < (h.toNat : Int)) = false ∧ ¬ 128 ≤ h.toNat) := by
    by_cases hx : 128 ≤ h.toNat
    · left; exact ⟨by simp; omega, hx⟩
    · right; exact ⟨by simp; omega, hx⟩
  by_cases hk0 : k = 0
  · subst hk0
    have e2 : Hid (dv (h :: t) = (if 128 ≤ h.toNat then -1 else 0, 1)) := by
      have := e1.out
      simp [Wm.val] at this
      exact this
    clear e1 HBIG
    rcases hneg with ⟨hn, hn2⟩ | ⟨hn, hn2⟩
    · have e3 : Hid (dv (h :: t) = (-1, 1)) := by show _ = _; rw [e2.out, if_pos hn2]
      clear hn2
      go_enter Tryd.func36, Tryd.ntmps36
      go_wp2
      go_loop [5, 6] (fun a i => a = .int .i64 0 ∧ i = .int .i64 1) (fun _ _ => 0)
      case atStart => exact ⟨rfl, rfl⟩
      case round =>
        obtain ⟨rfl, rfl⟩ := hrel
        go_wp2
        go_ret2
        exact ⟨HF.out _ _ e3.out, rfl⟩
    · have e3 : Hid (dv (h :: t) = (0, 1)) := by show _ = _; rw [e2.out, if_neg hn2]
      clear hn2
      go_enter Tryd.func36, Tryd.ntmps36
      go_wp2
      go_loop [5, 6] (fun a i => a = .int .i64 0 ∧ i = .int .i64 1) (fun _ _ => 0)
      case atStart => exact ⟨rfl, rfl⟩
      case round =>
        obtain ⟨rfl, rfl⟩ := hrel
        go_wp2
        go_ret2
        exact ⟨HF.out _ _ e3.out, rfl⟩
  obtain ⟨x, hxh, hxd⟩ : ∃ x, t.head? = some x ∧ t.getD 0 0 = x := by
    cases t with
    | nil => simp at b2; omega
    | cons x t' => exact ⟨x, rfl, rfl⟩
  have HXH := Lib.hid hxh
  have hcx : w.cell? ⟨g, off + 1, none⟩ = some (.int .u8 x.toNat) := by rw [← hxd]; exact HC.out 0 (by omega)
  rw [hxd] at HBIG
  clear hxh hxd
  have q3 : decide ((0 : Int) < (k : Int)) = true := by simp; omega
  by_cases hx0 : x = 0
  · have e : Hid (dv (h :: t) = (0, 0)) := by
      have := e1.out
      rw [if_pos (.inl ⟨by omega, by rw [HXH.out, hx0]⟩)] at this
      exact this
    subst hx0
    have hx00 : ((0 : UInt8).toNat : Int) = 0 := rfl
    rw [hx00] at hcx
    clear hx00 hneg
    go_enter Tryd.func36, Tryd.ntmps36
    go_wp2
    go_ret2
    exact ⟨HF.out 0 0 e.out, rfl⟩
  have hxn : ((x.toNat : Int) == 0) = false := by
    have : x.toNat ≠ 0 := fun e => hx0 (by rw [← UInt8.toNat_inj]; exact e)
    simp; omega
  by_cases h8 : k = 8 ∧ 127 < x.toNat
  · have e : Hid (dv (h :: t) = (0, 0)) := by
      have := e1.out
      rw [if_pos (.inr (HBIG.out.2 h8))] at this
      exact this
    obtain ⟨h8a, h8b⟩ := h8
    subst h8a
    have q5 : decide ((127 : Int) < (x.toNat : Int)) = true := by simp; omega
    clear hneg
    go_enter Tryd.func36, Tryd.ntmps36
    go_wp2
    go_ret2
    exact ⟨HF.out 0 0 e.out, rfl⟩
  have hnn : ¬ ((0 < k ∧ t.head? = some 0) ∨ 9223372036854775807 < Wm.val (t.take k)) := by
    rintro (⟨_, hh⟩ | hh)
    · rw [HXH.out] at hh; simp at hh; exact hx0 hh
    · exact h8 (HBIG.out.1 hh)
  have hVm : Wm.val (t.take k) ≤ 9223372036854775807 := by omega
  have q68 : (((k : Int) == 8) = false) ∨ (((k : Int) == 8) = true ∧ decide ((127 : Int) < (x.toNat : Int)) = false) := by
    by_cases h : k = 8
    · right; exact ⟨by simp [h], by simp; omega⟩
    · left; simp; omega
  have HNN := Lib.hid hnn
  clear hnn HBIG h8 hx0
  rcases hneg with ⟨hn, hn2⟩ | ⟨hn, hn2⟩
  · have e : Hid (dv (h :: t) = (-1 - (Wm.val (t.take k) : Int), 1 + k)) := by
      have := e1.out
      rw [if_neg HNN.out, if_pos hn2] at this
      exact this
    clear e1 hn2
    rcases q68 with q6 | ⟨q6, q7⟩
    all_goals
      go_enter Tryd.func36, Tryd.ntmps36
      go_wp2
      go_loop [5, 6] (fun a i => ∃ j : Nat, j ≤ k ∧ i = .int .i64 ((j + 1 : Nat) : Int) ∧ a = .int .i64 ((Wm.val (t.take j) : Nat) : Int)) (fun _ i => k + 1 - (intOf i).toNat)
      case atStart => exact ⟨0, Nat.zero_le _, rfl, rfl⟩
      case round =>
        obtain ⟨j, hj, rfl, rfl⟩ := hrel
        by_cases hlt : j < k
        · have hcj : w.cell? ⟨g, off + (j + 1), none⟩ = some (.int .u8 (t.getD j 0).toNat) := by
            have := HC.out j (by omega)
            rw [show off + 1 + j = off + (j + 1) by omega] at this
            exact this
          have hsn : Wm.val (t.take (j + 1)) = Wm.val (t.take j) * 256 + (t.getD j 0).toNat := by
            rw [List.take_succ_eq_append_getElem (by omega), Wm.val_snoc]
            simp [List.getD, show j < t.length by omega]
          have hb3 : Wm.val (t.take (j + 1)) ≤ 9223372036854775807 := by
            by_cases hjk : j + 1 = k
            · rw [hjk]; exact hVm
            · have h1 := Wm.val_lt (t.take (j + 1))
              have h2 : (t.take (j + 1)).length ≤ 7 := by rw [List.length_take]; omega
              have h3 : 256 ^ (t.take (j + 1)).length ≤ 256 ^ 7 := Nat.pow_le_pow_right (by omega) h2
              have h4 : (256 : Nat) ^ 7 = 72057594037927936 := by decide
              omega
          have hxl := (t.getD j 0).toNat_lt
          rw [hsn] at hb3
          have HSN := Lib.hid hsn
          clear hsn
          generalize (t.getD j 0) = y at *
          generalize Wm.val (t.take j) = vv at *
          go_wp2
          go_round
          case rel => exact ⟨j + 1, by omega, by go_num, by rw [HSN.out]; go_num⟩
          case measure => simp [intOf]; omega
        · obtain rfl : j = k := by omega
          clear hlt hj
          generalize Wm.val (t.take j) = V at *
          go_wp2
          go_ret2
          exact ⟨HF.out _ _ e.out, rfl⟩
  · have e : Hid (dv (h :: t) = ((Wm.val (t.take k) : Int), 1 + k)) := by
      have := e1.out
      rw [if_neg HNN.out, if_neg hn2] at this
      exact this
    clear e1 hn2
    rcases q68 with q6 | ⟨q6, q7⟩
    all_goals
      go_enter Tryd.func36, Tryd.ntmps36
      go_wp2
      go_loop [5, 6] (fun a i => ∃ j : Nat, j ≤ k ∧ i = .int .i64 ((j + 1 : Nat) : Int) ∧ a = .int .i64 ((Wm.val (t.take j) : Nat) : Int)) (fun _ i => k + 1 - (intOf i).toNat)
      case atStart => exact ⟨0, Nat.zero_le _, rfl, rfl⟩
      case round =>
        obtain ⟨j, hj, rfl, rfl⟩ := hrel
        by_cases hlt : j < k
        · have hcj : w.cell? ⟨g, off + (j + 1), none⟩ = some (.int .u8 (t.getD j 0).toNat) := by
            have := HC.out j (by omega)
            rw [show off + 1 + j = off + (j + 1) by omega] at this
            exact this
          have hsn : Wm.val (t.take (j + 1)) = Wm.val (t.take j) * 256 + (t.getD j 0).toNat := by
            rw [List.take_succ_eq_append_getElem (by omega), Wm.val_snoc]
            simp [List.getD, show j < t.length by omega]
          have hb3 : Wm.val (t.take (j + 1)) ≤ 9223372036854775807 := by
            by_cases hjk : j + 1 = k
            · rw [hjk]; exact hVm
            · have h1 := Wm.val_lt (t.take (j + 1))
              have h2 : (t.take (j + 1)).length ≤ 7 := by rw [List.length_take]; omega
              have h3 : 256 ^ (t.take (j + 1)).length ≤ 256 ^ 7 := Nat.pow_le_pow_right (by omega) h2
              have h4 : (256 : Nat) ^ 7 = 72057594037927936 := by decide
              omega
          have hxl := (t.getD j 0).toNat_lt
          rw [hsn] at hb3
          have HSN := Lib.hid hsn
          clear hsn
          generalize (t.getD j 0) = y at *
          generalize Wm.val (t.take j) = vv at *
          go_wp2
          go_round
          case rel => exact ⟨j + 1, by omega, by go_num, by rw [HSN.out]; go_num⟩
          case measure => simp [intOf]; omega
        · obtain rfl : j = k := by omega
          clear hlt hj
          generalize Wm.val (t.take j) = V at *
          go_wp2
          go_ret2
          exact ⟨HF.out _ _ e.out, rfl⟩
theorem ref_get (v : Value) (l : List UInt8) (w : World) (h : BytC v l w) (hl : l.length ≤ 1000000000000) :
    Calls Tryd.prog 36 #[v] w fun e w' => e = .returned (.tuple #[.int .i64 (dv l).1, .int .i64 ((dv l).2 : Nat)]) ∧ w = w' := by
  rcases h with ⟨a, c, rfl, rfl⟩ | ⟨g, off, cap, rfl, hc, hg, hcell⟩
  · exact ref_get_nil a c w
  · cases l with
    | nil => exact ref_get_nil _ _ w
    | cons x t' =>
      refine ref_get_cons g off cap x t' w hl (hcell 0 (by simp)) ?_
      intro j hj
      have := hcell (j + 1) (by simpa using hj)
      rw [show off + 1 + j = off + (j + 1) by omega, this]
      simp
/-- what GetText answers -/
def gtx (l : List UInt8) : List UInt8 × Nat :=
  if (dv l).2 = 0 ∨ (dv l).1 < 0 ∨ (l.length : Int) - ((dv l).2 : Nat) < (dv l).1 then ([], 0)
  else ((l.drop (dv l).2).take (dv l).1.toNat, (dv l).2 + (dv l).1.toNat)
theorem dv_none {l : List UInt8} (h : Wm.dec l = none) : dv l = (0, 0) := by unfold dv; rw [h]; rfl
theorem dv_some {l : List UInt8} {n : Int} {k : Nat} (h : Wm.dec l = some (n, k)) : dv l = (n, k) := by unfold dv; rw [h]; rfl
theorem gtx_rtext (l : List UInt8) : ((gtx l).2 = 0 ∧ (gtx l).1 = [] ∧ rtext (some l) = ([], none)) ∨ (0 < (gtx l).2 ∧ (gtx l).2 ≤ l.length ∧ rtext (some l) = ((gtx l).1, some (l.drop (gtx l).2))) := by
  rcases hd : Wm.dec l with _ | ⟨n, k⟩
  · left
    have e := dv_none hd
    refine ⟨by simp [gtx, e], by simp [gtx, e], ?_⟩
    simp [rtext, btw, hd, rt2]
  · obtain ⟨hin, hk1, hk9, hkl⟩ := Wm.dec_some hd
    have e := dv_some hd
    unfold Wm.inR at hin
    by_cases hb : n < 0 ∨ (l.length : Int) - (k : Nat) < n
    · left
      have hg : gtx l = ([], 0) := by unfold gtx; rw [e]; rw [if_pos (.inr hb)]
      refine ⟨by rw [hg], by rw [hg], ?_⟩
      by_cases hn : n < 0
      · simp [rtext, btw, hd, rt2, hn]
      · have hbt : btw 0 9223372036854775807 (some l) = (n, some (l.drop k)) := by simp only [btw, hd]; rw [if_neg (by omega)]
        unfold rtext; rw [hbt]; simp only [rt2]; rw [if_pos (by rw [List.length_drop]; omega)]
    · right
      have hg : gtx l = ((l.drop k).take n.toNat, k + n.toNat) := by unfold gtx; rw [e]; rw [if_neg (by simp only; omega)]
      rw [hg]
      refine ⟨by simp only; omega, by simp only; omega, ?_⟩
      have hbt : btw 0 9223372036854775807 (some l) = (n, some (l.drop k)) := by simp only [btw, hd]; rw [if_neg (by omega)]
      unfold rtext; rw [hbt]; simp only [rt2]; rw [if_neg (by rw [List.length_drop]; omega)]
      rw [List.drop_drop]
set_option maxHeartbeats 1000000 in
theorem ref_gettext (v : Value) (l : List UInt8) (w : World) (h : BytC v l w) (hl : l.length ≤ 1000000000) :
    Calls Tryd.prog 37 #[v] w fun e w' => e = .returned (.tuple #[.string (bstr (gtx l).1), .int .i64 ((gtx l).2 : Nat)]) ∧ w = w' := by
  have hfin : ∀ (a : List UInt8) (m : Nat), gtx l = (a, m) → (Ending.returned (.tuple #[.string (bstr a), .int .i64 (m : Int)]) = Ending.returned (.tuple #[.string (bstr (gtx l).1), .int .i64 ((gtx l).2 : Nat)])) := by
    intro n m e; rw [e]
  have HF := Lib.hid hfin
  clear hfin
  have hgx : gtx l = if (dv l).2 = 0 ∨ (dv l).1 < 0 ∨ (l.length : Int) - ((dv l).2 : Nat) < (dv l).1 then ([], 0) else ((l.drop (dv l).2).take (dv l).1.toNat, (dv l).2 + (dv l).1.toNat) := rfl
  have hbd : (dv l).2 ≤ l.length ∧ (dv l).2 ≤ 9 ∧ (dv l).1 ≤ 9223372036854775807 := by
    rcases hd : Wm.dec l with _ | ⟨n, k⟩
    · rw [dv_none hd]; exact ⟨Nat.zero_le _, by simp, by simp⟩
    · obtain ⟨hin, hk1, hk9, hkl⟩ := Wm.dec_some hd
      rw [dv_some hd]; unfold Wm.inR at hin; exact ⟨hkl, hk9, hin.2⟩
  obtain ⟨va, vc, rfl⟩ := h.form
  have H := Lib.hid h
  have hget := ref_get _ l w h (by omega)
  have HGET := Lib.hid hget
  clear h hget
  generalize dv l = d at *
  obtain ⟨n, k⟩ := d
  simp only at *
  by_cases hb : k = 0 ∨ n < 0 ∨ (l.length : Int) - (k : Nat) < n
  · have e : Hid (gtx l = ([], 0)) := by show _ = _; rw [hgx, if_pos hb]
    have hlit : (⟨#[]⟩ : ByteArray) = bstr [] := rfl
    have hd : (((k : Int) == 0) = true) ∨ (((k : Int) == 0) = false ∧ decide (n < 0) = true) ∨ (((k : Int) == 0) = false ∧ decide (n < 0) = false ∧ decide ((l.length : Int) - (k : Int) < n) = true) := by
      by_cases h1 : k = 0
      · left; simp [h1]
      · right
        by_cases h2 : n < 0
        · left; exact ⟨by simp; omega, by simpa using h2⟩
        · right; exact ⟨by simp; omega, by simpa using h2, by simp; omega⟩
    clear hgx hb
    rcases hd with h1 | ⟨h1, h2⟩ | ⟨h1, h2, h3⟩
    all_goals
      go_enter Tryd.func37, Tryd.ntmps37
      go_wp2_with fail
      refine HGET.out.mono ?_
      rintro e' w1 ⟨rfl, rfl⟩
      go_wp2
      go_ret2
      exact ⟨HF.out [] 0 e.out, rfl⟩
  · have e : Hid (gtx l = ((l.drop k).take n.toNat, k + n.toNat)) := by show _ = _; rw [hgx, if_neg hb]
    have h1 : ((k : Int) == 0) = false := by simp; omega
    have h2 : decide (n < 0) = false := by simp; omega
    have h3 : decide ((l.length : Int) - (k : Int) < n) = false := by simp; omega
    obtain ⟨m, rfl⟩ : ∃ m : Nat, n = (m : Int) := ⟨n.toNat, by omega⟩
    obtain ⟨a, c, b2, d2, hsv, hbyt, hrun⟩ := H.out.mid k m (by omega)
    simp only [Value.slice.injEq, true_and] at hsv
    obtain ⟨rfl, rfl⟩ := hsv
    have hstr := hbyt.str
    have hm9 : m ≤ 1000000000 := by omega
    have hks : (k : Int) + (m : Int) = ((k + m : Nat) : Int) := by omega
    rw [← hks] at hrun
    simp only [Int.toNat_natCast] at e
    clear hgx hb hbyt hks
    go_enter Tryd.func37, Tryd.ntmps37
    go_wp2_with fail
    refine HGET.out.mono ?_
    rintro e' w1 ⟨rfl, rfl⟩
    go_wp2
    go_ret2
    exact ⟨by have := HF.out _ _ e.out; simpa using this, rfl⟩
end Go.Proofs.YtmipomglbccjbaaDoor
