/- Slices of bytes in memory, for the walks over layer 3. -/
import Derived.Test.YtmipomglbccjbaaDoorValR1
import Derived.Test.YtmipomglbccjbaaDoorKitAppend
import Derived.Lib.Builder
namespace Go.Proofs.YtmipomglbccjbaaDoor
open Go.RowKit

/-- bytes as cells -/
def yc (l : List UInt8) : List Value := l.map fun b => Value.int .u8 b.toNat
theorem yc_length (l : List UInt8) : (yc l).length = l.length := by simp [yc]
theorem yc_get (l : List UInt8) (j : Nat) : (yc l)[j]? = l[j]?.map fun b => Value.int .u8 b.toNat := by simp [yc]
theorem yc_one (l : List UInt8) : ∀ u ∈ yc l, u.oneCell' = true := by
  intro u hu; obtain ⟨b, _, rfl⟩ := List.mem_map.1 hu; rfl
/-- BYTES: what is known of their cells -/
def Yt (v : Value) (l : List UInt8) (w : World) : Prop :=
  (∃ a c, v = .slice a 0 c ∧ l = []) ∨
  ∃ g off cap, v = .slice (some ⟨g, off, none⟩) l.length cap ∧ l.length ≤ cap ∧ g < w.heap.size ∧ ∀ j, j < l.length → w.cell? ⟨g, off + j, none⟩ = some (Value.int .u8 (l.getD j 0).toNat)
theorem Yt.keep {v : Value} {l : List UInt8} {w w' : World} (h : Yt v l w) (hb : Below w.heap.size w w') : Yt v l w' := by
  rcases h with h | ⟨g, off, cap, rfl, hc, hg, hcell⟩
  · exact .inl h
  · exact .inr ⟨g, off, cap, rfl, hc, by have := hb.size; omega, fun j hj => (hb.cell (p := ⟨g, off + j, none⟩) hg).trans (hcell j hj)⟩
theorem Yt.form {v : Value} {l : List UInt8} {w : World} (h : Yt v l w) : ∃ a c, v = .slice a l.length c := by
  rcases h with ⟨a, c, rfl, rfl⟩ | ⟨g, off, cap, rfl, _⟩
  · exact ⟨_, _, rfl⟩
  · exact ⟨_, _, rfl⟩
theorem Yt.src {v : Value} {l : List UInt8} {w : World} (h : Yt v l w) : Src Tryd.prog 1 25 v l.length (yc l) w := by
  rcases h with ⟨a, c, rfl, rfl⟩ | ⟨g, off, cap, rfl, _, _, hc⟩
  · cases a with
    | none => exact Src.ofNil w Tryd.underlying25 c
    | some a => exact Src.ofSlice w Tryd.underlying25 a 0 c [] rfl (fun j u h => by simp at h) (fun u h => by simp at h)
  · refine Src.ofSlice w Tryd.underlying25 ⟨g, off, none⟩ l.length cap (yc l) (by rw [yc_length]; omega) ?_ (yc_one l)
    intro j u hj
    have hjn : j < l.length := by
      have := (List.getElem?_eq_some_iff.1 hj).1
      rwa [yc_length] at this
    rw [yc_get] at hj
    have hadd : (⟨g, off, none⟩ : Addr).add j = ⟨g, off + j, none⟩ := by unfold Addr.add; split <;> simp_all
    rw [hadd, hc j hjn]
    simpa [List.getD, hjn] using hj
theorem Yt.str {v : Value} {l : List UInt8} {w : World} (h : Yt v l w) : (convert 25 9 v).run Tryd.prog w = .ok (.string (bstr l)) w := by
  rcases h with ⟨a, c, rfl, rfl⟩ | ⟨g, off, cap, rfl, _, _, hc⟩
  · cases a with
    | none => exact run_convert_bytes_nil w 25 5 Tryd.underlying25 Tryd.underlying5 0 c 9 Tryd.underlying9
    | some a =>
      rw [run_convert_bytes_string w 25 9 5 _ 0 c Tryd.underlying25 Tryd.underlying5 Tryd.underlying9, run_bytesToString w _ 0 c [] (by simp [loadCells, loadCellsFrom])]
      rfl
  · rw [run_convert_bytes_arg w 25 5 Tryd.underlying25 Tryd.underlying5 g off l.length cap (l.map fun b => (b.toNat : Int)) (by simp) ?_ 9 Tryd.underlying9]
    · have : strOfNums (l.map fun b => (b.toNat : Int)) = bstr l := by
        unfold strOfNums bstr
        congr 2
        rw [List.map_map]
        conv => rhs; rw [← List.map_id l]
        apply List.map_congr_left
        intro a _
        simp
      rw [this]
    · intro i hi
      rw [hc i hi]
      simp [List.getD, hi]
theorem Yt.of_own {w : World} {B : Nat} {v : Value} {l : List UInt8} {n : Nat} (h : w.ownsRow B 5 1 v n (yc l)) : Yt v l w := by
  obtain ⟨h1, h2⟩ := h
  have hn : l.length = n := by rw [yc_length] at h1; omega
  rcases h2 with ⟨rfl, rfl⟩ | ⟨g, cap, cur, rfl, _, hg, hc, hm, hs, ht⟩
  · exact .inl ⟨_, _, rfl, List.eq_nil_of_length_eq_zero hn⟩
  · refine .inr ⟨g, 0, cap, by rw [hn], by omega, (Array.getElem?_eq_some_iff.1 hg).1, fun j hj => ?_⟩
    have hb : (yc l)[j]? = some (Value.int .u8 (l.getD j 0).toNat) := by rw [yc_get]; simp [List.getD, hj]
    rw [← ht, List.getElem?_take] at hb
    rw [Lib.cell_of_heap hg, Nat.zero_add]
    split at hb
    · simpa using hb
    · cases hb
end Go.Proofs.YtmipomglbccjbaaDoor
