/- Package sector: a write as a struct value, and as a row of one. -/
import Derived.Test.YtofbignggadkiaaSecC4
namespace Go.Proofs.Ytofbignggadkiaa
open Go.RowKit

theorem fill_list (off : Nat) : ∀ (vs : List Value) (k : Nat) (A : Array Value), off + k + vs.length ≤ A.size →
    (vs.zipIdx k).foldl (fun (cs : Array Value) (p : Value × Nat) => cs.setIfInBounds (off + p.2) p.1) A = (A.toList.take (off + k) ++ vs ++ A.toList.drop (off + k + vs.length)).toArray
  | [], k, A, _ => by
    simp
  | v :: r, k, A, h => by
    rw [List.length_cons] at h
    rw [List.zipIdx_cons, List.foldl_cons, fill_list off r (k + 1) _ (by rw [Array.size_setIfInBounds]; omega)]
    congr 1
    have e := list_seg_step A.toList (off + k) v r (by rw [Array.length_toList]; omega)
    simpa [Array.toList_setIfInBounds, Nat.add_assoc] using e
theorem fill_arr (off : Nat) (V A : Array Value) (h : off + V.size ≤ A.size) :
    (V.zipIdx.foldl (fun (cs : Array Value) (p : Value × Nat) => cs.setIfInBounds (off + p.2) p.1) A) = (A.toList.take off ++ V.toList ++ A.toList.drop (off + V.size)).toArray := by
  rw [← Array.foldl_toList, Array.toList_zipIdx]
  exact fill_list off V.toList 0 A (by simpa using h)
theorem fill_cons (place : Nat → Option (Nat × Nat)) (A : Array Value) (i off size : Nat) (v : Value) (rest : List (Nat × Value)) (hp : place i = some (off, size)) (hs : v.cells.size = size) (hf : off + size ≤ A.size) :
    Instr.fill place A ((i, v) :: rest) = Instr.fill place (A.toList.take off ++ v.cells.toList ++ A.toList.drop (off + size)).toArray rest := by
  subst hs
  rw [Instr.fill, hp]
  dsimp only
  rw [if_neg (by simp; omega)]
  exact congrArg (fun x => Instr.fill place x rest) (fill_arr off v.cells A hf)
theorem infoW : (Try.prog.info? 89).map (fun i => (i.zero, i.size, i.bytes)) = some (some (.agg (#[.int .i64 0] ++ Array.replicate 64 (.int .u8 0))), 65, 72) := by kernel_rfl
theorem built_write (n : Int) (C : Array Value) (hC : C.size = 64) : Try.prog.built 89 [(0, .int .i64 n), (1, .agg C)] = some (#[.int .i64 n] ++ C) := by
  obtain ⟨i0, hi0, hz0, _, _⟩ := info_of infoW
  have hu := Try.underlying89
  unfold Program.built
  rw [hi0, hu]
  simp only [hz0]
  have hp : ∀ (f : Field → Option (Nat × Nat)) (a b : Field) (x y : Nat × Nat), f a = some x → f b = some y → (#[a, b].toList.mapM f) = some [x, y] := by
    intro f a b x y h1 h2
    simp [h1, h2]
  rw [hp _ _ _ (0, 1) (1, 64) (by kernel_rfl) (by kernel_rfl)]
  dsimp only
  obtain ⟨A, hA⟩ : ∃ A, A = (Value.agg (#[Value.int .i64 0] ++ Array.replicate 64 (Value.int .u8 0))).cells := ⟨_, rfl⟩
  have hs : A.size = 65 := by rw [hA]; rfl
  rw [← hA]
  clear hA hz0 hu hp
  rw [fill_cons _ A 0 0 1 (.int .i64 n) _ rfl rfl (by omega)]
  rw [fill_cons _ _ 1 1 64 (.agg C) _ rfl hC (by simp [Value.cells]; omega)]
  rw [Instr.fill]
  refine congrArg some ?_
  apply Array.ext'
  have h1 : (Value.int .i64 n).cells.toList = [.int .i64 n] := rfl
  have h2 : (Value.agg C).cells.toList = C.toList := rfl
  rw [h1, h2]
  rw [List.drop_eq_nil_of_le (i := 1 + 64) (by simp; omega)]
  simp
/-- a row of one write -/
theorem run_row1 (n : Int) (C : Array Value) (hC : C.size = 64) (w : World) : (Instr.buildSlice 69 1 #[(0, .agg (#[.int .i64 n] ++ C))]).run Try.prog w = .ok (.slice (some ⟨w.heap.size, 0, none⟩) 1 1) (w.alloc (.cells (#[.int .i64 n] ++ C) 89)) := by
  obtain ⟨i0, hi0, hz0, hz1, _⟩ := info_of infoW
  have hf : ∀ A : Array Value, A.size = 65 → Instr.fill (fun i => some (i * 65, 65)) A [(0, .agg (#[.int .i64 n] ++ C))] = some (#[.int .i64 n] ++ C) := fun A hA => by
    rw [fill_cons _ A 0 (0 * 65) 65 _ _ rfl (by show (#[Value.int .i64 n] ++ C).size = 65; simp [hC]) (by omega), Instr.fill]
    refine congrArg some ?_
    apply Array.ext'
    have h2 : (Value.agg (#[Value.int .i64 n] ++ C)).cells.toList = (#[Value.int .i64 n] ++ C).toList := rfl
    rw [h2, List.drop_eq_nil_of_le (by simp; omega)]
    simp
  have hl : 1 * i0.size = 65 := by rw [hz1]
  simp [Instr.buildSlice, run_underlying Try.underlying69, sizeOf, typeInfo, zeroValue, hi0, hz0, hz1, hf, newRow]
end Go.Proofs.Ytofbignggadkiaa
