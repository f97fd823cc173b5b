/- Package log: a number read out of bytes, and written into bytes: number, putNumber. -/
import Derived.Test.YtofbignggadkiaaLogCon
import Derived.Test.YtofbignggadkiaaLogPl
import Derived.Laws.Bits64b
import Derived.Laws.Rows
import Derived.Laws.CopyOwn
import Derived.Test.YtofbignggadkiaaSecKit
import Derived.Deep.RegionLaw
import Derived.BigRegion
import Derived.Stop.BytesEq
import Derived.Laws.Tables
namespace Go.Proofs.Ytofbignggadkiaa
open Go.RowKit

/-- the number of bytes, the greatest first -/
def Lm.vlGo : Nat → List UInt8 → Nat
  | n, [] => n
  | n, b :: r => Lm.vlGo (256 * n + b.toNat) r
def Lm.vl (l : List UInt8) : Nat := Lm.vlGo 0 l
theorem Lm.vlGo_append : ∀ (a b : List UInt8) (n : Nat), Lm.vlGo n (a ++ b) = Lm.vlGo (Lm.vlGo n a) b
  | [], _, _ => rfl
  | x :: a, b, n => by rw [List.cons_append, Lm.vlGo, Lm.vlGo, Lm.vlGo_append a b]
theorem Lm.vl_snoc (l : List UInt8) (x : UInt8) : Lm.vl (l ++ [x]) = 256 * Lm.vl l + x.toNat := by
  unfold Lm.vl; rw [Lm.vlGo_append]; rfl
theorem Lm.vl_take (l : List UInt8) (i : Nat) (h : i < l.length) : Lm.vl (l.take (i + 1)) = 256 * Lm.vl (l.take i) + (l.getD i 0).toNat := by
  rw [← List.take_append_getElem h, Lm.vl_snoc]; simp [List.getD, h]
theorem Lm.vl_lt : ∀ (l : List UInt8) (n m : Nat), n < 256 ^ m → Lm.vlGo n l < 256 ^ (m + l.length)
  | [], n, m, h => h
  | x :: r, n, m, h => by
    rw [Lm.vlGo, List.length_cons, show m + (r.length + 1) = (m + 1) + r.length by omega]
    refine Lm.vl_lt r _ _ ?_
    have := x.toNat_lt
    rw [Nat.pow_succ]; omega
theorem Lm.vl_b (l : List UInt8) : Lm.vl l < 256 ^ l.length := by
  have := Lm.vl_lt l 0 0 (by decide)
  simpa [Lm.vl] using this
/-- what the reference reads of bytes -/
theorem Lm.num_vl : ∀ (l : List UInt8) (n : Nat), Lm.vlGo n l < 4611686018427387904 → Lm.numGo n l = (Lm.vlGo n l : Int)
  | [], n, _ => rfl
  | x :: r, n, h => by
    have h1 : ∀ (r : List UInt8) (k : Nat), k ≤ Lm.vlGo k r := by
      intro r
      induction r with
      | nil => intro k; exact Nat.le_refl _
      | cons y r ih => intro k; rw [Lm.vlGo]; have := ih (256 * k + y.toNat); omega
    rw [Lm.vlGo] at h
    rw [Lm.numGo, if_neg, Lm.vlGo, Lm.num_vl r _ h]
    have := h1 r (256 * n + x.toNat); omega
theorem Lm.num_neg : ∀ (l : List UInt8) (n : Nat), l ≠ [] → 4611686018427387904 ≤ Lm.vlGo n l → l.length ≤ 8 → n < 256 ^ (8 - l.length) → Lm.numGo n l = -1
  | [x], n, _, h, _, _ => by
    rw [Lm.vlGo, Lm.vlGo] at h
    have := x.toNat_lt
    rw [Lm.numGo, if_pos (by omega)]
  | x :: y :: r, n, _, h, hl, hn => by
    rw [Lm.vlGo] at h
    rw [Lm.numGo]
    split
    · rfl
    · refine Lm.num_neg (y :: r) _ (by simp) h (by simp at hl ⊢; omega) ?_
      have := x.toNat_lt
      have e : 8 - (y :: r).length = (8 - (x :: y :: r).length) + 1 := by simp at hl ⊢; omega
      rw [e, Nat.pow_succ]; omega
/-- one byte more -/
theorem or_byte (U : Nat) (c : UInt8) (h : U < 72057594037927936) : bits .or .i64 (wrap64 ((U : Int) * 256)) (c.toNat : Int) = wrap64 ((256 * U + c.toNat : Nat) : Int) := by
  have hc := c.toNat_lt
  have h1 : (BitVec.ofInt 64 (wrap64 ((U : Int) * 256))).toNat = U * 256 := by
    rw [BitVec.toNat_ofInt]; unfold wrap64; omega
  have h2 : (BitVec.ofInt 64 (c.toNat : Int)).toNat = c.toNat := by
    rw [BitVec.ofInt_natCast, BitVec.toNat_ofNat]; exact Nat.mod_eq_of_lt (by omega)
  show IntKind.i64.wrap ((BitVec.ofInt 64 (wrap64 ((U : Int) * 256)) ||| BitVec.ofInt 64 (c.toNat : Int)).toNat : Int) = _
  have h3 : U * 256 ||| c.toNat = 256 * U + c.toNat := by
    rw [Nat.mul_comm U 256]
    exact (Nat.two_pow_add_eq_or_of_lt (i := 8) (by omega) U).symm
  rw [BitVec.toNat_or, h1, h2, h3, IntWalk.i64_left]
set_option maxHeartbeats 2000000 in
theorem log_number (a : Option Addr) (n c : Nat) (l : List UInt8) (w : World) (h : Yt (.slice a n c) l w) (hl : l.length ≤ 8) :
    Calls Try.prog 59 #[.slice a n c] w fun e w' => e = .returned (.int .i64 (wrap64 (Lm.vl l : Int))) ∧ w = w' := by
  have hn : n = l.length := by obtain ⟨_, _, e⟩ := h.form; injection e
  have HN := Lib.hid hn
  have hn8 : n ≤ 8 := by omega
  have HY := Lib.hid h
  clear h hn hl
  go_enter Try.func59, Try.ntmps59
  go_wp2_with fail
  go_loopw [3, 8] (fun qv iv wr => ∃ (i U : Nat) (q : Int), i ≤ n ∧ qv = .int .i64 q ∧ iv = .int .i64 (i : Int) ∧ Hid (q = wrap64 (U : Int) ∧ U = Lm.vl (l.take i)) ∧ w = wr) (fun _ iv _ => n - (ixOf iv).toNat)
  case atStart => exact ⟨0, 0, 0, Nat.zero_le _, rfl, rfl, ⟨by unfold wrap64; omega, rfl⟩, rfl⟩
  case round =>
    obtain ⟨i, U, q, hi, rfl, rfl, HU, rfl⟩ := hrel
    by_cases hlt : i < n
    · have hil : i < l.length := by have := HN.out; omega
      rcases HY.out with ⟨_, _, e, e2⟩ | ⟨g, off, cap, e, hc, hg, hcell⟩
      · exfalso; rw [e2] at hil; cases hil
      injection e with e1 e2 e3
      subst e1 e3
      obtain ⟨x, hx⟩ : ∃ x, x = l.getD i 0 := ⟨_, rfl⟩
      have hcl := hcell i hil
      rw [← hx] at hcl
      have hU := HU.out.2
      have hUb : U < 72057594037927936 := by
        have h1 := Lm.vl_b (l.take i)
        have h2 : (256 : Nat) ^ (l.take i).length ≤ 256 ^ 7 := Nat.pow_le_pow_right (by decide) (by rw [List.length_take]; have := HN.out; omega)
        have h3 : (256 : Nat) ^ 7 = 72057594037927936 := by decide
        omega
      have hq : q = (U : Int) := by rw [HU.out.1]; unfold wrap64; omega
      obtain ⟨Y, hY⟩ : ∃ Y : Int, Y = wrap64 ((U : Int) * 256) := ⟨_, rfl⟩
      obtain ⟨Z, hZ⟩ : ∃ Z : Int, Z = wrap64 ((256 * U + x.toNat : Nat) : Int) := ⟨_, rfl⟩
      have hor : bits .or .i64 Y (x.toNat : Int) = Z := by rw [hY, hZ]; exact or_byte U x hUb
      have hw1 : wrap64 (q * 256) = Y := by rw [hq, hY]
      obtain ⟨X, hX⟩ : ∃ X : Int, X = (x.toNat : Int) := ⟨_, rfl⟩
      rw [← hX] at hor hcl
      have hX0 : 0 ≤ X := by omega
      have hX1 : X ≤ 255 := by have := x.toNat_lt; omega
      have hwx : wrap64 X = X := by unfold wrap64; omega
      have HR : Hid (Z = wrap64 ((256 * U + x.toNat : Nat) : Int) ∧ 256 * U + x.toNat = Lm.vl (l.take (i + 1))) := ⟨hZ, by rw [Lm.vl_take l i hil, ← hx, hU]⟩
      have hni : (i : Int) < (n : Int) := by omega
      have hcn : n ≤ c := by have := HN.out; omega
      clear hx hU hUb hq hY hZ hX hcell HU hc hil e2
      go_wp2
      go_roundw
      case rel => exact ⟨i + 1, _, Z, by omega, rfl, by go_num, HR, trivial⟩
      case measure => simp [ixOf]; omega
    · have hin : i = n := by omega
      have HF : Hid (q = wrap64 (Lm.vl l : Int)) := by show _ = _; rw [HU.out.1, HU.out.2, List.take_of_length_le (by have := HN.out; omega)]
      clear HU hin
      go_wp2
      go_ret
      exact ⟨by rw [HF.out]; rfl, rfl⟩
theorem be_app : ∀ (k : Nat) (m j : Nat), j < k → (Lm.be k m)[j]? = some (UInt8.ofNat (m / 256 ^ (k - 1 - j)))
  | 0, _, _, h => by omega
  | k + 1, m, 0, _ => by simp [Lm.be]
  | k + 1, m, j + 1, h => by
    rw [Lm.be, List.getElem?_cons_succ, be_app k m j (by omega)]
    congr 4; omega
theorem splice_step (cur : List Value) (off : Nat) (l : List Value) (v : Value) (h : off + l.length < cur.length) : (splice cur off l).set (off + l.length) v = splice cur off (l ++ [v]) := by
  unfold splice
  have h0 : (cur.take off).length = off := by rw [List.length_take]; omega
  rw [List.set_append_right _ _ (by omega), h0, Nat.add_sub_cancel_left, List.set_append_right _ _ (Nat.le_refl _), Nat.sub_self, List.drop_eq_getElem_cons h, List.set_cons_zero, List.length_append, List.append_assoc]
  rfl
set_option maxHeartbeats 2000000 in
theorem log_put (g off L c m : Nat) (cur : List Value) (t : TypeId) (w : World) (hg : w.heap[g]? = some (.cells cur.toArray t (0, 0))) (hoff : off + L ≤ cur.length) (hL : L ≤ 8) (_hc : L ≤ c) (_hm : (m : Int) ≤ 9223372036854775807) :
    Calls Try.prog 61 #[.slice (some ⟨g, off, none⟩) L c, .int .i64 (m : Int)] w fun e w' => e = .returned (.tuple #[]) ∧ w'.heap[g]? = some (.cells (splice cur off (yc (Lm.be L m))).toArray t (0, 0)) ∧ Only (fun k => k = g) w w' := by
  have HG := Lib.hid hg
  clear hg
  go_enter Try.func61, Try.ntmps61
  go_wp2_with fail
  go_loopw [4, 7] (fun _ iv wr => ∃ i : Nat, i ≤ L ∧ iv = .int .i64 (i : Int) ∧ Hid (wr.heap[g]? = some (.cells (splice cur off (yc ((Lm.be L m).take i))).toArray t (0, 0))) ∧ Hid (Only (fun k => k = g) w wr)) (fun _ iv _ => L - (ixOf iv).toNat)
  case atStart => exact ⟨0, Nat.zero_le _, rfl, by show _ = _; rw [HG.out]; simp [splice, yc], Only.refl _ _⟩
  case round =>
    obtain ⟨i, hi, rfl, HW, HO⟩ := hrel
    by_cases hlt : i < L
    · have hbl := Lm.be_length L m
      obtain ⟨D, hD⟩ : ∃ D : Nat, D = L - 1 - i := ⟨_, rfl⟩
      obtain ⟨x, hx⟩ : ∃ x, x = UInt8.ofNat (m / 256 ^ D) := ⟨_, rfl⟩
      have hget : (Lm.be L m)[i]? = some x := by rw [be_app L m i hlt, hx, hD]
      have htk : (Lm.be L m).take (i + 1) = (Lm.be L m).take i ++ [x] := by
        rw [← List.take_append_getElem (by omega)]
        rw [List.getElem?_eq_getElem (by omega)] at hget
        rw [Option.some.inj hget]
      have hlen : (yc ((Lm.be L m).take i)).length = i := by rw [yc_length, List.length_take]; omega
      have hst := splice_step cur off (yc ((Lm.be L m).take i)) (.int .u8 (x.toNat : Int)) (by rw [hlen]; omega)
      rw [hlen] at hst
      have HT : Hid ((splice cur off (yc ((Lm.be L m).take i))).set (off + i) (.int .u8 (x.toNat : Int)) = splice cur off (yc ((Lm.be L m).take (i + 1)))) := by
        show _ = _
        rw [hst, htk]; simp [yc]
      obtain ⟨C, hC⟩ : ∃ C, C = splice cur off (yc ((Lm.be L m).take i)) := ⟨_, rfl⟩
      rw [← hC] at HW HT
      have hCl : C.length = cur.length := by rw [hC]; exact length_splice _ _ _ (by rw [hlen]; omega)
      obtain ⟨v0, hv0⟩ : ∃ v0, C[off + i]? = some v0 := ⟨_, List.getElem?_eq_getElem (by omega)⟩
      have hcl : wr.cell? ⟨g, off + i, none⟩ = some v0 := by rw [Lib.cell_of_heap HW.out]; simpa using hv0
      have hfz := Lib.frozen_of_heap HW.out (off + i)
      have hlg := heap_lt HW.out
      have hgn : ¬ (w.heap.size ≤ g ∧ False) := fun h => h.2
      have hX : (m : Int) / 2 ^ (8 * (L - 1 - i)) % 256 = (x.toNat : Int) := by
        have e2 : (2 : Int) ^ (8 * D) = ((256 ^ D : Nat) : Int) := by rw [Int.pow_mul, Int.natCast_pow]; rfl
        rw [← hD, e2, ← Int.natCast_ediv, hx, UInt8.toNat_ofNat']; omega
      have hni : (i : Int) < (L : Int) := by omega
      have HS : Hid ((wr.setCell ⟨g, off + i, none⟩ (.int .u8 ((m : Int) / 2 ^ (8 * (L - 1 - i)) % 256))).heap[g]? = some (.cells (splice cur off (yc ((Lm.be L m).take (i + 1)))).toArray t (0, 0))) := by
        show _ = _
        rw [heap_setCell_same wr g (off + i) _ t _ HW.out, ← HT.out, hX]
        simp
      have HS2 : Hid (Only (fun k => k = g) w (wr.setCell ⟨g, off + i, none⟩ (.int .u8 ((m : Int) / 2 ^ (8 * (L - 1 - i)) % 256)))) := HO.out.setCell (q := ⟨g, off + i, none⟩) (.inl rfl) _
      clear hC hst htk hget hx hX hD hbl hlen HT HW HO hCl hv0 hgn
      go_wp2
      go_roundw
      case rel => exact ⟨i + 1, by omega, by go_num, HS, HS2⟩
      case measure => simp [ixOf]; omega
    · have hin : i = L := by omega
      have HF : Hid (wr.heap[g]? = some (.cells (splice cur off (yc (Lm.be L m))).toArray t (0, 0))) := by
        have := HW.out
        rw [List.take_of_length_le (by rw [Lm.be_length]; omega)] at this
        exact this
      clear HW hin
      go_wp2
      go_end0
      exact ⟨rfl, HF.out, HO.out⟩
end Go.Proofs.Ytofbignggadkiaa
/- Package log: the sector of a head or a frame: doubled, whole. -/
namespace Go.Proofs.Ytofbignggadkiaa
open Go.RowKit

section
variable {P : Program} {ops : Array Oper} {o : Oper} {a : Act} {w : World} {K : Act → World → Prop} {Q : Exit → Act → World → Prop} {E : Prop}
/-- a copy into a row that is known whole, as one step of a region that draws -/
theorem step_copy (hgd : o.guard = none) (d s : Operand) (dT sT : TypeId) (hop : o.op = .call { callee := .builtin .copy, args := #[d, s], argTypes := #[dT, sT] }) (elem : TypeId) (hu : P.underlying dT = some (.slice elem)) (hsz : (P.info? elem).map (·.size) = some 1)
    (dp sp : Option Addr) (dLen dCap sLen sCap : Nat) (hd : a.eval d = .slice dp dLen dCap) (hs : a.eval s = .slice sp sLen sCap)
    (g off : Nat) (cur : List Value) (t : TypeId) (hg : w.heap[g]? = some (.cells cur.toArray t (0, 0))) (cs : List Value) (hn : cs.length = Nat.min sLen dLen)
    (hpos : 0 < cs.length → dp = some ⟨g, off, none⟩ ∧ ∃ ad, sp = some ad ∧ ∀ j v, cs[j]? = some v → w.cell? (ad.add j) = some v)
    (hfit : off + cs.length ≤ cur.length) (h1 : ∀ v ∈ cs, v.oneCell' = true)
    (hK : ∀ w', Hid (w'.heap[g]? = some (.cells (splice cur off cs).toArray t (0, 0))) → Hid (Only (fun k => k = g) w w') → K (a.put o.dst (goInt cs.length)) w') :
    if Region.wanted o (yielded ops a.tmps) = true then Oper.wp P o a w K Q else E := by
  have hw : Region.wanted o (yielded ops a.tmps) = true := by simp [Region.wanted, hgd]
  rw [if_pos hw]
  by_cases h0 : cs.length = 0
  · obtain rfl : cs = [] := List.eq_nil_of_length_eq_zero h0
    have hrun := run_copy_none (P := P) w dT sT o.type elem dp sp dLen dCap sLen sCap hu hsz (by simpa using hn.symm)
    unfold Oper.wp
    simp [execOp, hop, resolve, invoke, builtin, hd, hs, hrun, Result.andThen]
    exact hK w (by show _ = _; rw [hg]; simp [splice]) (Only.refl _ _)
  · obtain ⟨rfl, ad, rfl, hsrc⟩ := hpos (by omega)
    have hrun := run_copy_row (P := P) w dT sT o.type elem g off dLen dCap ad sLen sCap cur.toArray t cs hu hsz hg hn hsrc (by simpa using hfit) h1
    unfold Oper.wp
    simp [execOp, hop, resolve, invoke, builtin, hd, hs, hrun, Result.andThen]
    refine hK _ ?_ ⟨rfl, rfl, rfl, by simp [World.setRow], fun k hk hp => setRow_other w g k _ hp⟩
    show _ = _
    rw [setRow_heap w g _ _ t (0, 0) hg]
    simp [splice]
end
theorem below_dk (w : World) (n : Nat) : Below w.heap.size w (w.drewN n) := ⟨rfl, rfl, rfl, Nat.le_refl _, fun _ _ => rfl⟩
theorem infoL2 : (Try.prog.info? 93).map (·.size) = some 64 := by kernel_rfl
theorem infoLz : (Try.prog.info? 93).map (fun i => (i.zero, i.size)) = some (some (.agg (Array.replicate 64 (.int .u8 0))), 64) := by kernel_rfl
theorem yc_all (l : List UInt8) : (yc l).toArray.all (·.oneCell') = true := all_oneCell_toArray (yc_one l)
theorem addr_add (g o j : Nat) : (⟨g, o, none⟩ : Addr).add j = ⟨g, o + j, none⟩ := by unfold Addr.add; split <;> simp_all
theorem yc_splice (s t : List UInt8) (off : Nat) : splice (yc s) off (yc t) = yc (splice s off t) := by
  unfold splice yc; simp [List.map_take, List.map_drop]
theorem below_only {B : Nat} {w w1 w2 : World} {g : Nat} (h : Below B w w1) (ho : Only (fun k => k = g) w1 w2) (hg : B ≤ g) (hB : B ≤ w1.heap.size) : Below B w w2 :=
  h.trans (only_bel ho hB (fun k hk e => by omega))
set_option maxHeartbeats 4000000 in
set_option maxRecDepth 100000 in
theorem log_doubled (s : List UInt8) (w : World) (hs : s.length = 64) :
    Calls Try.prog 62 #[.agg (yc s).toArray] w fun e w' => e = .returned (.agg (yc (s.take 56 ++ s.take 8)).toArray) ∧ Below w.heap.size w w' := by
  obtain ⟨cs, hcs⟩ : ∃ cs, cs = yc s := ⟨_, rfl⟩
  obtain ⟨c8, hc8⟩ : ∃ c8, c8 = yc (s.take 8) := ⟨_, rfl⟩
  obtain ⟨D, hD⟩ : ∃ D, D = yc (s.take 56 ++ s.take 8) := ⟨_, rfl⟩
  have hspl : splice cs 56 c8 = D := by
    rw [hcs, hc8, hD, yc_splice]; unfold splice
    rw [List.drop_eq_nil_of_le (by simp; omega), List.append_nil]
  have hcl : cs.length = 64 := by rw [hcs, yc_length, hs]
  have h8l : c8.length = 8 := by rw [hc8, yc_length]; simp; omega
  have hDl : D.length = 64 := by rw [hD, yc_length]; simp; omega
  have hsrc : ∀ j v, c8[j]? = some v → cs[j]? = some v := fun j v h => by
    rw [hc8, yc_get] at h; rw [hcs, yc_get]
    rw [List.getElem?_take] at h; split at h
    · exact h
    · cases h
  have h81 : ∀ v ∈ c8, v.oneCell' = true := by rw [hc8]; exact yc_one _
  have hD1 : D.toArray.all (·.oneCell') = true := by rw [hD]; exact yc_all _
  rw [← hD, ← hcs]
  obtain ⟨z, Z, hz, hZ, hZs⟩ : ∃ (z : Value) (Z : Array Value), (∀ w, (zeroValue 93).run Try.prog w = .ok z w) ∧ z.cells = Z ∧ Z.size = 64 := ⟨_, z64, (zero_of_info infoLz).1, rfl, Array.size_replicate⟩
  have HZ := Lib.hid hz; have HZ1 := Lib.hid hZ; have HZS := Lib.hid hZs
  have HS := Lib.hid hspl; have HC := Lib.hid hcl; have H8 := Lib.hid h8l; have HD := Lib.hid hDl; have HSR := Lib.hid hsrc; have H81 := Lib.hid h81; have HD1 := Lib.hid hD1
  clear hcs hc8 hD hspl hcl h8l hDl hsrc h81 hD1 hz hZ hZs hs
  go_enter Try.func62, Try.ntmps62
  go_upto_region 1 with (first
    | (with_reducible refine wpList_alloc_of ?_ 93 ?_ z Z ?_ ?_ ?_
       · rfl
       · rfl
       · exact HZ.out
       · exact HZ1.out))
  obtain ⟨W0, hW0⟩ : ∃ W0, W0 = (w.alloc (.cells cs.toArray 93)).alloc (.cells Z 93) := ⟨_, rfl⟩
  have HG1 : Hid (W0.heap[w.heap.size]? = some (.cells cs.toArray 93 (0, 0))) := by
    show _ = _; rw [hW0, heap_alloc2_old]
  have HR1 : Hid (W0.heap[w.heap.size + 1]? = some (.cells Z 93 (0, 0))) := by
    show _ = _; rw [hW0, heap_alloc2_new]
  have HB0 : Hid (Below w.heap.size w W0) := by rw [hW0]; exact ((Below.refl _ w).alloc (Nat.le_refl _) _).alloc (by simp) _
  have hsz : (w.alloc (.cells cs.toArray 93)).heap.size = w.heap.size + 1 := by simp
  rw [← hW0, hsz]
  clear hW0 hsz
  go_upto_region 1 with (fail)
  go_region_law (refine step_copy (by rfl) (.tmp 3) (.tmp 4) 39 39 (by rfl) 5 Try.underlying39 (by kernel_rfl) (some ⟨w.heap.size, 56, none⟩) (some ⟨w.heap.size, 0, none⟩) 8 8 8 64 (by rfl) (by rfl) w.heap.size 56 cs 93 (by rw [heap_drew]; exact HG1.out) c8 (by rw [H8.out]; rfl) (fun _ => ⟨rfl, _, rfl, fun j v hv => by rw [addr_add, Lib.cell_of_heap (w := W0.drew) (by rw [heap_drew]; exact HG1.out), Nat.zero_add]; simpa using HSR.out j v hv⟩) (by rw [H8.out, HC.out]; decide) H81.out ?_
                 intro w2 HG2 HO2)
  rw [HS.out] at HG2
  have HR2 : Hid (w2.heap[w.heap.size + 1]? = some (.cells Z 93 (0, 0))) := by
    show _ = _; rw [HO2.out.block _ (by rw [heap_drew]; exact heap_lt HR1.out) (by omega), heap_drew]; exact HR1.out
  have HB2 : Hid (Below w.heap.size w w2) := below_only (HB0.out.trans ((below_drew0 _).mono HB0.out.size)) HO2.out (Nat.le_refl _) (by rw [heap_drew]; exact HB0.out.size)
  clear HO2 HB0 HG1 HR1
  go_wp2_with (first
    | (with_reducible refine wpList_load_row ?_ 93 (.tmp 1) ?_ w.heap.size ?_ 93 D.toArray (0, 0) (.array 64 5) HG2.out Try.underlying93 rfl ?_ ?_
       · rfl
       · rfl
       · rfl
       · rw [List.size_toArray, HD.out]; exact infoL2)
    | (refine wpList_store_row ?_ 93 (.tmp 2) (.tmp 6) ?_ (w.heap.size + 1) D.toArray ?_ ?_ 93 Z HR2.out ?_ ?_ HD1.out ?_
       · rfl
       · rfl
       · rfl
       · rfl
       · rw [List.size_toArray, HD.out]; exact infoL2
       · exact HZS.out.trans HD.out.symm))
  refine bodyPost_ret (v := .agg D.toArray) ?_ rfl ?_
  · exact results_cell_row rfl _ _ (w.heap.size + 1) 93 D.toArray (0, 0) (.array 64 5) rfl (setRow_heap w2 _ _ _ _ _ HR2.out) Try.underlying93 rfl (by rw [List.size_toArray, HD.out]; exact infoL2)
  · exact ⟨rfl, below_setRow HB2.out (by omega) _⟩
theorem run_arrayAt {P : Program} (w : World) (t e : TypeId) (n : Nat) (a : Option Addr) (m c : Nat) (hu : P.underlying t = some (.array n e)) (h : n ≤ m) : (Instr.arrayAt t (.slice a m c)).run P w = .ok (.pointer a) w := by
  simp [Instr.arrayAt, run_underlying hu, Nat.not_lt.2 h]
theorem eight {l : List UInt8} (h : l.length = 8) : ∃ a0 a1 a2 a3 a4 a5 a6 a7, l = [a0, a1, a2, a3, a4, a5, a6, a7] := by
  match l, h with
  | [a0, a1, a2, a3, a4, a5, a6, a7], _ => exact ⟨a0, a1, a2, a3, a4, a5, a6, a7, rfl⟩
theorem size_u8 (w : World) : (sizeOf 5).run Try.prog w = .ok 1 w := by
  have h : (Try.prog.info? 5).map (·.size) = some 1 := by kernel_rfl
  cases hq : Try.prog.info? 5 with
  | none => rw [hq] at h; cases h
  | some i => rw [hq] at h; simp at h; simp [sizeOf, typeInfo, hq, h]
set_option maxHeartbeats 4000000 in
set_option maxRecDepth 100000 in
theorem log_whole (s : List UInt8) (w : World) (hs : s.length = 64) :
    Calls Try.prog 60 #[.agg (yc s).toArray] w fun e w' => e = .returned (.bool (s.take 8 == s.drop 56)) ∧ Below w.heap.size w w' := by
  obtain ⟨a0, a1, a2, a3, a4, a5, a6, a7, ha⟩ := eight (l := s.take 8) (by simp; omega)
  obtain ⟨b0, b1, b2, b3, b4, b5, b6, b7, hb⟩ := eight (l := s.drop 56) (by simp; omega)
  have hx : ∀ (j : Nat) (x : UInt8), [a0, a1, a2, a3, a4, a5, a6, a7][j]? = some x → (yc s).toArray[j]? = some (.int .u8 (x.toNat : Int)) := fun j x h => by
    rw [← ha, List.getElem?_take] at h
    split at h
    · rw [List.getElem?_toArray, yc_get, h]; rfl
    · cases h
  have hy : ∀ (j : Nat) (x : UInt8), [b0, b1, b2, b3, b4, b5, b6, b7][j]? = some x → (yc s).toArray[56 + j]? = some (.int .u8 (x.toNat : Int)) := fun j x h => by
    rw [← hb, List.getElem?_drop] at h
    rw [List.getElem?_toArray, yc_get, h]; rfl
  have d0 : Hid (∀ W : World, W.heap[w.heap.size]? = some (.cells (yc s).toArray 93 (0, 0)) → W.cell? ⟨w.heap.size, 0, none⟩ = some (.int .u8 (a0.toNat : Int))) := fun W h => by rw [Lib.cell_of_heap h]; exact hx 0 _ rfl
  have d1 : Hid (∀ W : World, W.heap[w.heap.size]? = some (.cells (yc s).toArray 93 (0, 0)) → W.cell? ⟨w.heap.size, 1, none⟩ = some (.int .u8 (a1.toNat : Int))) := fun W h => by rw [Lib.cell_of_heap h]; exact hx 1 _ rfl
  have d2 : Hid (∀ W : World, W.heap[w.heap.size]? = some (.cells (yc s).toArray 93 (0, 0)) → W.cell? ⟨w.heap.size, 2, none⟩ = some (.int .u8 (a2.toNat : Int))) := fun W h => by rw [Lib.cell_of_heap h]; exact hx 2 _ rfl
  have d3 : Hid (∀ W : World, W.heap[w.heap.size]? = some (.cells (yc s).toArray 93 (0, 0)) → W.cell? ⟨w.heap.size, 3, none⟩ = some (.int .u8 (a3.toNat : Int))) := fun W h => by rw [Lib.cell_of_heap h]; exact hx 3 _ rfl
  have d4 : Hid (∀ W : World, W.heap[w.heap.size]? = some (.cells (yc s).toArray 93 (0, 0)) → W.cell? ⟨w.heap.size, 4, none⟩ = some (.int .u8 (a4.toNat : Int))) := fun W h => by rw [Lib.cell_of_heap h]; exact hx 4 _ rfl
  have d5 : Hid (∀ W : World, W.heap[w.heap.size]? = some (.cells (yc s).toArray 93 (0, 0)) → W.cell? ⟨w.heap.size, 5, none⟩ = some (.int .u8 (a5.toNat : Int))) := fun W h => by rw [Lib.cell_of_heap h]; exact hx 5 _ rfl
  have d6 : Hid (∀ W : World, W.heap[w.heap.size]? = some (.cells (yc s).toArray 93 (0, 0)) → W.cell? ⟨w.heap.size, 6, none⟩ = some (.int .u8 (a6.toNat : Int))) := fun W h => by rw [Lib.cell_of_heap h]; exact hx 6 _ rfl
  have d7 : Hid (∀ W : World, W.heap[w.heap.size]? = some (.cells (yc s).toArray 93 (0, 0)) → W.cell? ⟨w.heap.size, 7, none⟩ = some (.int .u8 (a7.toNat : Int))) := fun W h => by rw [Lib.cell_of_heap h]; exact hx 7 _ rfl
  have e0 : Hid (∀ W : World, W.heap[w.heap.size]? = some (.cells (yc s).toArray 93 (0, 0)) → W.cell? ⟨w.heap.size, 56, none⟩ = some (.int .u8 (b0.toNat : Int))) := fun W h => by rw [Lib.cell_of_heap h]; exact hy 0 _ rfl
  have e1 : Hid (∀ W : World, W.heap[w.heap.size]? = some (.cells (yc s).toArray 93 (0, 0)) → W.cell? ⟨w.heap.size, 57, none⟩ = some (.int .u8 (b1.toNat : Int))) := fun W h => by rw [Lib.cell_of_heap h]; exact hy 1 _ rfl
  have e2 : Hid (∀ W : World, W.heap[w.heap.size]? = some (.cells (yc s).toArray 93 (0, 0)) → W.cell? ⟨w.heap.size, 58, none⟩ = some (.int .u8 (b2.toNat : Int))) := fun W h => by rw [Lib.cell_of_heap h]; exact hy 2 _ rfl
  have e3 : Hid (∀ W : World, W.heap[w.heap.size]? = some (.cells (yc s).toArray 93 (0, 0)) → W.cell? ⟨w.heap.size, 59, none⟩ = some (.int .u8 (b3.toNat : Int))) := fun W h => by rw [Lib.cell_of_heap h]; exact hy 3 _ rfl
  have e4 : Hid (∀ W : World, W.heap[w.heap.size]? = some (.cells (yc s).toArray 93 (0, 0)) → W.cell? ⟨w.heap.size, 60, none⟩ = some (.int .u8 (b4.toNat : Int))) := fun W h => by rw [Lib.cell_of_heap h]; exact hy 4 _ rfl
  have e5 : Hid (∀ W : World, W.heap[w.heap.size]? = some (.cells (yc s).toArray 93 (0, 0)) → W.cell? ⟨w.heap.size, 61, none⟩ = some (.int .u8 (b5.toNat : Int))) := fun W h => by rw [Lib.cell_of_heap h]; exact hy 5 _ rfl
  have e6 : Hid (∀ W : World, W.heap[w.heap.size]? = some (.cells (yc s).toArray 93 (0, 0)) → W.cell? ⟨w.heap.size, 62, none⟩ = some (.int .u8 (b6.toNat : Int))) := fun W h => by rw [Lib.cell_of_heap h]; exact hy 6 _ rfl
  have e7 : Hid (∀ W : World, W.heap[w.heap.size]? = some (.cells (yc s).toArray 93 (0, 0)) → W.cell? ⟨w.heap.size, 63, none⟩ = some (.int .u8 (b7.toNat : Int))) := fun W h => by rw [Lib.cell_of_heap h]; exact hy 7 _ rfl
  obtain ⟨R, hR⟩ : ∃ R, R = (s.take 8 == s.drop 56) := ⟨_, rfl⟩
  have hEq : ∀ W : World, (Op.equalIn 10000 112 (.agg #[.int .u8 (a0.toNat : Int), .int .u8 (a1.toNat : Int), .int .u8 (a2.toNat : Int), .int .u8 (a3.toNat : Int), .int .u8 (a4.toNat : Int), .int .u8 (a5.toNat : Int), .int .u8 (a6.toNat : Int), .int .u8 (a7.toNat : Int)]) (.agg #[.int .u8 (b0.toNat : Int), .int .u8 (b1.toNat : Int), .int .u8 (b2.toNat : Int), .int .u8 (b3.toNat : Int), .int .u8 (b4.toNat : Int), .int .u8 (b5.toNat : Int), .int .u8 (b6.toNat : Int), .int .u8 (b7.toNat : Int)])).run Try.prog W = .ok R W := fun W => by
    have h := run_equalIn_bytes (P := Try.prog) W 9998 112 5 8 Try.underlying112 Try.underlying5 size_u8 [a0, a1, a2, a3, a4, a5, a6, a7] [b0, b1, b2, b3, b4, b5, b6, b7] rfl rfl
    rw [hR, ha, hb]; exact h
  have ar1 : ∀ W : World, (Instr.arrayAt 112 (.slice (some ⟨w.heap.size, 0, none⟩) 8 64)).run Try.prog W = .ok (.pointer (some ⟨w.heap.size, 0, none⟩)) W := fun W => run_arrayAt W _ _ _ _ _ _ Try.underlying112 (by decide)
  have ar2 : ∀ W : World, (Instr.arrayAt 112 (.slice (some ⟨w.heap.size, 56, none⟩) 8 8)).run Try.prog W = .ok (.pointer (some ⟨w.heap.size, 56, none⟩)) W := fun W => run_arrayAt W _ _ _ _ _ _ Try.underlying112 (by decide)
  obtain ⟨A, hA⟩ : ∃ A, A = (yc s).toArray := ⟨_, rfl⟩
  rw [← hR]
  rw [← hA] at d0 d1 d2 d3 d4 d5 d6 d7 e0 e1 e2 e3 e4 e5 e6 e7 ⊢
  clear hx hy ha hb hR hA hs
  go_enter Try.func60, Try.ntmps60
  go_upto_region 1 with (fail)
  obtain ⟨W0, hW0⟩ : ∃ W0, W0 = w.alloc (.cells A 93) := ⟨_, rfl⟩
  have hg : W0.heap[w.heap.size]? = some (.cells A 93 (0, 0)) := by rw [hW0, heap_alloc_new]
  have HB : Hid (Below w.heap.size w W0) := by rw [hW0]; exact (Below.refl _ w).alloc (Nat.le_refl _) _
  rw [← hW0]
  clear hW0
  replace d0 := d0.out W0 hg
  replace e0 := e0.out W0 hg
  replace d1 := d1.out W0 hg
  replace e1 := e1.out W0 hg
  replace d2 := d2.out W0 hg
  replace e2 := e2.out W0 hg
  replace d3 := d3.out W0 hg
  replace e3 := e3.out W0 hg
  replace d4 := d4.out W0 hg
  replace e4 := e4.out W0 hg
  replace d5 := d5.out W0 hg
  replace e5 := e5.out W0 hg
  replace d6 := d6.out W0 hg
  replace e6 := e6.out W0 hg
  replace d7 := d7.out W0 hg
  replace e7 := e7.out W0 hg
  clear hg
  go_quiet (fail)
  all_goals go_wp2
  all_goals go_ret
  all_goals exact ⟨rfl, HB.out.trans ((below_dk W0 _).mono HB.out.size)⟩
end Go.Proofs.Ytofbignggadkiaa
