/- Rows in memory: slices of cells. -/
import Derived.Test.YtmipomglbccjbaaDoorValRc
import Derived.Test.YtmipomglbccjbaaDoorValR13
import Derived.Test.YtmipomglbccjbaaDoorValB
import Derived.Test.YtmipomglbccjbaaDoorRowGa
import Derived.BigQuiet
import Derived.ChangeKeysEq
namespace Go.Proofs.YtmipomglbccjbaaDoor
open Go.RowKit

/-- a cell's five cells -/
def rc1 (c : Rm.C) : List Value := [.int .i64 c.col, .int .i64 c.v.k, .int .i64 c.v.n, .int .i64 c.v.sc, .string c.v.s]
def rcs : List Rm.C → List Value
  | [] => []
  | c :: r => rc1 c ++ rcs r
theorem rcs_length : ∀ l : List Rm.C, (rcs l).length = l.length * 5
  | [] => rfl
  | c :: r => by rw [rcs, List.length_append, rcs_length r, List.length_cons]; show 5 + r.length * 5 = _; omega
theorem rcs_append : ∀ l r : List Rm.C, rcs (l ++ r) = rcs l ++ rcs r
  | [], _ => rfl
  | c :: l, r => by rw [List.cons_append, rcs, rcs, rcs_append l r, List.append_assoc]
theorem rcs_one : ∀ (l : List Rm.C), ∀ u ∈ rcs l, u.oneCell' = true
  | [], _, h => by cases h
  | c :: r, u, h => by
    rw [rcs, List.mem_append] at h
    rcases h with h | h
    · simp only [rc1, List.mem_cons, List.not_mem_nil, or_false] at h
      rcases h with rfl | rfl | rfl | rfl | rfl <;> rfl
    · exact rcs_one r u h
theorem rcs_get : ∀ (l : List Rm.C) (j o : Nat) (c : Rm.C), l[j]? = some c → o < 5 → (rcs l)[j * 5 + o]? = (rc1 c)[o]?
  | [], _, _, _, h, _ => by simp at h
  | d :: r, 0, o, c, h, ho => by
    simp at h; subst h
    rw [rcs, Nat.zero_mul, Nat.zero_add, List.getElem?_append_left (show o < 5 from ho)]
  | d :: r, j + 1, o, c, h, ho => by
    rw [List.getElem?_cons_succ] at h
    rw [rcs, List.getElem?_append_right (show 5 ≤ _ by omega), show (j + 1) * 5 + o - (rc1 d).length = j * 5 + o from (show (j + 1) * 5 + o - 5 = _ by omega)]
    exact rcs_get r j o c h ho

/-- a cell's five cells from an offset on -/
structure Bx5 (g o : Nat) (c : Rm.C) (w : World) : Prop where
  c0 : w.cell? ⟨g, o, none⟩ = some (.int .i64 c.col)
  c1 : w.cell? ⟨g, o + 1, none⟩ = some (.int .i64 c.v.k)
  c2 : w.cell? ⟨g, o + 2, none⟩ = some (.int .i64 c.v.n)
  c3 : w.cell? ⟨g, o + 3, none⟩ = some (.int .i64 c.v.sc)
  c4 : w.cell? ⟨g, o + 4, none⟩ = some (.string c.v.s)
/-- A ROW: what is known of their cells -/
def Rs (v : Value) (l : List Rm.C) (w : World) : Prop :=
  (∃ a c, v = .slice a 0 c ∧ l = []) ∨
  ∃ g off cap, v = .slice (some ⟨g, off, none⟩) l.length cap ∧ l.length ≤ cap ∧ g < w.heap.size ∧ ∀ i u, (rcs l)[i]? = some u → w.cell? ⟨g, off + i, none⟩ = some u
theorem Rs.keep {v : Value} {l : List Rm.C} {w w' : World} (h : Rs v l w) (hb : Below w.heap.size w w') : Rs v l w' := by
  rcases h with h | ⟨g, off, cap, rfl, hc, hg, hcell⟩
  · exact .inl h
  · exact .inr ⟨g, off, cap, rfl, hc, by have := hb.size; omega, fun i u hi => (hb.cell (p := ⟨g, off + i, none⟩) hg).trans (hcell i u hi)⟩
theorem Rs.form {v : Value} {l : List Rm.C} {w : World} (h : Rs v l w) : ∃ a c, v = .slice a l.length c := by
  rcases h with ⟨a, c, rfl, rfl⟩ | ⟨g, off, cap, rfl, _⟩
  · exact ⟨_, _, rfl⟩
  · exact ⟨_, _, rfl⟩
/-- where element j lies -/
theorem Rs.at {a : Option Addr} {n c : Nat} {l : List Rm.C} {w : World} (h : Rs (.slice a n c) l w) (j : Nat) (hj : j < l.length) :
    ∃ g off, a = some ⟨g, off, none⟩ ∧ n = l.length ∧ g < w.heap.size ∧ Bx5 g (off + j * 5) l[j] w := by
  rcases h with ⟨b, d, _, rfl⟩ | ⟨g, off, cap, e, hc, hg, hcell⟩
  · simp at hj
  · injection e with e1 e2 e3
    subst e1; subst e2
    have hl : l[j]? = some l[j] := List.getElem?_eq_getElem hj
    refine ⟨g, off, rfl, rfl, hg, ?_, ?_, ?_, ?_, ?_⟩
    · exact hcell _ _ (rcs_get l j 0 l[j] hl (by omega))
    · rw [Nat.add_assoc]; exact hcell _ _ (rcs_get l j 1 l[j] hl (by omega))
    · rw [Nat.add_assoc]; exact hcell _ _ (rcs_get l j 2 l[j] hl (by omega))
    · rw [Nat.add_assoc]; exact hcell _ _ (rcs_get l j 3 l[j] hl (by omega))
    · rw [Nat.add_assoc]; exact hcell _ _ (rcs_get l j 4 l[j] hl (by omega))
theorem add_at (g o j : Nat) : (⟨g, o, none⟩ : Addr).add j = ⟨g, o + j, none⟩ := by unfold Addr.add; split <;> simp_all
theorem Rs.src {v : Value} {l : List Rm.C} {w : World} (h : Rs v l w) : Src Tryd.prog 5 22 v l.length (rcs l) w := by
  rcases h with ⟨a, c, rfl, rfl⟩ | ⟨g, off, cap, rfl, _, _, hc⟩
  · cases a with
    | none => exact Src.ofNil w Tryd.underlying22 c
    | some a => exact Src.ofSlice w Tryd.underlying22 a 0 c [] rfl (fun j u h => by simp at h) (fun u h => by simp at h)
  · exact Src.ofSlice w Tryd.underlying22 ⟨g, off, none⟩ l.length cap (rcs l) (rcs_length l) (fun j u hj => by rw [add_at]; exact hc j u hj) (rcs_one l)
theorem Rs.of_own {w : World} {B : Nat} {v : Value} {l : List Rm.C} {n : Nat} (h : w.ownsRow B 38 5 v n (rcs l)) : Rs v l w := by
  obtain ⟨h1, h2⟩ := h
  have hn : l.length = n := by rw [rcs_length] at h1; omega
  rcases h2 with ⟨rfl, rfl⟩ | ⟨g, cap, cur, rfl, _, hg, hc, hm, hs, ht⟩
  · exact .inl ⟨_, _, rfl, List.eq_nil_of_length_eq_zero hn⟩
  · refine .inr ⟨g, 0, cap, by rw [hn], by omega, (Array.getElem?_eq_some_iff.1 hg).1, fun i u hi => ?_⟩
    rw [← ht, List.getElem?_take] at hi
    rw [Lib.cell_of_heap hg, Nat.zero_add]
    split at hi
    · simpa using hi
    · cases hi
theorem info5r : (Tryd.prog.info? 38).map (fun i => (i.zero, i.size, i.bytes)) = some (some (.agg #[.int .i64 0, .int .i64 0, .int .i64 0, .int .i64 0, .string ⟨#[]⟩]), 5, 48) := by kernel_rfl
theorem own_litr (w : World) (c : Rm.C) (B : Nat) (hB : B ≤ w.heap.size) : (w.alloc (.cells #[.int .i64 c.col, .int .i64 c.v.k, .int .i64 c.v.n, .int .i64 c.v.sc, .string c.v.s] 38)).ownsRow B 38 5 (.slice (some ⟨w.heap.size, 0, none⟩) 1 1) 1 (rcs [c]) :=
  ⟨rfl, .inr ⟨w.heap.size, 1, #[.int .i64 c.col, .int .i64 c.v.k, .int .i64 c.v.n, .int .i64 c.v.sc, .string c.v.s], rfl, hB, heap_alloc_new w _, Nat.le_refl _, by unfold maxLen; decide, rfl, rfl⟩⟩
theorem lit_srcr (w : World) (c : Rm.C) : Src Tryd.prog 5 22 (.slice (some ⟨w.heap.size, 0, none⟩) 1 1) 1 (rcs [c]) (w.alloc (.cells #[.int .i64 c.col, .int .i64 c.v.k, .int .i64 c.v.n, .int .i64 c.v.sc, .string c.v.s] 38)) :=
  (Rs.of_own (own_litr w c 0 (Nat.zero_le _))).src
theorem one_r (w : World) (o : Obj) : Below w.heap.size w (w.alloc o) := (Below.refl _ _).alloc (Nat.le_refl _) _
/-- what a function that answers a row leaves -/
def RsA (l : List Rm.C) (w : World) (e : Ending) (w' : World) : Prop :=
  ∃ a n cap, e = .returned (.slice a n cap) ∧ n = l.length ∧ Rs (.slice a n cap) l w' ∧ Below w.heap.size w w'
theorem own_formr {w : World} {B : Nat} {v : Value} {l : List Rm.C} {n : Nat} (h : w.ownsRow B 38 5 v n (rcs l)) : ∃ a c, v = .slice a n c := by
  have hn : n = l.length := by have h1 := h.1; rw [rcs_length] at h1; omega
  obtain ⟨a, c, e⟩ := (Rs.of_own h).form
  exact ⟨a, c, by rw [e, hn]⟩
theorem own_lenr {w : World} {B : Nat} {v : Value} {l : List Rm.C} {n : Nat} (h : w.ownsRow B 38 5 v n (rcs l)) : n = l.length := by
  have h1 := h.1; rw [rcs_length] at h1; omega
/-- an owned row behind a call that changes nothing -/
theorem own_below11 {w w' : World} {B : Nat} {e : TypeId} {size n : Nat} {v : Value} {xs : List Value} (h : w.ownsRow B e size v n xs) (hb : Below w.heap.size w w') : w'.ownsRow B e size v n xs := by
  obtain ⟨h1, h2⟩ := h
  refine ⟨h1, ?_⟩
  rcases h2 with h2 | ⟨g, cap, cur, rfl, hB, hg, r⟩
  · exact .inl h2
  · exact .inr ⟨g, cap, cur, rfl, hB, (hb.block g (Array.getElem?_eq_some_iff.1 hg).1).trans hg, r⟩
/-- the first part of a row, the part behind -/
theorem rcs_take : ∀ (l : List Rm.C) (k : Nat), (rcs l).take (k * 5) = rcs (l.take k)
  | [], k => by simp [rcs]
  | c :: r, 0 => by simp [rcs]
  | c :: r, k + 1 => by
    rw [List.take_succ_cons, rcs, rcs, ← rcs_take r k, List.take_append, List.take_of_length_le (show (rc1 c).length ≤ (k + 1) * 5 by show 5 ≤ _; omega), show (k + 1) * 5 - (rc1 c).length = k * 5 from (show (k + 1) * 5 - 5 = _ by omega)]
theorem rcs_drop : ∀ (l : List Rm.C) (k : Nat), (rcs l).drop (k * 5) = rcs (l.drop k)
  | [], k => by simp [rcs]
  | c :: r, 0 => by simp [rcs]
  | c :: r, k + 1 => by
    rw [List.drop_succ_cons, rcs, ← rcs_drop r k, List.drop_append, List.drop_of_length_le (show (rc1 c).length ≤ (k + 1) * 5 by show 5 ≤ _; omega), show (k + 1) * 5 - (rc1 c).length = k * 5 from (show (k + 1) * 5 - 5 = _ by omega), List.nil_append]
/-- a part of a row that lies in memory -/
theorem Rs.part {g off n cap m cap' k : Nat} {l : List Rm.C} {w : World} (h : Rs (.slice (some ⟨g, off, none⟩) n cap) l w) (hk : k + m ≤ n) (hm : m ≤ cap') : Rs (.slice (some ⟨g, off + k * 5, none⟩) m cap') ((l.drop k).take m) w := by
  rcases h with ⟨a, c, e, rfl⟩ | ⟨g', off', cap2, e, hc, hg, hcell⟩
  · injection e with e1 e2 e3
    subst e2
    obtain rfl : m = 0 := by omega
    exact .inl ⟨_, _, rfl, by simp⟩
  · injection e with e1 e2 e3
    injection e1 with e1; injection e1 with e1 e4 _
    subst e1; subst e4; subst e2
    have hl : ((l.drop k).take m).length = m := by rw [List.length_take, List.length_drop]; omega
    refine .inr ⟨g, off + k * 5, cap', by rw [hl], by rw [hl]; exact hm, hg, fun i u hi => ?_⟩
    rw [← rcs_take, ← rcs_drop, List.getElem?_take] at hi
    split at hi
    · rw [List.getElem?_drop] at hi
      rw [Nat.add_assoc]; exact hcell _ _ hi
    · cases hi
end Go.Proofs.YtmipomglbccjbaaDoor
/- Package row and the reference: Get, below, Same. -/
namespace Go.Proofs.YtmipomglbccjbaaDoor
open Go.RowKit

theorem below_set4 {B : Nat} {w W : World} {g : Nat} (h : Below B w W) (hg : B ≤ g) (x y z u : Value) : Below B w ((((W.setCell ⟨g, 0, none⟩ x).setCell ⟨g, 1, none⟩ y).setCell ⟨g, 2, none⟩ z).setCell ⟨g, 3, none⟩ u) :=
  (((h.setCell (p := ⟨g, 0, none⟩) hg x).setCell (p := ⟨g, 1, none⟩) hg y).setCell (p := ⟨g, 2, none⟩) hg z).setCell (p := ⟨g, 3, none⟩) hg u
set_option maxHeartbeats 2000000 in
set_option maxRecDepth 100000 in
theorem row_get (a : Option Addr) (n cap : Nat) (l : List Rm.C) (col : Int) (w : World) (hv : Rs (.slice a n cap) l w) (hl : n ≤ maxLen) :
    Calls Tryd.prog 18 #[.slice a n cap, .int .i64 col] w (Val (Rm.get col l) w) := by
  have hnl : n = l.length := by obtain ⟨b, d, e⟩ := hv.form; injection e
  have hn1 : n ≤ l.length := by omega
  have hn2 : l.length ≤ n := by omega
  unfold maxLen at hl
  obtain ⟨R, hR⟩ : ∃ R, R = Rm.get col l := ⟨_, rfl⟩
  rw [← hR]
  have HR0 : Hid (R = Rm.get col (l.drop 0)) := hR
  clear hnl hR
  obtain ⟨q0, hq0⟩ : ∃ q0, q0 = w.heap.size := ⟨_, rfl⟩
  obtain ⟨W0, hW0⟩ : ∃ W0, W0 = w.alloc (.cells #[.int .i64 0, .int .i64 0, .int .i64 0, .string ⟨#[]⟩] 36) := ⟨_, rfl⟩
  have HB0 : Hid (Below w.heap.size w W0) := by show Below _ _ _; rw [hW0]; exact one_r w _
  have HX0 : Hid (Fx q0 0 0 0 ⟨#[]⟩ W0) := by show Fx _ _ _ _ _ _; rw [hW0, hq0]; exact Fx.new w 0 0 0 ⟨#[]⟩ _
  have HV := Lib.hid (hv.keep HB0.out)
  clear hv
  go_enter Tryd.func18, Tryd.ntmps18
  go_wp2
  rw [← hq0, ← hW0]
  have hs0 : q0 < W0.heap.size := HX0.out.bx.lt
  clear hW0
  have HQ := Lib.hid hq0
  clear hq0
  go_loopw [9] (fun iv wr => ∃ j : Nat, j ≤ n ∧ iv = .int .i64 (j : Int) ∧ Hid (R = Rm.get col (l.drop j)) ∧ Hid (Below W0.heap.size W0 wr)) (fun iv _ => n - (Lib.intOf iv).toNat)
  case atStart => exact ⟨0, by omega, rfl, HR0, Below.refl _ _⟩
  case round =>
    obtain ⟨j, hj, rfl, HR, HB⟩ := hrel
    have hwr := HB.out.size
    by_cases hlt : j < n
    · have hjl : j < l.length := by omega
      obtain ⟨g, off, ha, -, hg, hb⟩ := (HV.out.keep HB.out).at j hjl
      have hst : Rm.get col (l.drop j) = if l[j].col = col then l[j].v else Rm.get col (l.drop (j + 1)) := by rw [List.drop_eq_getElem_cons hjl, Rm.get]
      obtain ⟨c, hc⟩ : ∃ c, c = l[j] := ⟨_, rfl⟩
      rw [← hc] at hb hst
      subst ha
      obtain ⟨cl, ck, cn, cc, cz⟩ := c
      obtain ⟨c0, c1, c2, c3, c4⟩ := hb
      dsimp only at c0 c1 c2 c3 c4 hst
      have HB2 := Lib.hid (HB.out.alloc HB.out.size (.cells #[.int .i64 cl, .int .i64 ck, .int .i64 cn, .int .i64 cc, .string cz] 38))
      have HST := Lib.hid hst
      clear hc hst
      by_cases hp : cl = col
      · subst hp
        have HR2 : Hid (R = ⟨ck, cn, cc, cz⟩) := by
          show _ = _
          rw [HR.out, HST.out, if_pos rfl]
        have HX := Lib.hid (HX0.out.keep HB2.out)
        have f0 := HX.out.fz 0; have f1 := HX.out.fz 1; have f2 := HX.out.fz 2; have f3 := HX.out.fz 3
        have x0 := HX.out.bx.c0; have x1 := HX.out.bx.c1; have x2 := HX.out.bx.c2; have x3 := HX.out.bx.c3
        clear HST HR
        go_wp2
        have HS := HX.out.set ck cn cc cz
        have r0 := HS.bx.c0; have r1 := HS.bx.c1; have r2 := HS.bx.c2; have r3 := HS.bx.c3
        rw [HR2.out]
        refine bodyPost_ret (v := .agg #[.int .i64 ck, .int .i64 cn, .int .i64 cc, .string cz]) (by simp [results, Tryd.results18, go_sem, r0, r1, r2, r3]) rfl ⟨rfl, ?_⟩
        exact below_set4 (HB0.out.trans (HB2.out.mono HB0.out.size)) (by rw [HQ.out]; exact Nat.le_refl _) _ _ _ _
      · have q : (cl == col) = false := by simpa using hp
        have HR2 : Hid (R = Rm.get col (l.drop (j + 1))) := by
          show _ = _
          rw [HR.out, HST.out, if_neg hp]
        clear HST HR hp
        go_wp2
        go_roundw
        case rel => exact ⟨j + 1, by omega, by go_num, HR2, HB2⟩
        case measure => simp [Lib.intOf]; omega
    · have hjn : j = l.length := by omega
      have HF : Hid (R = Vm.nil) := by
        show _ = _
        rw [HR.out, hjn, List.drop_length]; rfl
      have HX := Lib.hid (HX0.out.keep HB.out)
      have f0 := HX.out.fz 0; have f1 := HX.out.fz 1; have f2 := HX.out.fz 2; have f3 := HX.out.fz 3
      have x0 := HX.out.bx.c0; have x1 := HX.out.bx.c1; have x2 := HX.out.bx.c2; have x3 := HX.out.bx.c3
      clear hjn HR
      go_wp2
      have HS := HX.out.set 0 0 0 ⟨#[]⟩
      have r0 := HS.bx.c0; have r1 := HS.bx.c1; have r2 := HS.bx.c2; have r3 := HS.bx.c3
      rw [HF.out]
      refine bodyPost_ret (v := .agg #[.int .i64 0, .int .i64 0, .int .i64 0, .string ⟨#[]⟩]) (by simp [results, Tryd.results18, go_sem, r0, r1, r2, r3]) rfl ⟨rfl, ?_⟩
      exact below_set4 (HB0.out.trans (HB.out.mono HB0.out.size)) (by rw [HQ.out]; exact Nat.le_refl _) _ _ _ _

set_option maxHeartbeats 2000000 in
set_option maxRecDepth 100000 in
theorem ref_get11 (a : Option Addr) (n cap : Nat) (l : List Rm.C) (col : Int) (w : World) (hv : Rs (.slice a n cap) l w) (hl : n ≤ maxLen) :
    Calls Tryd.prog 19 #[.slice a n cap, .int .i64 col] w (Val (Rm.get col l) w) := by
  have hnl : n = l.length := by obtain ⟨b, d, e⟩ := hv.form; injection e
  have hn1 : n ≤ l.length := by omega
  have hn2 : l.length ≤ n := by omega
  unfold maxLen at hl
  obtain ⟨R, hR⟩ : ∃ R, R = Rm.get col l := ⟨_, rfl⟩
  rw [← hR]
  have HR0 : Hid (R = Rm.get col (l.drop 0)) := hR
  clear hnl hR
  obtain ⟨q0, hq0⟩ : ∃ q0, q0 = w.heap.size := ⟨_, rfl⟩
  obtain ⟨W0, hW0⟩ : ∃ W0, W0 = w.alloc (.cells #[.int .i64 0, .int .i64 0, .int .i64 0, .string ⟨#[]⟩] 36) := ⟨_, rfl⟩
  have HB0 : Hid (Below w.heap.size w W0) := by show Below _ _ _; rw [hW0]; exact one_r w _
  have HX0 : Hid (Fx q0 0 0 0 ⟨#[]⟩ W0) := by show Fx _ _ _ _ _ _; rw [hW0, hq0]; exact Fx.new w 0 0 0 ⟨#[]⟩ _
  have HV := Lib.hid (hv.keep HB0.out)
  clear hv
  go_enter Tryd.func19, Tryd.ntmps19
  go_wp2
  rw [← hq0, ← hW0]
  have hs0 : q0 < W0.heap.size := HX0.out.bx.lt
  clear hW0
  have HQ := Lib.hid hq0
  clear hq0
  go_loopw [9] (fun iv wr => ∃ j : Nat, j ≤ n ∧ iv = .int .i64 (j : Int) ∧ Hid (R = Rm.get col (l.drop j)) ∧ Hid (Below W0.heap.size W0 wr)) (fun iv _ => n - (Lib.intOf iv).toNat)
  case atStart => exact ⟨0, by omega, rfl, HR0, Below.refl _ _⟩
  case round =>
    obtain ⟨j, hj, rfl, HR, HB⟩ := hrel
    have hwr := HB.out.size
    by_cases hlt : j < n
    · have hjl : j < l.length := by omega
      obtain ⟨g, off, ha, -, hg, hb⟩ := (HV.out.keep HB.out).at j hjl
      have hst : Rm.get col (l.drop j) = if l[j].col = col then l[j].v else Rm.get col (l.drop (j + 1)) := by rw [List.drop_eq_getElem_cons hjl, Rm.get]
      obtain ⟨c, hc⟩ : ∃ c, c = l[j] := ⟨_, rfl⟩
      rw [← hc] at hb hst
      subst ha
      obtain ⟨cl, ck, cn, cc, cz⟩ := c
      obtain ⟨c0, c1, c2, c3, c4⟩ := hb
      dsimp only at c0 c1 c2 c3 c4 hst
      have HB2 := Lib.hid (HB.out.alloc HB.out.size (.cells #[.int .i64 cl, .int .i64 ck, .int .i64 cn, .int .i64 cc, .string cz] 38))
      have HST := Lib.hid hst
      clear hc hst
      by_cases hp : cl = col
      · subst hp
        have HR2 : Hid (R = ⟨ck, cn, cc, cz⟩) := by
          show _ = _
          rw [HR.out, HST.out, if_pos rfl]
        have HX := Lib.hid (HX0.out.keep HB2.out)
        have f0 := HX.out.fz 0; have f1 := HX.out.fz 1; have f2 := HX.out.fz 2; have f3 := HX.out.fz 3
        have x0 := HX.out.bx.c0; have x1 := HX.out.bx.c1; have x2 := HX.out.bx.c2; have x3 := HX.out.bx.c3
        clear HST HR
        go_wp2
        have HS := HX.out.set ck cn cc cz
        have r0 := HS.bx.c0; have r1 := HS.bx.c1; have r2 := HS.bx.c2; have r3 := HS.bx.c3
        rw [HR2.out]
        refine bodyPost_ret (v := .agg #[.int .i64 ck, .int .i64 cn, .int .i64 cc, .string cz]) (by simp [results, Tryd.results19, go_sem, r0, r1, r2, r3]) rfl ⟨rfl, ?_⟩
        exact below_set4 (HB0.out.trans (HB2.out.mono HB0.out.size)) (by rw [HQ.out]; exact Nat.le_refl _) _ _ _ _
      · have q : (cl == col) = false := by simpa using hp
        have HR2 : Hid (R = Rm.get col (l.drop (j + 1))) := by
          show _ = _
          rw [HR.out, HST.out, if_neg hp]
        clear HST HR hp
        go_wp2
        go_roundw
        case rel => exact ⟨j + 1, by omega, by go_num, HR2, HB2⟩
        case measure => simp [Lib.intOf]; omega
    · have hjn : j = l.length := by omega
      have HF : Hid (R = Vm.nil) := by
        show _ = _
        rw [HR.out, hjn, List.drop_length]; rfl
      have HX := Lib.hid (HX0.out.keep HB.out)
      have f0 := HX.out.fz 0; have f1 := HX.out.fz 1; have f2 := HX.out.fz 2; have f3 := HX.out.fz 3
      have x0 := HX.out.bx.c0; have x1 := HX.out.bx.c1; have x2 := HX.out.bx.c2; have x3 := HX.out.bx.c3
      clear hjn HR
      go_wp2
      have HS := HX.out.set 0 0 0 ⟨#[]⟩
      have r0 := HS.bx.c0; have r1 := HS.bx.c1; have r2 := HS.bx.c2; have r3 := HS.bx.c3
      rw [HF.out]
      refine bodyPost_ret (v := .agg #[.int .i64 0, .int .i64 0, .int .i64 0, .string ⟨#[]⟩]) (by simp [results, Tryd.results19, go_sem, r0, r1, r2, r3]) rfl ⟨rfl, ?_⟩
      exact below_set4 (HB0.out.trans (HB.out.mono HB0.out.size)) (by rw [HQ.out]; exact Nat.le_refl _) _ _ _ _
end Go.Proofs.YtmipomglbccjbaaDoor
/- Package row and the reference: below; two cells, two rows compared. -/
namespace Go.Proofs.YtmipomglbccjbaaDoor
open Go.RowKit

set_option maxHeartbeats 1000000 in
set_option maxRecDepth 100000 in
theorem row_below (a : Option Addr) (n cap : Nat) (l : List Rm.C) (col : Int) (w : World) (hv : Rs (.slice a n cap) l w) (hl : n ≤ maxLen) :
    Calls Tryd.prog 40 #[.slice a n cap, .int .i64 col] w fun e w' => e = .returned (.int .i64 (Rm.low col l : Nat)) ∧ w = w' := by
  have hnl : n = l.length := by obtain ⟨b, d, e⟩ := hv.form; injection e
  have hn1 : n ≤ l.length := by omega
  have hn2 : l.length ≤ n := by omega
  unfold maxLen at hl
  clear hnl
  have HV := Lib.hid hv
  clear hv
  obtain ⟨M, hM⟩ : ∃ M, M = Rm.low col l := ⟨_, rfl⟩
  rw [← hM]
  have HM : Hid (∀ m, m ≤ l.length → (∀ i (h : i < l.length), i < m → l[i].col < col) → (∀ h : m < l.length, col ≤ l[m].col) → M = m) := fun m h0 h1 h2 => by rw [hM]; exact Rm.low_of col l m h0 h1 h2
  clear hM
  go_enter Tryd.func40, Tryd.ntmps40
  go_wp2
  go_loopw [5] (fun iv wr => ∃ j : Nat, j ≤ n ∧ iv = .int .i64 (j : Int) ∧ Hid (∀ i (h : i < l.length), i < j → l[i].col < col) ∧ w = wr) (fun iv _ => n - (Lib.intOf iv).toNat)
  case atStart => exact ⟨0, by omega, rfl, fun i h hi => by omega, rfl⟩
  case round =>
    obtain ⟨j, hj, rfl, HL, rfl⟩ := hrel
    by_cases hlt : j < n
    · have hjl : j < l.length := by omega
      obtain ⟨g, off, ha, -, hg, hb⟩ := HV.out.at j hjl
      obtain ⟨c, hc⟩ : ∃ c, c = l[j] := ⟨_, rfl⟩
      rw [← hc] at hb
      subst ha
      have HC := Lib.hid hc
      obtain ⟨cl, ck, cn, cc, cz⟩ := c
      obtain ⟨c0, c1, c2, c3, c4⟩ := hb
      dsimp only at c0 c1 c2 c3 c4
      have q0 : (j : Int) < (n : Int) := by omega
      clear hc
      by_cases hp : cl < col
      · have HL2 : Hid (∀ i (h : i < l.length), i < j + 1 → l[i].col < col) := fun i h hi => by
          rcases Nat.lt_or_ge i j with e | e
          · exact HL.out i h e
          · obtain rfl : i = j := by omega
            rw [← HC.out]; exact hp
        clear HL HC
        go_wp2
        go_roundw
        case rel => exact ⟨j + 1, by omega, by go_num, HL2, trivial⟩
        case measure => simp [Lib.intOf]; omega
      · have hp2 : col ≤ cl := by omega
        have HF : Hid (M = j) := HM.out j (by omega) HL.out (fun h => by rw [← HC.out]; exact hp2)
        clear HL HC HM
        go_wp2
        go_ret
        exact ⟨by rw [HF.out]; rfl, rfl⟩
    · have HF : Hid (M = j) := HM.out j (by omega) HL.out (fun h => by omega)
      have q0 : ¬ (j : Int) < (n : Int) := by omega
      clear HL HM
      go_wp2
      go_ret
      exact ⟨by rw [HF.out]; rfl, rfl⟩

/-! ### cells compared -/
theorem part_cell (col k n sc : Int) (s : ByteArray) (W : World) : (part 36 #[.int .i64 col, .int .i64 k, .int .i64 n, .int .i64 sc, .string s] 1).run Tryd.prog W = .ok (.agg #[.int .i64 k, .int .i64 n, .int .i64 sc, .string s]) W := by kernel_rfl
theorem val_eqlInM (m : Nat) (k n sc : Int) (s : ByteArray) (k' n' sc' : Int) (s' : ByteArray) (w : World) :
    (Op.equalIn (m + 2) 36 (.agg #[.int .i64 k, .int .i64 n, .int .i64 sc, .string s]) (.agg #[.int .i64 k', .int .i64 n', .int .i64 sc', .string s'])).run Tryd.prog w = .ok (eqB k n sc s k' n' sc' s') w := by
  have ht : Tryd.prog.underlying 36 = some (.struct (Tryd.prog.fieldsOf 36)) := by kernel_rfl
  have hp : Tryd.prog.stoodInHeld 36 = false := by kernel_rfl
  rw [run_equalIn_agg w (m + 1) _ _ _ ht hp]
  have h3 : Tryd.prog.plainKey 3 = true := by kernel_rfl
  have hk : Tryd.prog.plainKey 34 = true := by kernel_rfl
  have hs : Tryd.prog.plainKey 9 = true := by kernel_rfl
  have e0 := fun (a b : Int) (W : World) => run_equalIn_int W m 34 .i64 .i64 a b Tryd.underlying34
  have e1 := fun (a b : Int) (W : World) => run_equalIn_int W m 3 .i64 .i64 a b Tryd.underlying3
  have e2 := fun (a b : ByteArray) (W : World) => run_equalIn_string W m 9 a b Tryd.underlying9
  simp only [Program.fieldsOf, Tryd.underlying36, Op.eqFields, Sem.run_bind, Sem.run_ite, ne_eq, String.reduceEq, not_false_eq_true, if_true]
  have q0 := part_at _ hk #[.int .i64 k, .int .i64 n, .int .i64 sc, .string s] 0 (.int .i64 k) rfl
  have q1 := part_at _ h3 #[.int .i64 k, .int .i64 n, .int .i64 sc, .string s] 1 (.int .i64 n) rfl
  have q2 := part_at _ h3 #[.int .i64 k, .int .i64 n, .int .i64 sc, .string s] 2 (.int .i64 sc) rfl
  have q3 := part_at _ hs #[.int .i64 k, .int .i64 n, .int .i64 sc, .string s] 3 (.string s) rfl
  have r0 := part_at _ hk #[.int .i64 k', .int .i64 n', .int .i64 sc', .string s'] 0 (.int .i64 k') rfl
  have r1 := part_at _ h3 #[.int .i64 k', .int .i64 n', .int .i64 sc', .string s'] 1 (.int .i64 n') rfl
  have r2 := part_at _ h3 #[.int .i64 k', .int .i64 n', .int .i64 sc', .string s'] 2 (.int .i64 sc') rfl
  have r3 := part_at _ hs #[.int .i64 k', .int .i64 n', .int .i64 sc', .string s'] 3 (.string s') rfl
  simp only [q0, r0, q1, r1, q2, r2, q3, r3, Result.andThen_ok, e0, e1, e2]
  unfold eqB
  cases k == k' <;> cases n == n' <;> cases sc == sc' <;> cases s.toList == s'.toList <;> rfl
def eqC (a b : Rm.C) : Bool := (a.col == b.col) && eqB a.v.k a.v.n a.v.sc a.v.s b.v.k b.v.n b.v.sc b.v.s
theorem eqC_val (a b : Rm.C) : eqC a b = decide (a = b) := by
  unfold eqC
  rw [eqB_val, beq_dec, Bool.eq_iff_iff]
  cases a; cases b
  simp
theorem cell_eqlIn (a b : Rm.C) (w : World) :
    (Op.equalIn 10000 38 (.agg #[.int .i64 a.col, .int .i64 a.v.k, .int .i64 a.v.n, .int .i64 a.v.sc, .string a.v.s]) (.agg #[.int .i64 b.col, .int .i64 b.v.k, .int .i64 b.v.n, .int .i64 b.v.sc, .string b.v.s])).run Tryd.prog w = .ok (eqC a b) w := by
  have ht : Tryd.prog.underlying 38 = some (.struct (Tryd.prog.fieldsOf 38)) := by kernel_rfl
  have hp : Tryd.prog.stoodInHeld 38 = false := by kernel_rfl
  rw [run_equalIn_agg w 9999 _ _ _ ht hp]
  have h3 : Tryd.prog.plainKey 3 = true := by kernel_rfl
  have e1 := fun (a b : Int) (W : World) => run_equalIn_int W 9998 3 .i64 .i64 a b Tryd.underlying3
  have e2 := fun (W : World) => val_eqlInM 9997 a.v.k a.v.n a.v.sc a.v.s b.v.k b.v.n b.v.sc b.v.s W
  simp only [Program.fieldsOf, Tryd.underlying38, Op.eqFields, Sem.run_bind, Sem.run_ite, ne_eq, String.reduceEq, not_false_eq_true, if_true]
  have q0 := part_at _ h3 #[.int .i64 a.col, .int .i64 a.v.k, .int .i64 a.v.n, .int .i64 a.v.sc, .string a.v.s] 0 (.int .i64 a.col) rfl
  have r0 := part_at _ h3 #[.int .i64 b.col, .int .i64 b.v.k, .int .i64 b.v.n, .int .i64 b.v.sc, .string b.v.s] 0 (.int .i64 b.col) rfl
  simp only [q0, r0, part_cell, Result.andThen_ok, e1, e2]
  unfold eqC
  cases a.col == b.col <;> cases eqB a.v.k a.v.n a.v.sc a.v.s b.v.k b.v.n b.v.sc b.v.s <;> rfl
theorem cell_neq (a b : Rm.C) (w : World) :
    (binOp .neq 38 (.agg #[.int .i64 a.col, .int .i64 a.v.k, .int .i64 a.v.n, .int .i64 a.v.sc, .string a.v.s]) (.agg #[.int .i64 b.col, .int .i64 b.v.k, .int .i64 b.v.n, .int .i64 b.v.sc, .string b.v.s])).run Tryd.prog w = .ok (.bool (!eqC a b)) w := by
  rw [run_neq_struct, cell_eqlIn]; rfl
theorem val_neq11 (k n sc : Int) (s : ByteArray) (k' n' sc' : Int) (s' : ByteArray) (w : World) :
    (binOp .neq 36 (.agg #[.int .i64 k, .int .i64 n, .int .i64 sc, .string s]) (.agg #[.int .i64 k', .int .i64 n', .int .i64 sc', .string s'])).run Tryd.prog w = .ok (.bool (!eqB k n sc s k' n' sc' s')) w := by
  rw [run_neq_struct, val_eqlIn]; rfl
theorem below_nr {B : Nat} {a w : World} (h : Below B a w) (n : Nat) : Below B a (w.drewN n) := h.trans ⟨rfl, rfl, rfl, Nat.le_refl _, fun _ _ => rfl⟩
theorem take_eq_succr {a b : List Rm.C} {j : Nat} (ha : j < a.length) (hb : j < b.length) (h : a.take j = b.take j) (e : a[j] = b[j]) : a.take (j + 1) = b.take (j + 1) := by
  rw [← List.take_append_getElem ha, ← List.take_append_getElem hb, h, e]

set_option maxHeartbeats 1000000 in
set_option maxRecDepth 100000 in
theorem ref_same11 (a b : Option Addr) (n m ca cb : Nat) (xs ys : List Rm.C) (w : World) (ha : Rs (.slice a n ca) xs w) (hb : Rs (.slice b m cb) ys w) (hl : xs.length ≤ maxLen) (hk : ys.length ≤ maxLen) :
    Calls Tryd.prog 14 #[.slice a n ca, .slice b m cb] w (Says (decide (xs = ys)) w) := by
  have hn : n = xs.length := by obtain ⟨_, _, e⟩ := ha.form; injection e
  have hm : m = ys.length := by obtain ⟨_, _, e⟩ := hb.form; injection e
  have hn1 : n ≤ xs.length := by omega
  have hn2 : xs.length ≤ n := by omega
  have hm1 : m ≤ ys.length := by omega
  have hm2 : ys.length ≤ m := by omega
  unfold maxLen at hl hk
  clear hn hm
  have HA := Lib.hid ha; have HB := Lib.hid hb
  clear ha hb
  by_cases hnm : n = m
  · have q : ((n : Int) != (m : Int)) = false := by simp; omega
    subst hnm
    obtain ⟨b0, hb0⟩ : ∃ b0, b0 = decide (xs = ys) := ⟨_, rfl⟩
    rw [← hb0]
    have HR := Lib.hid hb0
    clear hb0
    go_enter Tryd.func14, Tryd.ntmps14
    go_wp2
    go_loopw [13] (fun iv wr => ∃ j : Nat, j ≤ n ∧ iv = .int .i64 (j : Int) ∧ Hid (xs.take j = ys.take j) ∧ Hid (Below w.heap.size w wr)) (fun iv _ => n - (Lib.intOf iv).toNat)
    case atStart => exact ⟨0, by omega, rfl, rfl, Below.refl _ _⟩
    case round =>
      obtain ⟨j, hj, rfl, HT, HW⟩ := hrel
      by_cases hlt : j < n
      · have hjx : j < xs.length := by omega
        have hjy : j < ys.length := by omega
        obtain ⟨g, off, ha, -, hg, hcx⟩ := (HA.out.keep HW.out).at j hjx
        obtain ⟨g', off', hb, -, hg', hcy⟩ := (HB.out.keep HW.out).at j hjy
        subst ha; subst hb
        have heq := cell_neq xs[j] ys[j]
        obtain ⟨c0, c1, c2, c3, c4⟩ := hcx
        obtain ⟨d0, d1, d2, d3, d4⟩ := hcy
        by_cases he : xs[j] = ys[j]
        · have h1 : (!eqC xs[j] ys[j]) = false := by rw [eqC_val]; simp [he]
          simp only [h1] at heq
          have HT2 := Lib.hid (take_eq_succr hjx hjy HT.out he)
          clear h1 he HT
          generalize xs[j] = x at *
          generalize ys[j] = y at *
          obtain ⟨xl, xk, xn, xc, xz⟩ := x
          obtain ⟨yl, yk, yn, yc', yz⟩ := y
          dsimp only at c0 c1 c2 c3 c4 d0 d1 d2 d3 d4 heq
          go_wp2_with fail
          go_quiet (fail)
          have HW2 := Lib.hid (below_nr HW.out nq)
          clear HW c0 c1 c2 c3 c4 d0 d1 d2 d3 d4
          go_wp2
          go_roundw
          case rel => exact ⟨j + 1, by omega, by go_num, HT2, HW2⟩
          case measure => simp [Lib.intOf]; omega
        · have h1 : (!eqC xs[j] ys[j]) = true := by rw [eqC_val]; simp [he]
          simp only [h1] at heq
          have HF : Hid (b0 = false) := by
            show _ = _
            rw [HR.out, decide_eq_false_iff_not]
            intro e; subst e; exact he rfl
          clear h1 he HT HR
          generalize xs[j] = x at *
          generalize ys[j] = y at *
          obtain ⟨xl, xk, xn, xc, xz⟩ := x
          obtain ⟨yl, yk, yn, yc', yz⟩ := y
          dsimp only at c0 c1 c2 c3 c4 d0 d1 d2 d3 d4 heq
          go_wp2_with fail
          go_quiet (fail)
          have HW2 := Lib.hid (below_nr HW.out nq)
          clear HW c0 c1 c2 c3 c4 d0 d1 d2 d3 d4
          go_wp2
          go_ret
          exact Says.mk HF.out.symm HW2.out
      · have HF : Hid (b0 = true) := by
          show _ = _
          have h := HT.out
          rw [show j = xs.length by omega, List.take_length, show xs.length = ys.length by omega, List.take_length] at h
          rw [HR.out, decide_eq_true_eq]; exact h
        clear HT HR
        go_wp2
        go_ret
        exact Says.mk HF.out.symm HW.out
  · have q : ((n : Int) != (m : Int)) = true := by simp; omega
    have hd : decide (xs = ys) = false := by rw [decide_eq_false_iff_not]; intro e; subst e; omega
    rw [hd]
    clear hnm hd
    go_enter Tryd.func14, Tryd.ntmps14
    go_wp2
    go_ret
    exact Says.mk rfl (Below.refl _ _)

set_option maxHeartbeats 1000000 in
set_option maxRecDepth 100000 in
theorem row_equal (a b : Option Addr) (n m ca cb : Nat) (xs ys : List Rm.C) (w : World) (ha : Rs (.slice a n ca) xs w) (hb : Rs (.slice b m cb) ys w) (hl : xs.length ≤ maxLen) (hk : ys.length ≤ maxLen) :
    Calls Tryd.prog 42 #[.slice a n ca, .slice b m cb] w (Says (decide (xs = ys)) w) := by
  have hn : n = xs.length := by obtain ⟨_, _, e⟩ := ha.form; injection e
  have hm : m = ys.length := by obtain ⟨_, _, e⟩ := hb.form; injection e
  have hn1 : n ≤ xs.length := by omega
  have hn2 : xs.length ≤ n := by omega
  have hm1 : m ≤ ys.length := by omega
  have hm2 : ys.length ≤ m := by omega
  unfold maxLen at hl hk
  clear hn hm
  have HA := Lib.hid ha; have HB := Lib.hid hb
  clear ha hb
  by_cases hnm : n = m
  · have q : ((n : Int) != (m : Int)) = false := by simp; omega
    subst hnm
    obtain ⟨b0, hb0⟩ : ∃ b0, b0 = decide (xs = ys) := ⟨_, rfl⟩
    rw [← hb0]
    have HR := Lib.hid hb0
    clear hb0
    go_enter Tryd.func42, Tryd.ntmps42
    go_wp2
    go_loopw [13] (fun iv wr => ∃ j : Nat, j ≤ n ∧ iv = .int .i64 (j : Int) ∧ Hid (xs.take j = ys.take j) ∧ Hid (Below w.heap.size w wr)) (fun iv _ => n - (Lib.intOf iv).toNat)
    case atStart => exact ⟨0, by omega, rfl, rfl, Below.refl _ _⟩
    case round =>
      obtain ⟨j, hj, rfl, HT, HW⟩ := hrel
      by_cases hlt : j < n
      · have hjx : j < xs.length := by omega
        have hjy : j < ys.length := by omega
        obtain ⟨g, off, ha, -, hg, hcx⟩ := (HA.out.keep HW.out).at j hjx
        obtain ⟨g', off', hb, -, hg', hcy⟩ := (HB.out.keep HW.out).at j hjy
        subst ha; subst hb
        have heq := cell_neq xs[j] ys[j]
        obtain ⟨c0, c1, c2, c3, c4⟩ := hcx
        obtain ⟨d0, d1, d2, d3, d4⟩ := hcy
        by_cases he : xs[j] = ys[j]
        · have h1 : (!eqC xs[j] ys[j]) = false := by rw [eqC_val]; simp [he]
          simp only [h1] at heq
          have HT2 := Lib.hid (take_eq_succr hjx hjy HT.out he)
          clear h1 he HT
          generalize xs[j] = x at *
          generalize ys[j] = y at *
          obtain ⟨xl, xk, xn, xc, xz⟩ := x
          obtain ⟨yl, yk, yn, yc', yz⟩ := y
          dsimp only at c0 c1 c2 c3 c4 d0 d1 d2 d3 d4 heq
          go_wp2_with fail
          go_quiet (fail)
          have HW2 := Lib.hid (below_nr HW.out nq)
          clear HW c0 c1 c2 c3 c4 d0 d1 d2 d3 d4
          go_wp2
          go_roundw
          case rel => exact ⟨j + 1, by omega, by go_num, HT2, HW2⟩
          case measure => simp [Lib.intOf]; omega
        · have h1 : (!eqC xs[j] ys[j]) = true := by rw [eqC_val]; simp [he]
          simp only [h1] at heq
          have HF : Hid (b0 = false) := by
            show _ = _
            rw [HR.out, decide_eq_false_iff_not]
            intro e; subst e; exact he rfl
          clear h1 he HT HR
          generalize xs[j] = x at *
          generalize ys[j] = y at *
          obtain ⟨xl, xk, xn, xc, xz⟩ := x
          obtain ⟨yl, yk, yn, yc', yz⟩ := y
          dsimp only at c0 c1 c2 c3 c4 d0 d1 d2 d3 d4 heq
          go_wp2_with fail
          go_quiet (fail)
          have HW2 := Lib.hid (below_nr HW.out nq)
          clear HW c0 c1 c2 c3 c4 d0 d1 d2 d3 d4
          go_wp2
          go_ret
          exact Says.mk HF.out.symm HW2.out
      · have HF : Hid (b0 = true) := by
          show _ = _
          have h := HT.out
          rw [show j = xs.length by omega, List.take_length, show xs.length = ys.length by omega, List.take_length] at h
          rw [HR.out, decide_eq_true_eq]; exact h
        clear HT HR
        go_wp2
        go_ret
        exact Says.mk HF.out.symm HW.out
  · have q : ((n : Int) != (m : Int)) = true := by simp; omega
    have hd : decide (xs = ys) = false := by rw [decide_eq_false_iff_not]; intro e; subst e; omega
    rw [hd]
    clear hnm hd
    go_enter Tryd.func42, Tryd.ntmps42
    go_wp2
    go_ret
    exact Says.mk rfl (Below.refl _ _)

theorem row_same (a b : Option Addr) (n m ca cb : Nat) (xs ys : List Rm.C) (w : World) (ha : Rs (.slice a n ca) xs w) (hb : Rs (.slice b m cb) ys w) (hl : xs.length ≤ maxLen) (hk : ys.length ≤ maxLen) :
    Calls Tryd.prog 22 #[.slice a n ca, .slice b m cb] w (Says (decide (xs = ys)) w) := by
  have HC := Lib.hid (row_equal a b n m ca cb xs ys w ha hb hl hk)
  clear ha hb hl hk
  obtain ⟨B, hB⟩ : ∃ B, B = decide (xs = ys) := ⟨_, rfl⟩
  rw [← hB] at HC ⊢
  clear hB
  go_enter Tryd.func22, Tryd.ntmps22
  go_wp2_with fail
  refine HC.out.mono ?_
  rintro e w1 ⟨rfl, hb⟩
  have HB := Lib.hid hb
  clear hb HC
  go_wp2
  go_ret
  exact Says.mk rfl HB.out
end Go.Proofs.YtmipomglbccjbaaDoor
