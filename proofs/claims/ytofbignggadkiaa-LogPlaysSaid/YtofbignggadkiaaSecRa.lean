/- The reference of layer 6: Full; the device in memory; check, count. -/
import Derived.Test.YtofbignggadkiaaSecLaw
import Derived.Test.YtofbignggadkiaaSecBase
import Derived.LoopTactic
import Derived.Test.YtofbignggadkiaaKitAppend
import Derived.Laws.OwnMore
namespace Go.Proofs.Ytofbignggadkiaa
open Go.RowKit

/-- bytes as a string -/
def st (l : List UInt8) : ByteArray := ⟨l.toArray⟩
theorem st_size (l : List UInt8) : (st l).size = l.length := by simp [st, ByteArray.size]
theorem st_append (a b : List UInt8) : st a ++ st b = st (a ++ b) := by
  apply ByteArray.ext
  simp [st]
theorem full_more (l : List UInt8) (j : Nat) (h : 64 ≤ l.length + j) (h2 : j = 0 ∨ l.length + j ≤ 64) : l ++ List.replicate j 0 = Sm.full l := by
  unfold Sm.full
  congr 2
  omega
set_option maxHeartbeats 1000000 in
theorem ref6_full (l : List UInt8) (w : World) (hz : l.length ≤ 100000) : Calls Try.prog 28 #[.string (st l)] w fun e w' => e = .returned (.string (st (Sm.full l))) ∧ w = w' := by
  go_enter Try.func28, Try.ntmps28
  go_wp2
  go_loop [0] (fun bv => ∃ (j : Nat) (T : ByteArray), bv = .string T ∧ Hid (T = st (l ++ List.replicate j 0)) ∧ T.size = l.length + j ∧ (j = 0 ∨ l.length + j ≤ 64)) (fun bv => (match bv with | .string b => 100000 - b.size | _ => 0))
  case atStart => exact ⟨0, _, rfl, by show _ = _; rw [List.replicate_zero, List.append_nil], by rw [st_size]; rfl, .inl rfl⟩
  case round =>
    obtain ⟨j, T, rfl, HT, hs, hj⟩ := hrel
    by_cases hlt : T.size < 64
    · have hi : (T.size : Int) < 64 := by omega
      have HN : Hid (T ++ ⟨#[0]⟩ = st (l ++ List.replicate (j + 1) 0)) := by
        show _ = _
        rw [HT.out, show (⟨#[0]⟩ : ByteArray) = st [0] from rfl, st_append, List.append_assoc, ← List.replicate_succ']
      have hs2 : (T ++ ⟨#[0]⟩ : ByteArray).size = T.size + 1 := ByteArray.size_append
      clear HT
      go_wp2
      go_round
      case rel => exact ⟨j + 1, _, rfl, HN, by rw [hs2]; omega, .inr (by omega)⟩
      case measure => show 100000 - (T ++ ⟨#[0]⟩ : ByteArray).size < 100000 - T.size; rw [hs2]; omega
    · have hi : (64 : Int) ≤ (T.size : Int) := by omega
      have HF : Hid (T = st (Sm.full l)) := by show _ = _; rw [HT.out, full_more l j (by omega) hj]
      clear HT
      go_wp2
      go_ret
      exact ⟨by rw [HF.out]; rfl, rfl⟩
/-- strings as cells -/
def sc (l : List (List UInt8)) : List Value := l.map fun s => Value.string (st s)
theorem sc_length (l : List (List UInt8)) : (sc l).length = l.length := by simp [sc]
/-- a write's cells -/
def wcs : List Sm.Wr → List Value
  | [] => []
  | x :: r => .int .i64 (x.i : Int) :: .string (st x.b) :: wcs r
theorem wcs_length : ∀ l : List Sm.Wr, (wcs l).length = l.length * 2
  | [] => rfl
  | x :: r => by rw [wcs, List.length_cons, List.length_cons, wcs_length r, List.length_cons]; omega
theorem wcs_append : ∀ l r : List Sm.Wr, wcs (l ++ r) = wcs l ++ wcs r
  | [], _ => rfl
  | x :: l, r => by rw [List.cons_append, wcs, wcs, wcs_append l r]; rfl
theorem wcs_one : ∀ (l : List Sm.Wr), ∀ u ∈ wcs l, u.oneCell' = true
  | [], _, h => by cases h
  | x :: r, u, h => by
    rw [wcs, List.mem_cons, List.mem_cons] at h
    rcases h with rfl | rfl | h
    · rfl
    · rfl
    · exact wcs_one r u h
theorem wcs_get : ∀ (l : List Sm.Wr) (j : Nat) (x : Sm.Wr), l[j]? = some x → (wcs l)[j * 2]? = some (.int .i64 (x.i : Int)) ∧ (wcs l)[j * 2 + 1]? = some (.string (st x.b))
  | [], _, _, h => by simp at h
  | y :: r, 0, x, h => by
    simp at h; subst h
    exact ⟨rfl, rfl⟩
  | y :: r, j + 1, x, h => by
    rw [List.getElem?_cons_succ] at h
    obtain ⟨h1, h2⟩ := wcs_get r j x h
    rw [wcs, show (j + 1) * 2 = (j * 2 + 1) + 1 by omega, List.getElem?_cons_succ, List.getElem?_cons_succ, List.getElem?_cons_succ, List.getElem?_cons_succ]
    exact ⟨h1, h2⟩
/-- WRITES: what is known of their cells -/
def Wv (v : Value) (l : List Sm.Wr) (w : World) : Prop :=
  (∃ a c, v = .slice a 0 c ∧ l = []) ∨
  ∃ g off cap, v = .slice (some ⟨g, off, none⟩) l.length cap ∧ l.length ≤ cap ∧ g < w.heap.size ∧ ∀ i u, (wcs l)[i]? = some u → w.cell? ⟨g, off + i, none⟩ = some u
theorem Wv.keep {v : Value} {l : List Sm.Wr} {w w' : World} (h : Wv v l w) (hb : Below w.heap.size w w') : Wv v l w' := by
  rcases h with h | ⟨g, off, cap, rfl, hc, hg, hcell⟩
  · exact .inl h
  · exact .inr ⟨g, off, cap, rfl, hc, by have := hb.size; omega, fun i u hi => (hb.cell (p := ⟨g, off + i, none⟩) hg).trans (hcell i u hi)⟩
theorem Wv.set {v : Value} {l : List Sm.Wr} {w : World} (h : Wv v l w) (b o : Nat) (x : Value) (hne : ∀ a n c, v = .slice (some a) n c → a.block ≠ b) : Wv v l (w.setCell ⟨b, o, none⟩ x) := by
  rcases h with h | ⟨g, off, cap, rfl, hc, hg, hcell⟩
  · exact .inl h
  · have hgb : g ≠ b := hne _ _ _ rfl
    refine .inr ⟨g, off, cap, rfl, hc, by simpa using hg, fun i u hi => ?_⟩
    rw [World.cell?_setCell_other w ⟨b, o, none⟩ ⟨g, off + i, none⟩ x (fun e => by injection e with e1 _; exact hgb e1.symm)]
    exact hcell i u hi
/-- where write j lies -/
theorem Wv.at {a : Option Addr} {n c : Nat} {l : List Sm.Wr} {w : World} (h : Wv (.slice a n c) l w) (j : Nat) (hj : j < l.length) :
    ∃ g off, a = some ⟨g, off, none⟩ ∧ g < w.heap.size ∧ w.cell? ⟨g, off + j * 2, none⟩ = some (.int .i64 (l[j].i : Int)) ∧ w.cell? ⟨g, off + j * 2 + 1, none⟩ = some (.string (st l[j].b)) := by
  rcases h with ⟨b, d, _, rfl⟩ | ⟨g, off, cap, e, hc, hg, hcell⟩
  · simp at hj
  · injection e with e1 e2 e3
    subst e1
    obtain ⟨h1, h2⟩ := wcs_get l j l[j] (List.getElem?_eq_getElem hj)
    exact ⟨g, off, rfl, hg, hcell _ _ h1, by rw [Nat.add_assoc]; exact hcell _ _ h2⟩
/-- the reference's device in block g, its sectors in block kb -/
structure Dr (g kb kc : Nat) (wa : Option Addr) (wc : Nat) (d : Sm.Dv) (W : World) : Prop where
  c0 : W.cell? ⟨g, 0, none⟩ = some (.slice (some ⟨kb, 0, none⟩) d.kept.length kc)
  c1 : W.cell? ⟨g, 1, none⟩ = some (.slice wa d.ws.length wc)
  c2 : W.cell? ⟨g, 2, none⟩ = some (.int .i64 d.left)
  c3 : W.cell? ⟨g, 3, none⟩ = some (.int .i64 d.calls)
  fz : ∀ o, W.frozen? ⟨g, o, none⟩ = false
  lt : g < W.heap.size
  kr : W.ownsRow 0 9 1 (.slice (some ⟨kb, 0, none⟩) d.kept.length kc) d.kept.length (sc d.kept)
  ne : kb ≠ g
  ws : Wv (.slice wa d.ws.length wc) d.ws W
  wne : ∀ a, wa = some a → a.block ≠ g ∧ a.block ≠ kb
set_option maxHeartbeats 1000000 in
theorem ref6_check (g kb kc wc : Nat) (wa : Option Addr) (d : Sm.Dv) (i : Int) (s : ByteArray) (w : World) (h : Dr g kb kc wa wc d w) (hz : s.size ≤ 100000) :
    Calls Try.prog 44 #[.pointer (some ⟨g, 0, none⟩), .int .i64 i, .string s] w fun e w' => e = .returned (.int .i64 (Sm.check d i s.size)) ∧ w = w' := by
  obtain ⟨N, hN⟩ : ∃ N, N = d.kept.length := ⟨_, rfl⟩
  obtain ⟨L, hL⟩ : ∃ L, L = d.left := ⟨_, rfl⟩
  have c0 := h.c0; have c2 := h.c2
  have HC : Hid (Sm.check d i s.size = if i < 0 ∨ (N : Int) ≤ i ∨ 64 < s.size then 2 else if L = 0 then 60 else 0) := by
    show _ = _; unfold Sm.check; rw [hN, hL]
  rw [← hN] at c0
  rw [← hL] at c2
  obtain ⟨R, hR⟩ : ∃ R, R = Sm.check d i s.size := ⟨_, rfl⟩
  rw [← hR] at HC ⊢
  clear hR hN hL h
  by_cases h0 : i < 0
  · have q : decide (i < 0) = true := by simpa using h0
    have HR : Hid (R = 2) := by show _ = _; rw [HC.out, if_pos (.inl h0)]
    clear HC
    go_enter Try.func44, Try.ntmps44
    go_wp2
    go_ret
    exact ⟨by rw [HR.out]; rfl, rfl⟩
  have q0 : decide (i < 0) = false := by simpa using h0
  by_cases h1 : (N : Int) ≤ i
  · have q : decide ((N : Int) ≤ i) = true := by simpa using h1
    have HR : Hid (R = 2) := by show _ = _; rw [HC.out, if_pos (.inr (.inl h1))]
    clear HC
    go_enter Try.func44, Try.ntmps44
    go_wp2
    go_ret
    exact ⟨by rw [HR.out]; rfl, rfl⟩
  have q1 : decide ((N : Int) ≤ i) = false := by simpa using h1
  by_cases h2 : 64 < s.size
  · have q : decide ((64 : Int) < (s.size : Int)) = true := by simp; omega
    have HR : Hid (R = 2) := by show _ = _; rw [HC.out, if_pos (.inr (.inr h2))]
    clear HC
    go_enter Try.func44, Try.ntmps44
    go_wp2
    go_ret
    exact ⟨by rw [HR.out]; rfl, rfl⟩
  have q2 : decide ((64 : Int) < (s.size : Int)) = false := by simp; omega
  by_cases h3 : L = 0
  · have q : (L == 0) = true := by simpa using h3
    have HR : Hid (R = 60) := by show _ = _; rw [HC.out, if_neg (fun h => h.elim h0 (fun h => h.elim h1 h2)), if_pos h3]
    subst h3
    clear HC
    go_enter Try.func44, Try.ntmps44
    go_wp2
    go_ret
    exact ⟨by rw [HR.out]; rfl, rfl⟩
  have q3 : (L == 0) = false := by rw [beq_eq_false_iff_ne]; exact h3
  have HR : Hid (R = 0) := by show _ = _; rw [HC.out, if_neg (fun h => h.elim h0 (fun h => h.elim h1 h2)), if_neg h3]
  clear HC
  go_enter Try.func44, Try.ntmps44
  go_wp2
  go_ret
  exact ⟨by rw [HR.out]; rfl, rfl⟩
theorem cell_keep (w : World) (g o j : Nat) (x : Value) (hne : o ≠ j) : (w.setCell ⟨g, o, none⟩ x).cell? ⟨g, j, none⟩ = w.cell? ⟨g, j, none⟩ := World.cell?_setCell_other w ⟨g, o, none⟩ ⟨g, j, none⟩ x (fun e => by injection e with _ e2; exact hne e2)
theorem own_set {w : World} {B : Nat} {e : TypeId} {size n : Nat} {v : Value} {xs : List Value} {g o : Nat} (h : w.ownsRow B e size v n xs) (x : Value) (hne : v.ownBlock ≠ some g) : (w.setCell ⟨g, o, none⟩ x).ownsRow B e size v n xs := by
  obtain ⟨h1, h2⟩ := h
  refine ⟨h1, ?_⟩
  rcases h2 with h2 | ⟨b, cap, cur, hv, hB, hg, rest⟩
  · exact .inl h2
  · refine .inr ⟨b, cap, cur, hv, hB, ?_, rest⟩
    rw [Below.heap_setCell _ _ _ _ (by rintro rfl; exact hne (by rw [hv]; rfl))]
    exact hg
theorem Dr.setLeft {g kb kc wc : Nat} {wa : Option Addr} {d : Sm.Dv} {w : World} (h : Dr g kb kc wa wc d w) (L : Int) : Dr g kb kc wa wc { d with left := L } (w.setCell ⟨g, 2, none⟩ (.int .i64 L)) :=
  ⟨(cell_keep _ _ _ _ _ (by decide)).trans h.c0, (cell_keep _ _ _ _ _ (by decide)).trans h.c1, World.cell?_setCell_same _ _ _ h.c2, (cell_keep _ _ _ _ _ (by decide)).trans h.c3,
    fun o => by have := h.fz o; simpa using this, by have := h.lt; simpa using this, own_set h.kr _ (fun e => h.ne (by simpa [Value.ownBlock] using e)), h.ne, h.ws.set g _ _ (fun a n c e => (h.wne a (by injection e)).1), h.wne⟩
theorem Dr.setCalls {g kb kc wc : Nat} {wa : Option Addr} {d : Sm.Dv} {w : World} (h : Dr g kb kc wa wc d w) (L : Int) : Dr g kb kc wa wc { d with calls := L } (w.setCell ⟨g, 3, none⟩ (.int .i64 L)) :=
  ⟨(cell_keep _ _ _ _ _ (by decide)).trans h.c0, (cell_keep _ _ _ _ _ (by decide)).trans h.c1, (cell_keep _ _ _ _ _ (by decide)).trans h.c2, World.cell?_setCell_same _ _ _ h.c3,
    fun o => by have := h.fz o; simpa using this, by have := h.lt; simpa using this, own_set h.kr _ (fun e => h.ne (by simpa [Value.ownBlock] using e)), h.ne, h.ws.set g _ _ (fun a n c e => (h.wne a (by injection e)).1), h.wne⟩
theorem own_keep {w w' : World} {B : Nat} {e : TypeId} {size n : Nat} {v : Value} {xs : List Value} (h : w.ownsRow B e size v n xs) (hb : Below w.heap.size w w') : w'.ownsRow B e size v n xs := by
  obtain ⟨h1, h2⟩ := h
  refine ⟨h1, ?_⟩
  rcases h2 with h2 | ⟨g, cap, cur, hv, hB, hg, rest⟩
  · exact .inl h2
  · exact .inr ⟨g, cap, cur, hv, hB, by rw [hb.block g (Array.getElem?_eq_some_iff.1 hg).1]; exact hg, rest⟩
theorem Dr.keep {g kb kc wc : Nat} {wa : Option Addr} {d : Sm.Dv} {w w' : World} (h : Dr g kb kc wa wc d w) (hb : Below w.heap.size w w') : Dr g kb kc wa wc d w' :=
  ⟨(hb.cell (p := ⟨g, 0, none⟩) h.lt).trans h.c0, (hb.cell (p := ⟨g, 1, none⟩) h.lt).trans h.c1, (hb.cell (p := ⟨g, 2, none⟩) h.lt).trans h.c2, (hb.cell (p := ⟨g, 3, none⟩) h.lt).trans h.c3,
    fun o => (hb.frozen (p := ⟨g, o, none⟩) h.lt).trans (h.fz o), by have := h.lt; have := hb.size; omega, own_keep h.kr hb, h.ne, h.ws.keep hb, h.wne⟩
theorem Dr.sector {g kb kc wc : Nat} {wa : Option Addr} {d : Sm.Dv} {w : World} (h : Dr g kb kc wa wc d w) (i : Nat) (hi : i < d.kept.length) : w.cell? ⟨kb, i, none⟩ = some (.string (st (d.kept.getD i []))) := by
  have hc := h.kr.cells (g := kb) rfl i (.string (st (d.kept.getD i []))) (by unfold sc; rw [List.getElem?_map, List.getElem?_eq_getElem hi]; simp [List.getD, hi])
  rw [show (⟨kb, 0, none⟩ : Addr).add i = ⟨kb, i, none⟩ by unfold Addr.add; split <;> simp_all] at hc
  exact hc
end Go.Proofs.Ytofbignggadkiaa
/- The reference of layer 6: count, Bound. -/
namespace Go.Proofs.Ytofbignggadkiaa
open Go.RowKit

/-- an index's number -/
def ixOf : Value → Int
  | .int _ n => n
  | _ => 0
set_option maxHeartbeats 1000000 in
theorem ref6_count (g kb kc wc : Nat) (wa : Option Addr) (d : Sm.Dv) (w : World) (h : Dr g kb kc wa wc d w) (hc : 0 ≤ d.calls ∧ d.calls ≤ 1000000) (hl : -1 ≤ d.left ∧ d.left ≤ 9223372036854775807) :
    Calls Try.prog 45 #[.pointer (some ⟨g, 0, none⟩)] w fun e w' => e = .returned (.tuple #[]) ∧ Dr g kb kc wa wc (Sm.count d) w' ∧ Only (fun k => k = g) w w' := by
  have H := Lib.hid h
  have c2 := h.c2; have c3 := h.c3; have fz := h.fz; have lt := h.lt
  obtain ⟨L, hL⟩ : ∃ L, L = d.left := ⟨_, rfl⟩
  obtain ⟨C, hC⟩ : ∃ C, C = d.calls := ⟨_, rfl⟩
  have HD : Hid (Sm.count d = { d with calls := C + 1, left := if 0 < L then L - 1 else L }) := by show _ = _; rw [hC, hL]; rfl
  rw [← hL] at c2 hl
  rw [← hC] at c3 hc
  obtain ⟨hc1, hc2⟩ := hc
  obtain ⟨hl1, hl2⟩ := hl
  clear hL hC h
  have H1 := Lib.hid (H.out.setCalls (C + 1))
  have e2 := H1.out.c2
  have O1 : Hid (Only (fun k => k = g) w (w.setCell ⟨g, 3, none⟩ (.int .i64 (C + 1)))) := Only.setCell (p := fun k => k = g) (Only.refl _ w) (q := ⟨g, 3, none⟩) (.inl rfl) _
  have b2 : (w.setCell ⟨g, 3, none⟩ (.int .i64 (C + 1))).cell? ⟨g, 2, none⟩ = some (.int .i64 L) := (cell_keep _ _ _ _ _ (by decide)).trans c2
  by_cases h0 : 0 < L
  · have q : decide (0 < L) = true := by simpa using h0
    have HE : Hid (Sm.count d = { { d with calls := C + 1 } with left := L - 1 }) := by show _ = _; rw [HD.out, if_pos h0]
    clear HD e2
    go_enter Try.func45, Try.ntmps45
    go_wp2
    go_end0
    refine ⟨rfl, ?_, Only.setCell (p := fun k => k = g) O1.out (q := ⟨g, 2, none⟩) (.inl rfl) _⟩
    rw [HE.out]; exact H1.out.setLeft (L - 1)
  · have q : decide (0 < L) = false := by simpa using h0
    have HE : Hid (Sm.count d = { { d with calls := C + 1 } with left := L }) := by show _ = _; rw [HD.out, if_neg h0]
    have HF : Hid (Dr g kb kc wa wc { { d with calls := C + 1 } with left := L } (w.setCell ⟨g, 3, none⟩ (.int .i64 (C + 1)))) := by
      have h := H1.out
      exact ⟨h.c0, h.c1, b2, h.c3, h.fz, h.lt, h.kr, h.ne, h.ws, h.wne⟩
    clear HD e2
    go_enter Try.func45, Try.ntmps45
    go_wp2
    go_end0
    refine ⟨rfl, ?_, O1.out⟩
    rw [HE.out]; exact HF.out
theorem max_0 (x M : Int) (h : (if (0 : Int) > x then 0 else x) = M) (W : World) : (Builtin.max_ #[3, 3] 3 #[.int .i64 x, .int .i64 0]).run Try.prog W = .ok (.int .i64 M) W := by
  rw [← h]
  simp [Builtin.max_, Builtin.max2]
set_option maxHeartbeats 1000000 in
theorem ref6_bound (g kb kc wc : Nat) (wa : Option Addr) (d : Sm.Dv) (n : Int) (w : World) (h : Dr g kb kc wa wc d w) :
    Calls Try.prog 19 #[.pointer (some ⟨g, 0, none⟩), .int .i64 n] w fun e w' => e = .returned (.tuple #[]) ∧ Dr g kb kc wa wc (Sm.bound d n) w' ∧ Only (fun k => k = g) w w' := by
  have H := Lib.hid h
  have c2 := h.c2; have fz := h.fz; have lt := h.lt
  obtain ⟨M, hM⟩ : ∃ M : Int, (if (0 : Int) > n then 0 else n) = M := ⟨_, rfl⟩
  have HM : Hid (max n 0 = M) := by show _ = _; rw [← hM, Int.max_def]; split <;> split <;> omega
  have hmx := max_0 n M hM
  clear hM h
  go_enter Try.func19, Try.ntmps19
  go_wp2
  go_end0
  refine ⟨rfl, ?_, Only.setCell (p := fun k => k = g) (Only.refl _ w) (.inl rfl) _⟩
  unfold Sm.bound
  rw [HM.out]; exact H.out.setLeft M
set_option maxHeartbeats 2000000 in
theorem ref6_read (g kb kc wc : Nat) (wa : Option Addr) (d : Sm.Dv) (i : Int) (w : World) (h : Dr g kb kc wa wc d w) (hw : d.ws.length ≤ 1000) :
    Calls Try.prog 27 #[.pointer (some ⟨g, 0, none⟩), .int .i64 i] w fun e w' => e = .returned (.tuple #[.string (st (Sm.read d i).1), .int .i64 (Sm.read d i).2]) ∧ Below w.heap.size w w' := by
  have HC : Hid (∀ W, Dr g kb kc wa wc d W → Calls Try.prog 44 #[.pointer (some ⟨g, 0, none⟩), .int .i64 i, .string ⟨#[]⟩] W fun e w' => e = .returned (.int .i64 (Sm.check d i 0)) ∧ W = w') := fun W hW => ref6_check g kb kc wc wa d i ⟨#[]⟩ W hW (by decide)
  have H := Lib.hid h
  by_cases hc : Sm.check d i 0 = 0
  case neg =>
    have HR : Hid (Sm.read d i = ([], Sm.check d i 0)) := by show _ = _; unfold Sm.read; rw [if_neg hc]
    have q : (Sm.check d i 0 != 0) = true := by simpa using hc
    rw [HR.out]
    clear HR h hc
    generalize Sm.check d i 0 = E at *
    go_enter Try.func27, Try.ntmps27
    go_wp2_with fail
    refine (HC.out _ H.out).mono ?_
    rintro e w1 ⟨rfl, rfl⟩
    go_wp2
    go_ret2
    exact ⟨rfl, Below.refl _ _⟩
  obtain ⟨i0, i1, -, -⟩ := Sm.check_0 hc
  obtain ⟨n, rfl⟩ : ∃ n : Nat, i = (n : Int) := ⟨i.toNat, by omega⟩
  have hn : n < d.kept.length := by omega
  have HR : Hid (Sm.read d (n : Int) = (Sm.last (d.kept.getD n []) n d.ws, 0)) := by
    show _ = _; unfold Sm.read; rw [if_pos hc]; rfl
  rw [HR.out]
  rw [hc] at HC
  have s0 := h.sector n hn
  have c0 := h.c0; have c1 := h.c1
  obtain ⟨K, hK⟩ : ∃ K, K = d.kept.length := ⟨_, rfl⟩
  obtain ⟨M, hM⟩ : ∃ M, M = d.ws.length := ⟨_, rfl⟩
  obtain ⟨sk, hsk⟩ : ∃ sk, sk = d.kept.getD n [] := ⟨_, rfl⟩
  have HWV : Hid (Wv (.slice wa M wc) d.ws w) := by rw [hM]; exact h.ws
  rw [← hK] at c0 hn
  rw [← hM] at c1
  rw [← hsk] at s0 ⊢
  have M1 : M ≤ d.ws.length := by omega
  have M2 : d.ws.length ≤ M := by omega
  have hni : (n : Int) < (K : Int) := by omega
  clear HR hc h hK hM hsk i0 i1
  go_enter Try.func27, Try.ntmps27
  go_wp2_with fail
  refine (HC.out _ H.out).mono ?_
  rintro e w1 ⟨rfl, rfl⟩
  go_wp2_with fail
  go_loopw [7, 28] (fun sv iv wr => ∃ j : Nat, j ≤ M ∧ iv = .int .i64 (j : Int) ∧ ∃ T, sv = .string T ∧ Hid (T = st (Sm.last sk n (d.ws.take j))) ∧ Hid (Below w.heap.size w wr)) (fun _ iv _ => M - (ixOf iv).toNat)
  case atStart => exact ⟨0, by omega, rfl, _, rfl, rfl, Below.refl _ _⟩
  case round =>
    obtain ⟨j, hj, rfl, T, rfl, HT, HB⟩ := hrel
    have hwr := HB.out.size
    by_cases hlt : j < M
    · have hjl : j < d.ws.length := by omega
      obtain ⟨b, off, ha, hg, e0, e1⟩ := (HWV.out.keep HB.out).at j hjl
      have HL : Hid (Sm.last sk n (d.ws.take (j + 1)) = if d.ws[j].i = n then d.ws[j].b else Sm.last sk n (d.ws.take j)) := by
        show _ = _
        rw [← List.take_append_getElem hjl, Sm.last_app]
      subst ha
      generalize d.ws[j] = x at *
      obtain ⟨xi, xb⟩ := x
      dsimp only at e0 e1 HL
      have HB2 := Lib.hid (HB.out.alloc hwr (.cells #[.int .i64 (xi : Int), .string (st xb)] 91))
      by_cases hx : xi = n
      · have q : ((xi : Int) == (n : Int)) = true := by rw [beq_iff_eq]; omega
        have HT2 : Hid (st xb = st (Sm.last sk n (d.ws.take (j + 1)))) := by show _ = _; rw [HL.out, if_pos hx]
        clear HL hx HT
        go_wp2
        go_roundw
        case rel => exact ⟨j + 1, by omega, by go_num, _, rfl, HT2, HB2⟩
        case measure => simp [ixOf]; omega
      · have q : ((xi : Int) == (n : Int)) = false := by rw [beq_eq_false_iff_ne]; omega
        have HT2 : Hid (T = st (Sm.last sk n (d.ws.take (j + 1)))) := by show _ = _; rw [HL.out, if_neg hx]; exact HT.out
        clear HL hx HT
        go_wp2
        go_roundw
        case rel => exact ⟨j + 1, by omega, by go_num, _, rfl, HT2, HB2⟩
        case measure => simp [ixOf]; omega
    · have HF : Hid (T = st (Sm.last sk n d.ws)) := by
        show _ = _
        rw [HT.out, List.take_of_length_le (by omega)]
      clear HT
      go_wp2
      go_ret2
      exact ⟨by rw [HF.out]; rfl, HB.out⟩
end Go.Proofs.Ytofbignggadkiaa
/- The reference of layer 6: Write. -/
namespace Go.Proofs.Ytofbignggadkiaa
open Go.RowKit

theorem Wv.src {a : Option Addr} {n c : Nat} {l : List Sm.Wr} {w : World} (h : Wv (.slice a n c) l w) : Src Try.prog 2 60 (.slice a n c) n (wcs l) w := by
  rcases h with ⟨b, d, e, rfl⟩ | ⟨g, off, cap, e, _, _, hc⟩
  · injection e with e1 e2 e3
    subst e1; subst e2; subst e3
    cases a with
    | none => exact Src.ofNil w Try.underlying60 c
    | some a => exact Src.ofSlice w Try.underlying60 a 0 c [] rfl (fun j u h => by simp at h) (fun u h => by simp at h)
  · injection e with e1 e2 e3
    subst e1; subst e2; subst e3
    exact Src.ofSlice w Try.underlying60 ⟨g, off, none⟩ l.length c (wcs l) (wcs_length l) (fun j u hj => by rw [show (⟨g, off, none⟩ : Addr).add j = ⟨g, off + j, none⟩ by unfold Addr.add; split <;> simp_all]; exact hc j u hj) (wcs_one l)
theorem Wv.of_own {w : World} {B : Nat} {v : Value} {l : List Sm.Wr} {n : Nat} (h : w.ownsRow B 91 2 v n (wcs l)) : Wv v l w := by
  obtain ⟨h1, h2⟩ := h
  have hn : l.length = n := by rw [wcs_length] at h1; omega
  rcases h2 with ⟨rfl, rfl⟩ | ⟨g, cap, cur, rfl, _, hg, hc, hm, hs, ht⟩
  · exact .inl ⟨_, _, rfl, List.eq_nil_of_length_eq_zero hn⟩
  · refine .inr ⟨g, 0, cap, by rw [hn], by omega, (Array.getElem?_eq_some_iff.1 hg).1, fun i u hi => ?_⟩
    rw [← ht, List.getElem?_take] at hi
    rw [Lib.cell_of_heap hg, Nat.zero_add]
    split at hi
    · simpa using hi
    · cases hi
theorem info2w : (Try.prog.info? 91).map (fun i => (i.zero, i.size, i.bytes)) = some (some (.agg #[.int .i64 0, .string ⟨#[]⟩]), 2, 24) := by kernel_rfl
theorem info_of {o : Option TypeInfo} {x : Option Value} {y z : Nat} (h : o.map (fun i => (i.zero, i.size, i.bytes)) = some (x, y, z)) : ∃ i, o = some i ∧ i.zero = x ∧ i.size = y ∧ i.bytes = z := by
  cases o with
  | none => cases h
  | some i => simp at h; exact ⟨i, rfl, h.1, h.2.1, h.2.2⟩
theorem lit_srcw (w : World) (x : Sm.Wr) (g : Nat) (hg : g = w.heap.size) : Src Try.prog 2 60 (.slice (some ⟨g, 0, none⟩) 1 1) 1 (wcs [x]) (w.alloc (.cells #[.int .i64 (x.i : Int), .string (st x.b)] 91)) := by
  subst hg
  exact (Wv.of_own (B := 0) (World.ownsRow_lit w #[.int .i64 (x.i : Int), .string (st x.b)] 1 (Nat.zero_le _) (by decide) rfl)).src
theorem Dr.setWs {g kb kc wc wc' : Nat} {wa a' : Option Addr} {d : Sm.Dv} {w : World} (h : Dr g kb kc wa wc d w) (l : List Sm.Wr) (M : Nat) (hM : M = l.length) (hv : Wv (.slice a' M wc') l w) (hne : ∀ a, a' = some a → a.block ≠ g ∧ a.block ≠ kb) :
    Dr g kb kc a' wc' { d with ws := l } (w.setCell ⟨g, 1, none⟩ (.slice a' M wc')) := by
  subst hM
  exact ⟨(cell_keep _ _ _ _ _ (by decide)).trans h.c0, World.cell?_setCell_same _ _ _ h.c1, (cell_keep _ _ _ _ _ (by decide)).trans h.c2, (cell_keep _ _ _ _ _ (by decide)).trans h.c3,
    fun o => by have := h.fz o; simpa using this, by have := h.lt; simpa using this, own_set h.kr _ (fun e => h.ne (by simpa [Value.ownBlock] using e)), h.ne, hv.set g _ _ (fun a n c e => (hne a (by injection e)).1), hne⟩
theorem own_form {w : World} {B n : Nat} {v : Value} {l : List Sm.Wr} (h : w.ownsRow B 91 2 v n (wcs l)) : ∃ a c, v = .slice a n c := by
  obtain ⟨h1, h2⟩ := h
  rw [wcs_length] at h1
  rcases h2 with ⟨rfl, rfl⟩ | ⟨g, cap, cur, rfl, _⟩
  · exact ⟨_, _, rfl⟩
  · exact ⟨_, _, rfl⟩
set_option maxHeartbeats 2000000 in
theorem ref6_write (g kb kc wc : Nat) (wa : Option Addr) (d : Sm.Dv) (i : Int) (l : List UInt8) (w : World) (h : Dr g kb kc wa wc d w) (hw : d.ws.length ≤ 1000) (hl : l.length ≤ 100000) (hc : 0 ≤ d.calls ∧ d.calls ≤ 1000000) (hf : -1 ≤ d.left ∧ d.left ≤ 9223372036854775807) :
    Calls Try.prog 21 #[.pointer (some ⟨g, 0, none⟩), .int .i64 i, .string (st l)] w fun e w' => e = .returned (.int .i64 (Sm.write d i l).2) ∧ Only (fun k => k = g) w w' ∧ ∃ wa' wc', Dr g kb kc wa' wc' (Sm.write d i l).1 w' ∧ ∀ x, wa' = some x → wa = some x ∨ (w.heap.size ≤ x.block ∧ x.block < w'.heap.size) := by
  have H := Lib.hid h
  have hs : (st l).size = l.length := st_size l
  have HC : Hid (∀ W, Dr g kb kc wa wc d W → Calls Try.prog 44 #[.pointer (some ⟨g, 0, none⟩), .int .i64 i, .string (st l)] W fun e w' => e = .returned (.int .i64 (Sm.check d i l.length)) ∧ W = w') := fun W hW => by
    have := ref6_check g kb kc wc wa d i (st l) W hW (by omega)
    rw [hs] at this; exact this
  by_cases hk : Sm.check d i l.length = 0
  case neg =>
    have HR : Hid (Sm.write d i l = (d, Sm.check d i l.length)) := by show _ = _; unfold Sm.write; rw [if_neg hk]
    have q : (Sm.check d i l.length == 0) = false := by rw [beq_eq_false_iff_ne]; exact hk
    rw [HR.out]
    clear HR h hk hs
    generalize Sm.check d i l.length = E at *
    go_enter Try.func21, Try.ntmps21
    go_wp2_with fail
    refine (HC.out _ H.out).mono ?_
    rintro e w1 ⟨rfl, rfl⟩
    go_wp2
    go_ret
    exact ⟨rfl, Only.refl _ _, wa, wc, H.out, fun _ e => .inl e⟩
  obtain ⟨i0, i1, i2, -⟩ := Sm.check_0 hk
  obtain ⟨n, rfl⟩ : ∃ n : Nat, i = (n : Int) := ⟨i.toNat, by omega⟩
  have HR : Hid (Sm.write d (n : Int) l = (Sm.count { d with ws := d.ws ++ [⟨n, Sm.full l⟩] }, 0)) := by
    show _ = _; unfold Sm.write; rw [if_pos hk]; rfl
  rw [hk] at HC
  rw [HR.out]
  obtain ⟨j0, hj0, hz0, hz1, hz2⟩ := info_of info2w
  have HI0 := Lib.hid hj0; have HZ0 := Lib.hid hz0; have HZ1 := Lib.hid hz1; have HZ2 := Lib.hid hz2
  have c1 := h.c1; have fz := h.fz; have lt := h.lt
  obtain ⟨M, hM⟩ : ∃ M, M = d.ws.length := ⟨_, rfl⟩
  have HWV : Hid (Wv (.slice wa M wc) d.ws w) := by rw [hM]; exact h.ws
  rw [← hM] at c1
  have M1 : M ≤ d.ws.length := by omega
  have M2 : d.ws.length ≤ M := by omega
  have HF : Hid (∀ W, Calls Try.prog 28 #[.string (st l)] W fun e w' => e = .returned (.string (st (Sm.full l))) ∧ W = w') := fun W => ref6_full l W hl
  clear hj0 hz0 hz1 hz2 hk h hM HR
  go_enter Try.func21, Try.ntmps21
  go_wp2_with fail
  refine (HC.out _ H.out).mono ?_
  rintro e w1 ⟨rfl, rfl⟩
  have HSR := Lib.hid (HWV.out.keep ((Below.refl _ w).alloc (Nat.le_refl _) (.cells #[] 91))).src
  go_wp2_with (at_builtin; refine wpList_append_src _ rfl (.tmp 15) (.tmp 19) 60 60 rfl w.heap.size 91 j0 _ 2 24 Try.underlying60 HI0.out HZ0.out HZ1.out HZ2.out rfl (.slice (some ⟨w.heap.size, 0, none⟩) 0 0) 0 [] rfl (World.ownsRow_lit w #[] 0 (Nat.le_refl _) (Nat.zero_le _) rfl) _ M (wcs d.ws) rfl ?qs ?qa ?qb ?qc ?_)
  case qs => exact HSR.out
  case qa => unfold maxLen; omega
  case qb => omega
  case qc => simp
  intro v2 w2 hown hgrow hat
  have HB2 := Lib.hid (((Below.refl _ w).alloc (Nat.le_refl _) (.cells #[] 91)).grown hgrow (by simp) (fun i hi => Nat.le_of_eq (by simpa [Value.ownBlock] using hi)))
  have HO2 := Lib.hid hown
  have hsz := HB2.out.size
  obtain ⟨a2, c2, hv2⟩ := own_form hown
  rw [hv2] at HO2 ⊢
  clear hown hgrow hat hv2
  go_wp2_with fail
  refine (HF.out _).mono ?_
  rintro e w3 ⟨rfl, rfl⟩
  go_wp2_with (at_builtin; refine wpList_append_src _ rfl (.tmp 20) (.tmp 25) 60 60 rfl w.heap.size 91 j0 _ 2 24 Try.underlying60 HI0.out HZ0.out HZ1.out HZ2.out rfl _ M (wcs d.ws) rfl (HO2.out.alloc _) _ 1 (wcs [⟨n, Sm.full l⟩]) rfl ?qs2 ?qa2 ?qb2 ?qc2 ?_)
  case qs2 => exact lit_srcw w2 ⟨n, Sm.full l⟩ _ rfl
  case qa2 => unfold maxLen; omega
  case qb2 => omega
  case qc2 => simp; omega
  intro v3 w3 hown3 hgrow3 hat3
  have HB3 := Lib.hid ((HB2.out.alloc hsz _).grown hgrow3 (by simp; omega) (fun i hi => (HO2.out.lt i hi).1))
  rw [← wcs_append] at hown3
  obtain ⟨a3, c3, hv3⟩ := own_form hown3
  rw [hv3] at hown3 ⊢
  have D3 := H.out.keep HB3.out
  have c13 := D3.c1; have fz3 := D3.fz; have lt3 := D3.lt
  have kb3 : kb < w.heap.size := (H.out.kr.lt kb rfl).2
  have g3 : g < w.heap.size := lt
  have hM3 : M + 1 = (d.ws ++ [(⟨n, Sm.full l⟩ : Sm.Wr)]).length := by simp; omega
  have HS := Lib.hid (D3.setWs (d.ws ++ [⟨n, Sm.full l⟩]) (M + 1) hM3 (Wv.of_own hown3) (fun a e => by subst e; have := (hown3.lt a.block rfl).1; omega))
  have HN := Lib.hid (ref6_count g kb kc c3 a3 _ _ HS.out hc hf)
  have O3 : Hid (Only (fun k => k = g) w (w3.setCell ⟨g, 1, none⟩ (.slice a3 (M + 1) c3))) := Only.setCell (p := fun k => k = g) ⟨HB3.out.os, HB3.out.tape, HB3.out.output, HB3.out.size, fun k hk _ => HB3.out.block k hk⟩ (q := ⟨g, 1, none⟩) (.inl rfl) _
  have HA3 : Hid (∀ x, a3 = some x → w.heap.size ≤ x.block ∧ x.block < w3.heap.size) := fun x e => by subst e; exact hown3.lt x.block rfl
  clear hown3 hgrow3 hat3 hv3 D3 hM3 fz c1
  go_wp2_with fail
  refine HN.out.mono ?_
  rintro e w4 ⟨rfl, hd, ho⟩
  go_wp2
  go_ret
  exact ⟨rfl, O3.out.trans ho, a3, c3, hd, fun x e => .inr ⟨(HA3.out x e).1, by have h1 := (HA3.out x e).2; have h2 := ho.size; simp at h2; omega⟩⟩
end Go.Proofs.Ytofbignggadkiaa
