/- The reference of layer 6: Full; the device in memory; check, count. -/
import Derived.Test.YtllbemelljaklaaSecLaw
import Derived.Test.YtllbemelljaklaaSecBase
import Derived.LoopTactic
namespace Go.Proofs.Ytllbemelljaklaa
open Go.RowKit

/-- bytes as a string -/
def st (l : List UInt8) : ByteArray := ⟨l.toArray⟩
theorem st_size (l : List UInt8) : (st l).size = l.length := by simp [st, ByteArray.size]
theorem st_append (a b : List UInt8) : st a ++ st b = st (a ++ b) := by
  apply ByteArray.ext
  simp [st]
theorem full_more (l : List UInt8) (j : Nat) (h : 64 ≤ l.length + j) (h2 : j = 0 ∨ l.length + j ≤ 64) : l ++ List.replicate j 0 = Sm.full l := by
  unfold Sm.full
  congr 2
  omega
set_option maxHeartbeats 1000000 in
theorem ref6_full (l : List UInt8) (w : World) (hz : l.length ≤ 100000) : Calls Try.prog 23 #[.string (st l)] w fun e w' => e = .returned (.string (st (Sm.full l))) ∧ w = w' := by
  go_enter Try.func23, Try.ntmps23
  go_wp2
  go_loop [0] (fun bv => ∃ (j : Nat) (T : ByteArray), bv = .string T ∧ Hid (T = st (l ++ List.replicate j 0)) ∧ T.size = l.length + j ∧ (j = 0 ∨ l.length + j ≤ 64)) (fun bv => (match bv with | .string b => 100000 - b.size | _ => 0))
  case atStart => exact ⟨0, _, rfl, by show _ = _; rw [List.replicate_zero, List.append_nil], by rw [st_size]; rfl, .inl rfl⟩
  case round =>
    obtain ⟨j, T, rfl, HT, hs, hj⟩ := hrel
    by_cases hlt : T.size < 64
    · have hi : (T.size : Int) < 64 := by omega
      have HN : Hid (T ++ ⟨#[0]⟩ = st (l ++ List.replicate (j + 1) 0)) := by
        show _ = _
        rw [HT.out, show (⟨#[0]⟩ : ByteArray) = st [0] from rfl, st_append, List.append_assoc, ← List.replicate_succ']
      have hs2 : (T ++ ⟨#[0]⟩ : ByteArray).size = T.size + 1 := ByteArray.size_append
      clear HT
      go_wp2
      go_round
      case rel => exact ⟨j + 1, _, rfl, HN, by rw [hs2]; omega, .inr (by omega)⟩
      case measure => show 100000 - (T ++ ⟨#[0]⟩ : ByteArray).size < 100000 - T.size; rw [hs2]; omega
    · have hi : (64 : Int) ≤ (T.size : Int) := by omega
      have HF : Hid (T = st (Sm.full l)) := by show _ = _; rw [HT.out, full_more l j (by omega) hj]
      clear HT
      go_wp2
      go_ret
      exact ⟨by rw [HF.out]; rfl, rfl⟩

/-- strings as cells -/
def sc (l : List (List UInt8)) : List Value := l.map fun s => Value.string (st s)
theorem sc_length (l : List (List UInt8)) : (sc l).length = l.length := by simp [sc]
/-- a write's cells -/
def wcs : List Sm.Wr → List Value
  | [] => []
  | x :: r => .int .i64 (x.i : Int) :: .string (st x.b) :: wcs r
theorem wcs_length : ∀ l : List Sm.Wr, (wcs l).length = l.length * 2
  | [] => rfl
  | x :: r => by rw [wcs, List.length_cons, List.length_cons, wcs_length r, List.length_cons]; omega
theorem wcs_append : ∀ l r : List Sm.Wr, wcs (l ++ r) = wcs l ++ wcs r
  | [], _ => rfl
  | x :: l, r => by rw [List.cons_append, wcs, wcs, wcs_append l r]; rfl
theorem wcs_one : ∀ (l : List Sm.Wr), ∀ u ∈ wcs l, u.oneCell' = true
  | [], _, h => by cases h
  | x :: r, u, h => by
    rw [wcs, List.mem_cons, List.mem_cons] at h
    rcases h with rfl | rfl | h
    · rfl
    · rfl
    · exact wcs_one r u h
theorem wcs_get : ∀ (l : List Sm.Wr) (j : Nat) (x : Sm.Wr), l[j]? = some x → (wcs l)[j * 2]? = some (.int .i64 (x.i : Int)) ∧ (wcs l)[j * 2 + 1]? = some (.string (st x.b))
  | [], _, _, h => by simp at h
  | y :: r, 0, x, h => by
    simp at h; subst h
    exact ⟨rfl, rfl⟩
  | y :: r, j + 1, x, h => by
    rw [List.getElem?_cons_succ] at h
    obtain ⟨h1, h2⟩ := wcs_get r j x h
    rw [wcs, show (j + 1) * 2 = (j * 2 + 1) + 1 by omega, List.getElem?_cons_succ, List.getElem?_cons_succ, List.getElem?_cons_succ, List.getElem?_cons_succ]
    exact ⟨h1, h2⟩
/-- WRITES: what is known of their cells -/
def Wv (v : Value) (l : List Sm.Wr) (w : World) : Prop :=
  (∃ a c, v = .slice a 0 c ∧ l = []) ∨
  ∃ g off cap, v = .slice (some ⟨g, off, none⟩) l.length cap ∧ l.length ≤ cap ∧ g < w.heap.size ∧ ∀ i u, (wcs l)[i]? = some u → w.cell? ⟨g, off + i, none⟩ = some u
theorem Wv.keep {v : Value} {l : List Sm.Wr} {w w' : World} (h : Wv v l w) (hb : Below w.heap.size w w') : Wv v l w' := by
  rcases h with h | ⟨g, off, cap, rfl, hc, hg, hcell⟩
  · exact .inl h
  · exact .inr ⟨g, off, cap, rfl, hc, by have := hb.size; omega, fun i u hi => (hb.cell (p := ⟨g, off + i, none⟩) hg).trans (hcell i u hi)⟩
theorem Wv.set {v : Value} {l : List Sm.Wr} {w : World} (h : Wv v l w) (b o : Nat) (x : Value) (hne : ∀ a n c, v = .slice (some a) n c → a.block ≠ b) : Wv v l (w.setCell ⟨b, o, none⟩ x) := by
  rcases h with h | ⟨g, off, cap, rfl, hc, hg, hcell⟩
  · exact .inl h
  · have hgb : g ≠ b := hne _ _ _ rfl
    refine .inr ⟨g, off, cap, rfl, hc, by simpa using hg, fun i u hi => ?_⟩
    rw [World.cell?_setCell_other w ⟨b, o, none⟩ ⟨g, off + i, none⟩ x (fun e => by injection e with e1 _; exact hgb e1.symm)]
    exact hcell i u hi
/-- where write j lies -/
theorem Wv.at {a : Option Addr} {n c : Nat} {l : List Sm.Wr} {w : World} (h : Wv (.slice a n c) l w) (j : Nat) (hj : j < l.length) :
    ∃ g off, a = some ⟨g, off, none⟩ ∧ g < w.heap.size ∧ w.cell? ⟨g, off + j * 2, none⟩ = some (.int .i64 (l[j].i : Int)) ∧ w.cell? ⟨g, off + j * 2 + 1, none⟩ = some (.string (st l[j].b)) := by
  rcases h with ⟨b, d, _, rfl⟩ | ⟨g, off, cap, e, hc, hg, hcell⟩
  · simp at hj
  · injection e with e1 e2 e3
    subst e1
    obtain ⟨h1, h2⟩ := wcs_get l j l[j] (List.getElem?_eq_getElem hj)
    exact ⟨g, off, rfl, hg, hcell _ _ h1, by rw [Nat.add_assoc]; exact hcell _ _ h2⟩
/-- the reference's device in block g, its sectors in block kb -/
structure Dr (g kb kc : Nat) (wa : Option Addr) (wc : Nat) (d : Sm.Dv) (W : World) : Prop where
  c0 : W.cell? ⟨g, 0, none⟩ = some (.slice (some ⟨kb, 0, none⟩) d.kept.length kc)
  c1 : W.cell? ⟨g, 1, none⟩ = some (.slice wa d.ws.length wc)
  c2 : W.cell? ⟨g, 2, none⟩ = some (.int .i64 d.left)
  c3 : W.cell? ⟨g, 3, none⟩ = some (.int .i64 d.calls)
  fz : ∀ o, W.frozen? ⟨g, o, none⟩ = false
  lt : g < W.heap.size
  kr : W.ownsRow 0 9 1 (.slice (some ⟨kb, 0, none⟩) d.kept.length kc) d.kept.length (sc d.kept)
  ne : kb ≠ g
  ws : Wv (.slice wa d.ws.length wc) d.ws W
  wne : ∀ a, wa = some a → a.block ≠ g ∧ a.block ≠ kb

set_option maxHeartbeats 1000000 in
theorem ref6_check (g kb kc wc : Nat) (wa : Option Addr) (d : Sm.Dv) (i : Int) (s : ByteArray) (w : World) (h : Dr g kb kc wa wc d w) (hz : s.size ≤ 100000) :
    Calls Try.prog 26 #[.pointer (some ⟨g, 0, none⟩), .int .i64 i, .string s] w fun e w' => e = .returned (.int .i64 (Sm.check d i s.size)) ∧ w = w' := by
  obtain ⟨N, hN⟩ : ∃ N, N = d.kept.length := ⟨_, rfl⟩
  obtain ⟨L, hL⟩ : ∃ L, L = d.left := ⟨_, rfl⟩
  have c0 := h.c0; have c2 := h.c2
  have HC : Hid (Sm.check d i s.size = if i < 0 ∨ (N : Int) ≤ i ∨ 64 < s.size then 2 else if L = 0 then 60 else 0) := by
    show _ = _; unfold Sm.check; rw [hN, hL]
  rw [← hN] at c0
  rw [← hL] at c2
  obtain ⟨R, hR⟩ : ∃ R, R = Sm.check d i s.size := ⟨_, rfl⟩
  rw [← hR] at HC ⊢
  clear hR hN hL h
  by_cases h0 : i < 0
  · have q : decide (i < 0) = true := by simpa using h0
    have HR : Hid (R = 2) := by show _ = _; rw [HC.out, if_pos (.inl h0)]
    clear HC
    go_enter Try.func26, Try.ntmps26
    go_wp2
    go_ret
    exact ⟨by rw [HR.out]; rfl, rfl⟩
  have q0 : decide (i < 0) = false := by simpa using h0
  by_cases h1 : (N : Int) ≤ i
  · have q : decide ((N : Int) ≤ i) = true := by simpa using h1
    have HR : Hid (R = 2) := by show _ = _; rw [HC.out, if_pos (.inr (.inl h1))]
    clear HC
    go_enter Try.func26, Try.ntmps26
    go_wp2
    go_ret
    exact ⟨by rw [HR.out]; rfl, rfl⟩
  have q1 : decide ((N : Int) ≤ i) = false := by simpa using h1
  by_cases h2 : 64 < s.size
  · have q : decide ((64 : Int) < (s.size : Int)) = true := by simp; omega
    have HR : Hid (R = 2) := by show _ = _; rw [HC.out, if_pos (.inr (.inr h2))]
    clear HC
    go_enter Try.func26, Try.ntmps26
    go_wp2
    go_ret
    exact ⟨by rw [HR.out]; rfl, rfl⟩
  have q2 : decide ((64 : Int) < (s.size : Int)) = false := by simp; omega
  by_cases h3 : L = 0
  · have q : (L == 0) = true := by simpa using h3
    have HR : Hid (R = 60) := by show _ = _; rw [HC.out, if_neg (fun h => h.elim h0 (fun h => h.elim h1 h2)), if_pos h3]
    subst h3
    clear HC
    go_enter Try.func26, Try.ntmps26
    go_wp2
    go_ret
    exact ⟨by rw [HR.out]; rfl, rfl⟩
  have q3 : (L == 0) = false := by rw [beq_eq_false_iff_ne]; exact h3
  have HR : Hid (R = 0) := by show _ = _; rw [HC.out, if_neg (fun h => h.elim h0 (fun h => h.elim h1 h2)), if_neg h3]
  clear HC
  go_enter Try.func26, Try.ntmps26
  go_wp2
  go_ret
  exact ⟨by rw [HR.out]; rfl, rfl⟩

theorem cell_keep (w : World) (g o j : Nat) (x : Value) (hne : o ≠ j) : (w.setCell ⟨g, o, none⟩ x).cell? ⟨g, j, none⟩ = w.cell? ⟨g, j, none⟩ := World.cell?_setCell_other w ⟨g, o, none⟩ ⟨g, j, none⟩ x (fun e => by injection e with _ e2; exact hne e2)
theorem own_set {w : World} {B : Nat} {e : TypeId} {size n : Nat} {v : Value} {xs : List Value} {g o : Nat} (h : w.ownsRow B e size v n xs) (x : Value) (hne : v.ownBlock ≠ some g) : (w.setCell ⟨g, o, none⟩ x).ownsRow B e size v n xs := by
  obtain ⟨h1, h2⟩ := h
  refine ⟨h1, ?_⟩
  rcases h2 with h2 | ⟨b, cap, cur, hv, hB, hg, rest⟩
  · exact .inl h2
  · refine .inr ⟨b, cap, cur, hv, hB, ?_, rest⟩
    rw [Below.heap_setCell _ _ _ _ (by rintro rfl; exact hne (by rw [hv]; rfl))]
    exact hg
theorem Dr.setLeft {g kb kc wc : Nat} {wa : Option Addr} {d : Sm.Dv} {w : World} (h : Dr g kb kc wa wc d w) (L : Int) : Dr g kb kc wa wc { d with left := L } (w.setCell ⟨g, 2, none⟩ (.int .i64 L)) :=
  ⟨(cell_keep _ _ _ _ _ (by decide)).trans h.c0, (cell_keep _ _ _ _ _ (by decide)).trans h.c1, World.cell?_setCell_same _ _ _ h.c2, (cell_keep _ _ _ _ _ (by decide)).trans h.c3,
    fun o => by have := h.fz o; simpa using this, by have := h.lt; simpa using this, own_set h.kr _ (fun e => h.ne (by simpa [Value.ownBlock] using e)), h.ne, h.ws.set g _ _ (fun a n c e => (h.wne a (by injection e)).1), h.wne⟩
theorem Dr.setCalls {g kb kc wc : Nat} {wa : Option Addr} {d : Sm.Dv} {w : World} (h : Dr g kb kc wa wc d w) (L : Int) : Dr g kb kc wa wc { d with calls := L } (w.setCell ⟨g, 3, none⟩ (.int .i64 L)) :=
  ⟨(cell_keep _ _ _ _ _ (by decide)).trans h.c0, (cell_keep _ _ _ _ _ (by decide)).trans h.c1, (cell_keep _ _ _ _ _ (by decide)).trans h.c2, World.cell?_setCell_same _ _ _ h.c3,
    fun o => by have := h.fz o; simpa using this, by have := h.lt; simpa using this, own_set h.kr _ (fun e => h.ne (by simpa [Value.ownBlock] using e)), h.ne, h.ws.set g _ _ (fun a n c e => (h.wne a (by injection e)).1), h.wne⟩
theorem own_keep {w w' : World} {B : Nat} {e : TypeId} {size n : Nat} {v : Value} {xs : List Value} (h : w.ownsRow B e size v n xs) (hb : Below w.heap.size w w') : w'.ownsRow B e size v n xs := by
  obtain ⟨h1, h2⟩ := h
  refine ⟨h1, ?_⟩
  rcases h2 with h2 | ⟨g, cap, cur, hv, hB, hg, rest⟩
  · exact .inl h2
  · exact .inr ⟨g, cap, cur, hv, hB, by rw [hb.block g (Array.getElem?_eq_some_iff.1 hg).1]; exact hg, rest⟩
theorem Dr.keep {g kb kc wc : Nat} {wa : Option Addr} {d : Sm.Dv} {w w' : World} (h : Dr g kb kc wa wc d w) (hb : Below w.heap.size w w') : Dr g kb kc wa wc d w' :=
  ⟨(hb.cell (p := ⟨g, 0, none⟩) h.lt).trans h.c0, (hb.cell (p := ⟨g, 1, none⟩) h.lt).trans h.c1, (hb.cell (p := ⟨g, 2, none⟩) h.lt).trans h.c2, (hb.cell (p := ⟨g, 3, none⟩) h.lt).trans h.c3,
    fun o => (hb.frozen (p := ⟨g, o, none⟩) h.lt).trans (h.fz o), by have := h.lt; have := hb.size; omega, own_keep h.kr hb, h.ne, h.ws.keep hb, h.wne⟩
theorem Dr.sector {g kb kc wc : Nat} {wa : Option Addr} {d : Sm.Dv} {w : World} (h : Dr g kb kc wa wc d w) (i : Nat) (hi : i < d.kept.length) : w.cell? ⟨kb, i, none⟩ = some (.string (st (d.kept.getD i []))) := by
  have hc := h.kr.cells (g := kb) rfl i (.string (st (d.kept.getD i []))) (by unfold sc; rw [List.getElem?_map, List.getElem?_eq_getElem hi]; simp [List.getD, hi])
  rw [show (⟨kb, 0, none⟩ : Addr).add i = ⟨kb, i, none⟩ by unfold Addr.add; split <;> simp_all] at hc
  exact hc
end Go.Proofs.Ytllbemelljaklaa
