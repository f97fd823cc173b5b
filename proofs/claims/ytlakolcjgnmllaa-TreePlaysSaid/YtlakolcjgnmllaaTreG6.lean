/- Layer 8: two trees and the reference's two lists, side by side. -/
import Derived.Test.YtlakolcjgnmllaaTreG4
namespace Go.Proofs.Ytlakolcjgnmllaa
open Go.RowKit

/-- an op of a script -/
structure Sp8 where
  k : Int
  s : List UInt8
  v : Int
/-- a script in memory -/
def Sv8 (a : Option Addr) (n : Nat) (l : List Sp8) (w : World) : Prop :=
  n = l.length ∧ ∀ j (hj : j < l.length), ∃ g off, a = some ⟨g, off, none⟩ ∧ g < w.heap.size ∧ w.cell? ⟨g, off + j * 3, none⟩ = some (.int .i64 l[j].k) ∧ w.cell? ⟨g, off + j * 3 + 1, none⟩ = some (.string (bstr l[j].s)) ∧ w.cell? ⟨g, off + j * 3 + 2, none⟩ = some (.int .i64 l[j].v)
/-- two trees, two lists -/
structure Q7 (W : World) (ex : Nat → Prop) (t o : Nat) (la lb : List Tm.E) (x : Option Addr) (n c : Nat) (y : Option Addr) (m d : Nat) (w : World) : Prop where
  p : P2 W ex t o la lb w
  l : Ps ex (.slice x n c) la w
  m : Ps ex (.slice y m d) lb w
/-- .. and the op at hand in block bx -/
structure Q8 (W : World) (ex : Nat → Prop) (t o : Nat) (la lb : List Tm.E) (x : Option Addr) (n c : Nat) (y : Option Addr) (m d : Nat) (bx : Nat) (C : Array Value) (w : World) : Prop where
  q : Q7 W ex t o la lb x n c y m d w
  b : w.heap[bx]? = some (.cells C 28 (0, 0))
  nb : ¬ ex bx
section
variable {W w w' : World} {ex : Nat → Prop} {t o : Nat} {la lb : List Tm.E} {x y : Option Addr} {n c m d bx : Nat} {C : Array Value}
theorem Q7.below (h : Q7 W ex t o la lb x n c y m d w) (hb : Below w.heap.size w w') : Q7 W ex t o la lb x n c y m d w' := ⟨h.p.below hb, h.l.below hb, h.m.below hb⟩
theorem Q7.ln (h : Q7 W ex t o la lb x n c y m d w) : n = la.length := h.l.len
theorem Q7.lm (h : Q7 W ex t o la lb x n c y m d w) : m = lb.length := h.m.len
theorem Q7.swap (h : Q7 W ex t o la lb x n c y m d w) : Q7 W ex o t lb la y m d x n c w := ⟨h.p.swap, h.m, h.l⟩
theorem Q8.below (h : Q8 W ex t o la lb x n c y m d bx C w) (hb : Below w.heap.size w w') : Q8 W ex t o la lb x n c y m d bx C w' := ⟨h.q.below hb, (hb.block _ (heap_lt h.b)).trans h.b, h.nb⟩
theorem Q8.swap (h : Q8 W ex t o la lb x n c y m d bx C w) : Q8 W ex o t lb la y m d x n c bx C w := ⟨h.q.swap, h.b, h.nb⟩
theorem Q8.new (h : Q7 W ex t o la lb x n c y m d w) (C : Array Value) : Q8 W ex t o la lb x n c y m d w.heap.size C (w.alloc (.cells C 28)) := ⟨h.below (one_b8 _ _), heap_alloc_new _ _, h.p.hex _ (Nat.le_refl _)⟩
theorem q8_refput {k : Tm.K} {v : Int} (h : Q8 W ex t o la lb x n c y m d bx C w) (hn : n ≤ 200) :
    Calls Try.prog 9 #[.slice x n c, .string (bstr k), .int .i64 v] w fun e w' => ∃ x' n' c' B, e = .returned (.tuple #[.slice x' n' c', .bool B]) ∧ Hid (n' ≤ n + 1 ∧ B = (!Tm.has la k) ∧ Ps ex (.slice x' n' c') (Tm.ins la k v) w' ∧ Q8 W ex t o la lb x n c y m d bx C w') := by
  refine (ref8_put h.q.l h.q.p.A.asc (by omega) h.q.p.hex).mono ?_
  rintro e w' ⟨r, rfl, h1, h2⟩
  obtain ⟨x', c', rfl⟩ := h1.form
  refine ⟨x', _, c', _, rfl, ?_, rfl, h1, h.below h2⟩
  rw [Tm.ins_len _ _ _ h.q.p.A.asc, h.q.ln]; split <;> omega
theorem q8_put {k : Tm.K} {v : Int} {x' : Option Addr} {n' c' : Nat} {B : Bool} (h : n' ≤ n + 1 ∧ B = (!Tm.has la k) ∧ Ps ex (.slice x' n' c') (Tm.ins la k v) w ∧ Q8 W ex t o la lb x n c y m d bx C w) (hn : n ≤ 200) :
    Calls Try.prog 10 #[.pointer (some ⟨t, 0, none⟩), .string (bstr k), .int .i64 v] w fun e w' => e = .returned (.bool B) ∧ Q8 W ex t o (Tm.ins la k v) lb x' n' c' y m d bx C w' := by
  obtain ⟨_, rfl, h1, h⟩ := h
  refine (p2_put h.q.p (by have := h.q.ln; omega)).mono ?_
  rintro e w' ⟨rfl, h2, h3⟩
  exact ⟨rfl, ⟨h2, h1.keep h3, h.q.m.keep h3⟩, (h3.block _ (heap_lt h.b) h.nb).trans h.b, h.nb⟩
theorem q8_refdelete {k : Tm.K} (h : Q8 W ex t o la lb x n c y m d bx C w) (hn : n ≤ 200) :
    Calls Try.prog 11 #[.slice x n c, .string (bstr k)] w fun e w' => ∃ x' n' c' B, e = .returned (.tuple #[.slice x' n' c', .bool B]) ∧ Hid (n' ≤ n ∧ B = Tm.has la k ∧ Ps ex (.slice x' n' c') (Tm.del la k) w' ∧ Q8 W ex t o la lb x n c y m d bx C w') := by
  refine (ref8_delete h.q.l (by omega) h.q.p.hex).mono ?_
  rintro e w' ⟨r, rfl, h1, h2⟩
  obtain ⟨x', c', rfl⟩ := h1.form
  refine ⟨x', _, c', _, rfl, ?_, rfl, h1, h.below h2⟩
  rw [h.q.ln]; exact List.length_filter_le _ _
theorem q8_delete {k : Tm.K} {x' : Option Addr} {n' c' : Nat} {B : Bool} (h : n' ≤ n ∧ B = Tm.has la k ∧ Ps ex (.slice x' n' c') (Tm.del la k) w ∧ Q8 W ex t o la lb x n c y m d bx C w) (hn : n ≤ 200) :
    Calls Try.prog 12 #[.pointer (some ⟨t, 0, none⟩), .string (bstr k)] w fun e w' => e = .returned (.bool B) ∧ Q8 W ex t o (Tm.del la k) lb x' n' c' y m d bx C w' := by
  obtain ⟨_, rfl, h1, h⟩ := h
  refine (p2_delete h.q.p (by have := h.q.ln; omega)).mono ?_
  rintro e w' ⟨rfl, h2, h3⟩
  exact ⟨rfl, ⟨h2, h1.keep h3, h.q.m.keep h3⟩, (h3.block _ (heap_lt h.b) h.nb).trans h.b, h.nb⟩
theorem q8_copy (h : Q8 W ex t o la lb x n c y m d bx C w) :
    Calls Try.prog 13 #[.pointer (some ⟨t, 0, none⟩)] w fun e w' => ∃ t2 ex', e = .returned (.pointer (some ⟨t2, 0, none⟩)) ∧ Hid (Q8 W ex' t t2 la la x n c x n c bx C w') := by
  refine (te_copy h.q.p.A).mono ?_
  rintro e w' ⟨t2, rfl, h1, h2, h3, h4⟩
  have hl : Ps (exs ex t2) (.slice x n c) la w' := (h.q.l.mono (exs_old h1)).below h4
  refine ⟨t2, exs ex t2, rfl, ⟨⟨(h.q.p.A.more h1).below h4, h3, fun e => by have := h.q.p.A.lt; omega, h.q.p.bel.trans (h4.mono h.q.p.bel.size), fun k hk => ?_⟩, hl, hl⟩, (h4.block _ (heap_lt h.b)).trans h.b, fun e => ?_⟩
  · rcases hk with hk | rfl
    · have := h.q.p.lo k hk; have := h4.size; omega
    · have := h.q.p.bel.size; omega
  · rcases e with e | e
    · exact h.nb e
    · have := heap_lt h.b; omega
theorem q8_get {k : Tm.K} (h : Q8 W ex t o la lb x n c y m d bx C w) : Calls Try.prog 14 #[.pointer (some ⟨t, 0, none⟩), .string (bstr k)] w fun e w' => e = .returned (.tuple #[.int .i64 (Tm.get la k).1, .bool (Tm.get la k).2]) ∧ Q8 W ex t o la lb x n c y m d bx C w' := by
  refine (p2_get h.q.p).mono ?_
  rintro e w' ⟨rfl, _, h2⟩
  exact ⟨rfl, h.below h2⟩
theorem q8_refget {k : Tm.K} (h : Q8 W ex t o la lb x n c y m d bx C w) (hn : n ≤ 200) : Calls Try.prog 15 #[.slice x n c, .string (bstr k)] w fun e w' => e = .returned (.tuple #[.int .i64 (Tm.get la k).1, .bool (Tm.get la k).2]) ∧ Q8 W ex t o la lb x n c y m d bx C w' := by
  refine (ref8_get h.q.l (by omega)).mono ?_
  rintro e w' ⟨rfl, h2⟩
  exact ⟨rfl, h.below h2⟩
/-- what is asked of the trees and lists behind an op -/
theorem q8_reads {k : Tm.K} (h : Q8 W ex t o la lb x n c y m d bx C w) (hn : n ≤ 200) (_hm : m ≤ 200) : ∃ R F : Nat, (n : Int) - (F : Int) = (R : Int) ∧ F ≤ n ∧
    Hid (∀ w', Below w.heap.size w w' → Calls Try.prog 16 #[.pointer (some ⟨t, 0, none⟩)] w' fun e w2 => e = .returned (.int .i64 (n : Int)) ∧ Below w.heap.size w w2) ∧
    Hid (∀ w', Below w.heap.size w w' → Calls Try.prog 16 #[.pointer (some ⟨o, 0, none⟩)] w' fun e w2 => e = .returned (.int .i64 (m : Int)) ∧ Below w.heap.size w w2) ∧
    Hid (∀ w', Below w.heap.size w w' → Calls Try.prog 17 #[.pointer (some ⟨t, 0, none⟩), .string (bstr k)] w' fun e w2 => e = .returned (.int .i64 (R : Int)) ∧ Below w.heap.size w w2) ∧
    Hid (∀ w', Below w.heap.size w w' → Calls Try.prog 18 #[.slice x n c, .string (bstr k)] w' fun e w2 => ∃ z f, e = .returned (.slice z F f) ∧ Below w.heap.size w w2) := by
  have hF := Tm.from_len_le la k
  have hln := h.q.ln
  refine ⟨Tm.rank la k, (Tm.from_ la k).length, by unfold Tm.rank; omega, by omega, fun w' hb => ?_, fun w' hb => ?_, fun w' hb => ?_, fun w' hb => ?_⟩
  · refine (p2_len (h.q.p.below hb)).mono ?_
    rintro e w2 ⟨rfl, _, h2⟩
    rw [hln]
    exact ⟨rfl, hb.trans (h2.mono hb.size)⟩
  · refine (p2_len (h.q.p.below hb).swap).mono ?_
    rintro e w2 ⟨rfl, _, h2⟩
    rw [h.q.lm]
    exact ⟨rfl, hb.trans (h2.mono hb.size)⟩
  · refine (p2_rank (h.q.p.below hb) (by omega)).mono ?_
    rintro e w2 ⟨rfl, _, h2⟩
    exact ⟨rfl, hb.trans (h2.mono hb.size)⟩
  · refine (ref8_from (h.q.l.below hb) (by omega) (h.q.p.below hb).hex).mono ?_
    rintro e w2 ⟨v, rfl, h1, h2⟩
    obtain ⟨z, f, rfl⟩ := h1.form
    exact ⟨z, f, rfl, hb.trans (h2.mono hb.size)⟩
theorem q7_from {k : Tm.K} (h : Q7 W ex t o la lb x n c y m d w) : Calls Try.prog 21 #[.pointer (some ⟨t, 0, none⟩), .string (bstr k)] w fun e w' => ∃ u, e = .returned u ∧ Hid (∃ B, B ≤ w'.heap.size ∧ Sq ex B u (Tm.from_ la k) w') ∧ Q7 W ex t o la lb x n c y m d w' := by
  refine (p2_from h.p).mono ?_
  rintro e w' ⟨u, rfl, h1, _, h2⟩
  exact ⟨u, rfl, h1, h.below h2⟩
theorem q7_back {k : Tm.K} (h : Q7 W ex t o la lb x n c y m d w) : Calls Try.prog 22 #[.pointer (some ⟨t, 0, none⟩), .string (bstr k)] w fun e w' => ∃ u, e = .returned u ∧ Hid (∃ B, B ≤ w'.heap.size ∧ Sq ex B u (Tm.back la k) w') ∧ Q7 W ex t o la lb x n c y m d w' := by
  refine (p2_back h.p).mono ?_
  rintro e w' ⟨u, rfl, h1, _, h2⟩
  exact ⟨u, rfl, h1, h.below h2⟩
theorem q7_taken {u : Value} {L : List Tm.E} (h : Q7 W ex t o la lb x n c y m d w) (hs : ∃ B, B ≤ w.heap.size ∧ Sq ex B u L w) (hL : L.length ≤ 1000) :
    Calls Try.prog 20 #[u, .int .i64 1000] w fun e w' => ∃ z q f, e = .returned (.slice z q f) ∧ Hid (Ps ex (.slice z q f) L w' ∧ q ≤ 1000) ∧ Q7 W ex t o la lb x n c y m d w' := by
  refine (p2_taken (most := 1000) h.p hs (by decide) (by decide)).mono ?_
  rintro e w' ⟨z, q, f, rfl, h1, _, h2⟩
  have h1 := h1.out
  rw [List.take_of_length_le hL] at h1
  exact ⟨z, q, f, rfl, ⟨h1.1, by rw [h1.2]; exact hL⟩, h.below h2⟩
theorem q7_reffrom {k : Tm.K} {z : Option Addr} {q f : Nat} {L : List Tm.E} (h : Q7 W ex t o la lb x n c y m d w) (hn : n ≤ 200) (hz : Ps ex (.slice z q f) L w ∧ q ≤ 1000) :
    Calls Try.prog 18 #[.slice x n c, .string (bstr k)] w fun e w' => ∃ z2 q2 f2, e = .returned (.slice z2 q2 f2) ∧ Hid ((Ps ex (.slice z q f) L w' ∧ q ≤ 1000) ∧ Ps ex (.slice z2 q2 f2) (Tm.from_ la k) w' ∧ q2 ≤ 1000) ∧ Q7 W ex t o la lb x n c y m d w' := by
  refine (ref8_from h.l (by omega) h.p.hex).mono ?_
  rintro e w' ⟨v, rfl, h1, h2⟩
  obtain ⟨z2, f2, rfl⟩ := h1.form
  exact ⟨z2, _, f2, rfl, ⟨⟨hz.1.below h2, hz.2⟩, h1, by have := Tm.from_len_le la k; have := h.ln; omega⟩, h.below h2⟩
theorem back_len_le (l : List Tm.E) (k : Tm.K) : (Tm.back l k).length ≤ l.length := by unfold Tm.back; rw [List.length_reverse]; exact List.length_filter_le _ _
theorem q7_refback {k : Tm.K} {z : Option Addr} {q f : Nat} {L : List Tm.E} (h : Q7 W ex t o la lb x n c y m d w) (hn : n ≤ 200) (hz : Ps ex (.slice z q f) L w ∧ q ≤ 1000) :
    Calls Try.prog 23 #[.slice x n c, .string (bstr k)] w fun e w' => ∃ z2 q2 f2, e = .returned (.slice z2 q2 f2) ∧ Hid ((Ps ex (.slice z q f) L w' ∧ q ≤ 1000) ∧ Ps ex (.slice z2 q2 f2) (Tm.back la k) w' ∧ q2 ≤ 1000) ∧ Q7 W ex t o la lb x n c y m d w' := by
  refine (ref8_back h.l (by omega) h.p.hex).mono ?_
  rintro e w' ⟨v, rfl, h1, h2⟩
  obtain ⟨z2, f2, rfl⟩ := h1.form
  exact ⟨z2, _, f2, rfl, ⟨⟨hz.1.below h2, hz.2⟩, h1, by have := back_len_le la k; have := h.ln; omega⟩, h.below h2⟩
theorem q7_same {z z2 : Option Addr} {q f q2 f2 : Nat} {L : List Tm.E} (h : Q7 W ex t o la lb x n c y m d w) (hz : Ps ex (.slice z q f) L w ∧ q ≤ 1000) (hz2 : Ps ex (.slice z2 q2 f2) L w ∧ q2 ≤ 1000) :
    Calls Try.prog 19 #[.slice z q f, .slice z2 q2 f2] w fun e w' => e = .returned (.bool true) ∧ Q7 W ex t o la lb x n c y m d w' := by
  refine (ref8_same hz.1 hz2.1 (by omega) (by omega)).mono ?_
  rintro e w' ⟨v, rfl, h1, h2⟩
  rw [h1.2 rfl]
  exact ⟨rfl, h.below h2⟩
end
end Go.Proofs.Ytlakolcjgnmllaa
