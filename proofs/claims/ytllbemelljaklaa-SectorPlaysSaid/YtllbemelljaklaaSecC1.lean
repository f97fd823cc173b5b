/- Package sector: the device in memory; off, fault, count, Sectors, Waiting, Calls, Limit, kept. -/
import Derived.Test.YtllbemelljaklaaSecCon
import Derived.Deep.MidRow
import Derived.Deep.RegionHeld3
import Derived.BigQuiet
namespace Go.Proofs.Ytllbemelljaklaa
open Go.RowKit

/-- the cells of writes, as the package keeps them -/
def kcs : List Sm.Wr → List Value
  | [] => []
  | x :: r => (.int .i64 (x.i : Int) :: yc x.b) ++ kcs r
theorem kcs_length : ∀ l : List Sm.Wr, (∀ x ∈ l, x.b.length = 64) → (kcs l).length = l.length * 65
  | [], _ => rfl
  | x :: r, h => by
    rw [kcs, List.length_append, List.length_cons, yc_length, h x (by simp), kcs_length r (fun y hy => h y (by simp [hy])), List.length_cons]; omega
theorem kcs_append : ∀ l r : List Sm.Wr, kcs (l ++ r) = kcs l ++ kcs r
  | [], _ => rfl
  | x :: l, r => by rw [List.cons_append, kcs, kcs, kcs_append l r, List.append_assoc]
theorem kcs_get : ∀ (l : List Sm.Wr) (j i : Nat) (x : Sm.Wr), (∀ x ∈ l, x.b.length = 64) → l[j]? = some x → i < 65 → (kcs l)[j * 65 + i]? = (Value.int .i64 (x.i : Int) :: yc x.b)[i]?
  | [], _, _, _, _, h, _ => by simp at h
  | y :: r, 0, i, x, hl, h, hi => by
    simp at h; subst h
    rw [kcs, Nat.zero_mul, Nat.zero_add, List.getElem?_append_left (by rw [List.length_cons, yc_length, hl y (by simp)]; omega)]
  | y :: r, j + 1, i, x, hl, h, hi => by
    rw [List.getElem?_cons_succ] at h
    have h1 := kcs_get r j i x (fun z hz => hl z (by simp [hz])) h hi
    rw [kcs, List.getElem?_append_right (by rw [List.length_cons, yc_length, hl y (by simp)]; omega), List.length_cons, yc_length, hl y (by simp), show (j + 1) * 65 + i - (64 + 1) = j * 65 + i by omega]
    exact h1
theorem kcs_one : ∀ (l : List Sm.Wr), ∀ u ∈ kcs l, u.oneCell' = true
  | [], _, h => by cases h
  | x :: r, u, h => by
    rw [kcs, List.mem_append, List.mem_cons] at h
    rcases h with (rfl | h) | h
    · rfl
    · exact yc_one _ u h
    · exact kcs_one r u h
/-- sectors in block b, one behind another -/
structure Rk (b : Nat) (l : List (List UInt8)) (W : World) : Prop where
  cs : ∀ i, i < l.length → W.rangeAt b (i * 64) (yc (l.getD i []))
  th : ∀ i, i < l.length → W.there b (i * 64) 64
  lt : b < W.heap.size
theorem Rk.keepO {b : Nat} {l : List (List UInt8)} {W W' : World} {p : Nat → Prop} (h : Rk b l W) (ho : Only p W W') (hp : ¬ p b) : Rk b l W' := by
  have hb := ho.block b h.lt hp
  refine ⟨fun i hi j v hv => ?_, fun i hi j hj => ?_, by have := h.lt; have := ho.size; omega⟩
  · rw [← h.cs i hi j v hv]; simp [World.cell?, hb]
  · have h1 := h.th i hi j hj
    simp only [World.cell?, World.frozen?, hb] at h1 ⊢
    exact h1
theorem size_setCells (b : Nat) : ∀ (vs : List Value) (o : Nat) (w : World), (w.setCells b o vs).heap.size = w.heap.size
  | [], _, _ => rfl
  | v :: r, o, w => by rw [World.setCells, size_setCells b r]; simp
theorem heap_setCells (b k : Nat) (hk : k ≠ b) : ∀ (vs : List Value) (o : Nat) (w : World), (w.setCells b o vs).heap[k]? = w.heap[k]?
  | [], _, _ => rfl
  | v :: r, o, w => by rw [World.setCells, heap_setCells b k hk r, Below.heap_setCell _ _ _ _ (fun e => hk e)]
theorem os_setCells (b : Nat) : ∀ (vs : List Value) (o : Nat) (w : World), (w.setCells b o vs).os = w.os ∧ (w.setCells b o vs).tape = w.tape ∧ (w.setCells b o vs).output = w.output
  | [], _, _ => ⟨rfl, rfl, rfl⟩
  | v :: r, o, w => by rw [World.setCells]; exact os_setCells b r _ _
theorem Only.setCells {p : Nat → Prop} {a w : World} (h : Only p a w) {b : Nat} (hb : p b ∨ a.heap.size ≤ b) (o : Nat) (vs : List Value) : Only p a (w.setCells b o vs) := by
  obtain ⟨h1, h2, h3⟩ := os_setCells b vs o w
  refine ⟨h1.trans h.os, h2.trans h.tape, h3.trans h.output, by rw [size_setCells]; exact h.size, fun k hk hp => ?_⟩
  rw [heap_setCells b k (fun e => by subst e; rcases hb with x | x; exact hp x; omega)]
  exact h.block k hk hp
/-- the beginning of a sector is written -/
theorem Rk.part {b : Nat} {l : List (List UInt8)} {W : World} (h : Rk b l W) (h64 : ∀ s ∈ l, s.length = 64) (i : Nat) (hi : i < l.length) (s : List UInt8) (hs : s.length ≤ 64) : Rk b (l.set i (s ++ (l.getD i []).drop s.length)) (W.setCells b (i * 64) (yc s)) := by
  refine ⟨fun j hj => ?_, fun j hj => World.there_setCells (h.th j (by simpa using hj)) _ _ _, by rw [size_setCells]; exact h.lt⟩
  rw [List.length_set] at hj
  have hth : W.there b (i * 64) (yc s).length := fun k hk => h.th i hi k (by rw [yc_length] at hk; omega)
  rw [Sm.getD_set _ _ _ _ hi]
  by_cases e : i = j
  · subst e
    rw [if_pos rfl]
    intro k v hv
    rw [yc_get] at hv
    by_cases hk : k < s.length
    · refine World.rangeAt_setCells_same _ _ _ _ hth k v ?_
      rw [yc_get, ← hv, List.getElem?_append_left hk]
    · rw [World.cell?_setCells_out b _ _ _ _ (fun _ _ => .inr (by rw [yc_length]; show i * 64 + s.length ≤ i * 64 + k; omega))]
      refine h.cs i hi k v ?_
      rw [yc_get, ← hv, List.getElem?_append_right (by omega), List.getElem?_drop, show s.length + (k - s.length) = k by omega]
  · rw [if_neg e]
    refine World.rangeAt_setCells_apart (h.cs j hj) _ _ _ (.inr ?_)
    rw [yc_length, yc_length, Sm.getD_64 h64 hj]; omega
/-- a sector is written -/
theorem Rk.set {b : Nat} {l : List (List UInt8)} {W : World} (h : Rk b l W) (h64 : ∀ s ∈ l, s.length = 64) (i : Nat) (hi : i < l.length) (s : List UInt8) (hs : s.length = 64) : Rk b (l.set i s) (W.setCells b (i * 64) (yc s)) := by
  have h1 := h.part h64 i hi s (by omega)
  rw [List.drop_eq_nil_of_le (by rw [Sm.getD_64 h64 hi]; omega), List.append_nil] at h1
  exact h1
/-- the package's device in block g: what is durable in block kb, what is newest (nw) in block nb, what is waiting at wa -/
structure Dk (g kb nb : Nat) (wa : Option Addr) (wc : Nat) (lim : Bool) (lf : Int) (nw : List (List UInt8)) (d : Sm.Dv) (W : World) : Prop where
  c0 : W.cell? ⟨g, 0, none⟩ = some (.slice (some ⟨kb, 0, none⟩) d.kept.length d.kept.length)
  c1 : W.cell? ⟨g, 1, none⟩ = some (.slice (some ⟨nb, 0, none⟩) d.kept.length d.kept.length)
  c2 : W.cell? ⟨g, 2, none⟩ = some (.slice wa d.ws.length wc)
  c3 : W.cell? ⟨g, 3, none⟩ = some (.int .i64 d.calls)
  c4 : W.cell? ⟨g, 4, none⟩ = some (.bool lim)
  c5 : W.cell? ⟨g, 5, none⟩ = some (.int .i64 lf)
  fz : ∀ o, W.frozen? ⟨g, o, none⟩ = false
  lt : g < W.heap.size
  kr : Rk kb d.kept W
  nr : Rk nb nw W
  nl : nw.length = d.kept.length
  n64 : ∀ s ∈ nw, s.length = 64
  ws : W.ownsRow 0 64 65 (.slice wa d.ws.length wc) d.ws.length (kcs d.ws)
  ok : Sm.Ok d
  l0 : lim = false → d.left = -1
  l1 : lim = true → d.left = lf ∧ 0 ≤ lf
  e1 : g ≠ kb
  e2 : g ≠ nb
  e3 : kb ≠ nb
  ew : ∀ a, wa = some a → a.block ≠ g ∧ a.block ≠ kb ∧ a.block ≠ nb
  po : 0 < d.kept.length
/-- what is newest is what the last write that waits has left -/
def Nv (nw : List (List UInt8)) (d : Sm.Dv) : Prop := ∀ i, i < d.kept.length → nw.getD i [] = Sm.last (d.kept.getD i []) i d.ws
/-- where it lies -/
def Kf (g kb nb : Nat) (wa : Option Addr) : Nat → Prop := fun k => k = g ∨ k = kb ∨ k = nb ∨ ∃ a, wa = some a ∧ a.block = k
theorem Dk.keepO {g kb nb : Nat} {wa : Option Addr} {wc : Nat} {lim : Bool} {lf : Int} {nw : List (List UInt8)} {d : Sm.Dv} {W W' : World} {p : Nat → Prop} (h : Dk g kb nb wa wc lim lf nw d W) (ho : Only p W W') (hp : ∀ k, Kf g kb nb wa k → ¬ p k) : Dk g kb nb wa wc lim lf nw d W' := by
  have hb := ho.block g h.lt (hp g (.inl rfl))
  have hc : ∀ o, W'.cell? ⟨g, o, none⟩ = W.cell? ⟨g, o, none⟩ := fun o => by simp [World.cell?, hb]
  have hf : ∀ o, W'.frozen? ⟨g, o, none⟩ = W.frozen? ⟨g, o, none⟩ := fun o => by simp [World.frozen?, hb]
  refine ⟨(hc 0).trans h.c0, (hc 1).trans h.c1, (hc 2).trans h.c2, (hc 3).trans h.c3, (hc 4).trans h.c4, (hc 5).trans h.c5, fun o => (hf o).trans (h.fz o), by have := h.lt; have := ho.size; omega,
    h.kr.keepO ho (hp kb (.inr (.inl rfl))), h.nr.keepO ho (hp nb (.inr (.inr (.inl rfl)))), h.nl, h.n64, ?_, h.ok, h.l0, h.l1, h.e1, h.e2, h.e3, h.ew, h.po⟩
  obtain ⟨h1, h2⟩ := h.ws
  refine ⟨h1, ?_⟩
  rcases h2 with h2 | ⟨b, cap, cur, hv, hB, hg, rest⟩
  · exact .inl h2
  · injection hv with e1 e2 e3
    exact .inr ⟨b, cap, cur, by rw [e1, e3], hB, by rw [ho.block b (heap_lt hg) (hp b (.inr (.inr (.inr ⟨_, e1, rfl⟩))))]; exact hg, rest⟩
theorem Dk.f_lt {g kb nb : Nat} {wa : Option Addr} {wc : Nat} {lim : Bool} {lf : Int} {nw : List (List UInt8)} {d : Sm.Dv} {W : World} (h : Dk g kb nb wa wc lim lf nw d W) : ∀ k, Kf g kb nb wa k → k < W.heap.size := by
  intro k hk
  rcases hk with rfl | rfl | rfl | ⟨a, e, rfl⟩
  · exact h.lt
  · exact h.kr.lt
  · exact h.nr.lt
  · exact (h.ws.lt a.block (by rw [e]; rfl)).2

set_option maxHeartbeats 1000000 in
theorem sec_off (g kb nb : Nat) (wa : Option Addr) (wc : Nat) (lim : Bool) (lf : Int) (nw : List (List UInt8)) (d : Sm.Dv) (w : World) (h : Dk g kb nb wa wc lim lf nw d w) :
    Calls Try.prog 28 #[.pointer (some ⟨g, 0, none⟩)] w fun e w' => e = .returned (.bool (decide (d.left = 0))) ∧ w = w' := by
  have c4 := h.c4; have c5 := h.c5; have fz := h.fz; have lt := h.lt
  have l0 := h.l0; have l1 := h.l1
  obtain ⟨L, hL⟩ : ∃ L, L = d.left := ⟨_, rfl⟩
  rw [← hL] at l0 l1 ⊢
  clear hL h
  cases lim with
  | false =>
    have hl := l0 rfl
    have HR : Hid (decide (L = 0) = false) := by show _ = _; rw [hl]; rfl
    rw [HR.out]
    clear l0 l1 hl
    go_enter Try.func28, Try.ntmps28
    go_wp2
    go_ret
    exact ⟨rfl, rfl⟩
  | true =>
    obtain ⟨rfl, h0⟩ := l1 rfl
    obtain ⟨B, hB⟩ : ∃ B, B = decide (L = 0) := ⟨_, rfl⟩
    have q : (L == 0) = B := by rw [hB]; rfl
    rw [← hB]
    clear l0 l1 hB
    go_enter Try.func28, Try.ntmps28
    cases B <;> go_wp2
    all_goals go_ret
    all_goals exact ⟨rfl, rfl⟩
set_option maxHeartbeats 1000000 in
theorem sec_fault (g kb nb : Nat) (wa : Option Addr) (wc : Nat) (lim : Bool) (lf : Int) (nw : List (List UInt8)) (d : Sm.Dv) (i : Int) (n : Nat) (w : World) (h : Dk g kb nb wa wc lim lf nw d w) :
    Calls Try.prog 24 #[.pointer (some ⟨g, 0, none⟩), .int .i64 i, .int .i64 (n : Int)] w fun e w' => e = .returned (.int .i64 (Sm.check d i n)) ∧ w = w' := by
  have HO := Lib.hid (sec_off g kb nb wa wc lim lf nw d w h)
  have c0 := h.c0
  obtain ⟨N, hN⟩ : ∃ N, N = d.kept.length := ⟨_, rfl⟩
  obtain ⟨L, hL⟩ : ∃ L, L = d.left := ⟨_, rfl⟩
  have HC : Hid (Sm.check d i n = if i < 0 ∨ (N : Int) ≤ i ∨ 64 < n then 2 else if L = 0 then 60 else 0) := by
    show _ = _; unfold Sm.check; rw [hN, hL]
  rw [← hN] at c0
  rw [← hL] at HO
  obtain ⟨R, hR⟩ : ∃ R, R = Sm.check d i n := ⟨_, rfl⟩
  rw [← hR] at HC ⊢
  clear hR hN hL h
  by_cases h0 : i < 0
  · have q : decide (i < 0) = true := by simpa using h0
    have HR : Hid (R = 2) := by show _ = _; rw [HC.out, if_pos (.inl h0)]
    clear HC
    go_enter Try.func24, Try.ntmps24
    go_wp2
    go_ret
    exact ⟨by rw [HR.out]; rfl, rfl⟩
  have q0 : decide (i < 0) = false := by simpa using h0
  by_cases h1 : (N : Int) ≤ i
  · have q : decide ((N : Int) ≤ i) = true := by simpa using h1
    have HR : Hid (R = 2) := by show _ = _; rw [HC.out, if_pos (.inr (.inl h1))]
    clear HC
    go_enter Try.func24, Try.ntmps24
    go_wp2
    go_ret
    exact ⟨by rw [HR.out]; rfl, rfl⟩
  have q1 : decide ((N : Int) ≤ i) = false := by simpa using h1
  by_cases h2 : 64 < n
  · have q : decide ((64 : Int) < (n : Int)) = true := by simp; omega
    have HR : Hid (R = 2) := by show _ = _; rw [HC.out, if_pos (.inr (.inr h2))]
    clear HC
    go_enter Try.func24, Try.ntmps24
    go_wp2
    go_ret
    exact ⟨by rw [HR.out]; rfl, rfl⟩
  have q2 : decide ((64 : Int) < (n : Int)) = false := by simp; omega
  have HR : Hid (R = if L = 0 then 60 else 0) := by show _ = _; rw [HC.out, if_neg (fun h => h.elim h0 (fun h => h.elim h1 h2))]
  clear HC
  obtain ⟨B, hB⟩ : ∃ B, B = decide (L = 0) := ⟨_, rfl⟩
  rw [← hB] at HO
  have HR2 : Hid (R = if B = true then 60 else 0) := by show _ = _; rw [HR.out, hB]; simp
  clear HR hB h0 h1 h2
  go_enter Try.func24, Try.ntmps24
  go_wp2_with fail
  refine HO.out.mono ?_
  rintro e w1 ⟨rfl, rfl⟩
  clear HO
  cases B with
  | true =>
    go_wp2
    go_ret
    exact ⟨by rw [HR2.out]; rfl, rfl⟩
  | false =>
    go_wp2
    go_ret
    exact ⟨by rw [HR2.out]; rfl, rfl⟩
end Go.Proofs.Ytllbemelljaklaa
