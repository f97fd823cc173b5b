/- Package sector: the device in memory; off, fault, count, Sectors, Waiting, Calls, Limit, kept. -/
import Derived.Test.YtofbignggadkiaaSecDid
import Derived.Deep.MidRow
import Derived.Deep.RegionHeld3
import Derived.BigQuiet
import Derived.OwnWalk
import Derived.BigRegion
import Derived.Laws.OwnMore
namespace Go.Proofs.Ytofbignggadkiaa
open Go.RowKit

/-- the cells of writes, as the package keeps them -/
def kcs : List Sm.Wr → List Value
  | [] => []
  | x :: r => (.int .i64 (x.i : Int) :: yc x.b) ++ kcs r
theorem kcs_length : ∀ l : List Sm.Wr, (∀ x ∈ l, x.b.length = 64) → (kcs l).length = l.length * 65
  | [], _ => rfl
  | x :: r, h => by
    rw [kcs, List.length_append, List.length_cons, yc_length, h x (by simp), kcs_length r (fun y hy => h y (by simp [hy])), List.length_cons]; omega
theorem kcs_append : ∀ l r : List Sm.Wr, kcs (l ++ r) = kcs l ++ kcs r
  | [], _ => rfl
  | x :: l, r => by rw [List.cons_append, kcs, kcs, kcs_append l r, List.append_assoc]
theorem kcs_get : ∀ (l : List Sm.Wr) (j i : Nat) (x : Sm.Wr), (∀ x ∈ l, x.b.length = 64) → l[j]? = some x → i < 65 → (kcs l)[j * 65 + i]? = (Value.int .i64 (x.i : Int) :: yc x.b)[i]?
  | [], _, _, _, _, h, _ => by simp at h
  | y :: r, 0, i, x, hl, h, hi => by
    simp at h; subst h
    rw [kcs, Nat.zero_mul, Nat.zero_add, List.getElem?_append_left (by rw [List.length_cons, yc_length, hl y (by simp)]; omega)]
  | y :: r, j + 1, i, x, hl, h, hi => by
    rw [List.getElem?_cons_succ] at h
    have h1 := kcs_get r j i x (fun z hz => hl z (by simp [hz])) h hi
    rw [kcs, List.getElem?_append_right (by rw [List.length_cons, yc_length, hl y (by simp)]; omega), List.length_cons, yc_length, hl y (by simp), show (j + 1) * 65 + i - (64 + 1) = j * 65 + i by omega]
    exact h1
theorem kcs_one : ∀ (l : List Sm.Wr), ∀ u ∈ kcs l, u.oneCell' = true
  | [], _, h => by cases h
  | x :: r, u, h => by
    rw [kcs, List.mem_append, List.mem_cons] at h
    rcases h with (rfl | h) | h
    · rfl
    · exact yc_one _ u h
    · exact kcs_one r u h
/-- sectors in block b, one behind another -/
structure Rk (b : Nat) (l : List (List UInt8)) (W : World) : Prop where
  cs : ∀ i, i < l.length → W.rangeAt b (i * 64) (yc (l.getD i []))
  th : ∀ i, i < l.length → W.there b (i * 64) 64
  lt : b < W.heap.size
theorem Rk.keepO {b : Nat} {l : List (List UInt8)} {W W' : World} {p : Nat → Prop} (h : Rk b l W) (ho : Only p W W') (hp : ¬ p b) : Rk b l W' := by
  have hb := ho.block b h.lt hp
  refine ⟨fun i hi j v hv => ?_, fun i hi j hj => ?_, by have := h.lt; have := ho.size; omega⟩
  · rw [← h.cs i hi j v hv]; simp [World.cell?, hb]
  · have h1 := h.th i hi j hj
    simp only [World.cell?, World.frozen?, hb] at h1 ⊢
    exact h1
theorem size_setCells (b : Nat) : ∀ (vs : List Value) (o : Nat) (w : World), (w.setCells b o vs).heap.size = w.heap.size
  | [], _, _ => rfl
  | v :: r, o, w => by rw [World.setCells, size_setCells b r]; simp
theorem heap_setCells (b k : Nat) (hk : k ≠ b) : ∀ (vs : List Value) (o : Nat) (w : World), (w.setCells b o vs).heap[k]? = w.heap[k]?
  | [], _, _ => rfl
  | v :: r, o, w => by rw [World.setCells, heap_setCells b k hk r, Below.heap_setCell _ _ _ _ (fun e => hk e)]
theorem os_setCells (b : Nat) : ∀ (vs : List Value) (o : Nat) (w : World), (w.setCells b o vs).os = w.os ∧ (w.setCells b o vs).tape = w.tape ∧ (w.setCells b o vs).output = w.output
  | [], _, _ => ⟨rfl, rfl, rfl⟩
  | v :: r, o, w => by rw [World.setCells]; exact os_setCells b r _ _
theorem Only.setCells {p : Nat → Prop} {a w : World} (h : Only p a w) {b : Nat} (hb : p b ∨ a.heap.size ≤ b) (o : Nat) (vs : List Value) : Only p a (w.setCells b o vs) := by
  obtain ⟨h1, h2, h3⟩ := os_setCells b vs o w
  refine ⟨h1.trans h.os, h2.trans h.tape, h3.trans h.output, by rw [size_setCells]; exact h.size, fun k hk hp => ?_⟩
  rw [heap_setCells b k (fun e => by subst e; rcases hb with x | x; exact hp x; omega)]
  exact h.block k hk hp
/-- the beginning of a sector is written -/
theorem Rk.part {b : Nat} {l : List (List UInt8)} {W : World} (h : Rk b l W) (h64 : ∀ s ∈ l, s.length = 64) (i : Nat) (hi : i < l.length) (s : List UInt8) (hs : s.length ≤ 64) : Rk b (l.set i (s ++ (l.getD i []).drop s.length)) (W.setCells b (i * 64) (yc s)) := by
  refine ⟨fun j hj => ?_, fun j hj => World.there_setCells (h.th j (by simpa using hj)) _ _ _, by rw [size_setCells]; exact h.lt⟩
  rw [List.length_set] at hj
  have hth : W.there b (i * 64) (yc s).length := fun k hk => h.th i hi k (by rw [yc_length] at hk; omega)
  rw [Sm.getD_set _ _ _ _ hi]
  by_cases e : i = j
  · subst e
    rw [if_pos rfl]
    intro k v hv
    rw [yc_get] at hv
    by_cases hk : k < s.length
    · refine World.rangeAt_setCells_same _ _ _ _ hth k v ?_
      rw [yc_get, ← hv, List.getElem?_append_left hk]
    · rw [World.cell?_setCells_out b _ _ _ _ (fun _ _ => .inr (by rw [yc_length]; show i * 64 + s.length ≤ i * 64 + k; omega))]
      refine h.cs i hi k v ?_
      rw [yc_get, ← hv, List.getElem?_append_right (by omega), List.getElem?_drop, show s.length + (k - s.length) = k by omega]
  · rw [if_neg e]
    refine World.rangeAt_setCells_apart (h.cs j hj) _ _ _ (.inr ?_)
    rw [yc_length, yc_length, Sm.getD_64 h64 hj]; omega
/-- a sector is written -/
theorem Rk.set {b : Nat} {l : List (List UInt8)} {W : World} (h : Rk b l W) (h64 : ∀ s ∈ l, s.length = 64) (i : Nat) (hi : i < l.length) (s : List UInt8) (hs : s.length = 64) : Rk b (l.set i s) (W.setCells b (i * 64) (yc s)) := by
  have h1 := h.part h64 i hi s (by omega)
  rw [List.drop_eq_nil_of_le (by rw [Sm.getD_64 h64 hi]; omega), List.append_nil] at h1
  exact h1
/-- the package's device in block g: what is durable in block kb, what is newest (nw) in block nb, what is waiting at wa -/
structure Dk (g kb nb : Nat) (wa : Option Addr) (wc : Nat) (lim : Bool) (lf : Int) (nw : List (List UInt8)) (d : Sm.Dv) (W : World) : Prop where
  c0 : W.cell? ⟨g, 0, none⟩ = some (.slice (some ⟨kb, 0, none⟩) d.kept.length d.kept.length)
  c1 : W.cell? ⟨g, 1, none⟩ = some (.slice (some ⟨nb, 0, none⟩) d.kept.length d.kept.length)
  c2 : W.cell? ⟨g, 2, none⟩ = some (.slice wa d.ws.length wc)
  c3 : W.cell? ⟨g, 3, none⟩ = some (.int .i64 d.calls)
  c4 : W.cell? ⟨g, 4, none⟩ = some (.bool lim)
  c5 : W.cell? ⟨g, 5, none⟩ = some (.int .i64 lf)
  fz : ∀ o, W.frozen? ⟨g, o, none⟩ = false
  lt : g < W.heap.size
  kr : Rk kb d.kept W
  nr : Rk nb nw W
  nl : nw.length = d.kept.length
  n64 : ∀ s ∈ nw, s.length = 64
  ws : W.ownsRow 0 89 65 (.slice wa d.ws.length wc) d.ws.length (kcs d.ws)
  ok : Sm.Ok d
  l0 : lim = false → d.left = -1
  l1 : lim = true → d.left = lf ∧ 0 ≤ lf
  e1 : g ≠ kb
  e2 : g ≠ nb
  e3 : kb ≠ nb
  ew : ∀ a, wa = some a → a.block ≠ g ∧ a.block ≠ kb ∧ a.block ≠ nb
  po : 0 < d.kept.length
/-- what is newest is what the last write that waits has left -/
def Nv (nw : List (List UInt8)) (d : Sm.Dv) : Prop := ∀ i, i < d.kept.length → nw.getD i [] = Sm.last (d.kept.getD i []) i d.ws
/-- where it lies -/
def Kf (g kb nb : Nat) (wa : Option Addr) : Nat → Prop := fun k => k = g ∨ k = kb ∨ k = nb ∨ ∃ a, wa = some a ∧ a.block = k
theorem Dk.keepO {g kb nb : Nat} {wa : Option Addr} {wc : Nat} {lim : Bool} {lf : Int} {nw : List (List UInt8)} {d : Sm.Dv} {W W' : World} {p : Nat → Prop} (h : Dk g kb nb wa wc lim lf nw d W) (ho : Only p W W') (hp : ∀ k, Kf g kb nb wa k → ¬ p k) : Dk g kb nb wa wc lim lf nw d W' := by
  have hb := ho.block g h.lt (hp g (.inl rfl))
  have hc : ∀ o, W'.cell? ⟨g, o, none⟩ = W.cell? ⟨g, o, none⟩ := fun o => by simp [World.cell?, hb]
  have hf : ∀ o, W'.frozen? ⟨g, o, none⟩ = W.frozen? ⟨g, o, none⟩ := fun o => by simp [World.frozen?, hb]
  refine ⟨(hc 0).trans h.c0, (hc 1).trans h.c1, (hc 2).trans h.c2, (hc 3).trans h.c3, (hc 4).trans h.c4, (hc 5).trans h.c5, fun o => (hf o).trans (h.fz o), by have := h.lt; have := ho.size; omega,
    h.kr.keepO ho (hp kb (.inr (.inl rfl))), h.nr.keepO ho (hp nb (.inr (.inr (.inl rfl)))), h.nl, h.n64, ?_, h.ok, h.l0, h.l1, h.e1, h.e2, h.e3, h.ew, h.po⟩
  obtain ⟨h1, h2⟩ := h.ws
  refine ⟨h1, ?_⟩
  rcases h2 with h2 | ⟨b, cap, cur, hv, hB, hg, rest⟩
  · exact .inl h2
  · injection hv with e1 e2 e3
    exact .inr ⟨b, cap, cur, by rw [e1, e3], hB, by rw [ho.block b (heap_lt hg) (hp b (.inr (.inr (.inr ⟨_, e1, rfl⟩))))]; exact hg, rest⟩
theorem Dk.f_lt {g kb nb : Nat} {wa : Option Addr} {wc : Nat} {lim : Bool} {lf : Int} {nw : List (List UInt8)} {d : Sm.Dv} {W : World} (h : Dk g kb nb wa wc lim lf nw d W) : ∀ k, Kf g kb nb wa k → k < W.heap.size := by
  intro k hk
  rcases hk with rfl | rfl | rfl | ⟨a, e, rfl⟩
  · exact h.lt
  · exact h.kr.lt
  · exact h.nr.lt
  · exact (h.ws.lt a.block (by rw [e]; rfl)).2
set_option maxHeartbeats 1000000 in
theorem sec_off (g kb nb : Nat) (wa : Option Addr) (wc : Nat) (lim : Bool) (lf : Int) (nw : List (List UInt8)) (d : Sm.Dv) (w : World) (h : Dk g kb nb wa wc lim lf nw d w) :
    Calls Try.prog 58 #[.pointer (some ⟨g, 0, none⟩)] w fun e w' => e = .returned (.bool (decide (d.left = 0))) ∧ w = w' := by
  have c4 := h.c4; have c5 := h.c5; have fz := h.fz; have lt := h.lt
  have l0 := h.l0; have l1 := h.l1
  obtain ⟨L, hL⟩ : ∃ L, L = d.left := ⟨_, rfl⟩
  rw [← hL] at l0 l1 ⊢
  clear hL h
  cases lim with
  | false =>
    have hl := l0 rfl
    have HR : Hid (decide (L = 0) = false) := by show _ = _; rw [hl]; rfl
    rw [HR.out]
    clear l0 l1 hl
    go_enter Try.func58, Try.ntmps58
    go_wp2
    go_ret
    exact ⟨rfl, rfl⟩
  | true =>
    obtain ⟨rfl, h0⟩ := l1 rfl
    obtain ⟨B, hB⟩ : ∃ B, B = decide (L = 0) := ⟨_, rfl⟩
    have q : (L == 0) = B := by rw [hB]; rfl
    rw [← hB]
    clear l0 l1 hB
    go_enter Try.func58, Try.ntmps58
    cases B <;> go_wp2
    all_goals go_ret
    all_goals exact ⟨rfl, rfl⟩
set_option maxHeartbeats 1000000 in
theorem sec_fault (g kb nb : Nat) (wa : Option Addr) (wc : Nat) (lim : Bool) (lf : Int) (nw : List (List UInt8)) (d : Sm.Dv) (i : Int) (n : Nat) (w : World) (h : Dk g kb nb wa wc lim lf nw d w) :
    Calls Try.prog 42 #[.pointer (some ⟨g, 0, none⟩), .int .i64 i, .int .i64 (n : Int)] w fun e w' => e = .returned (.int .i64 (Sm.check d i n)) ∧ w = w' := by
  have HO := Lib.hid (sec_off g kb nb wa wc lim lf nw d w h)
  have c0 := h.c0
  obtain ⟨N, hN⟩ : ∃ N, N = d.kept.length := ⟨_, rfl⟩
  obtain ⟨L, hL⟩ : ∃ L, L = d.left := ⟨_, rfl⟩
  have HC : Hid (Sm.check d i n = if i < 0 ∨ (N : Int) ≤ i ∨ 64 < n then 2 else if L = 0 then 60 else 0) := by
    show _ = _; unfold Sm.check; rw [hN, hL]
  rw [← hN] at c0
  rw [← hL] at HO
  obtain ⟨R, hR⟩ : ∃ R, R = Sm.check d i n := ⟨_, rfl⟩
  rw [← hR] at HC ⊢
  clear hR hN hL h
  by_cases h0 : i < 0
  · have q : decide (i < 0) = true := by simpa using h0
    have HR : Hid (R = 2) := by show _ = _; rw [HC.out, if_pos (.inl h0)]
    clear HC
    go_enter Try.func42, Try.ntmps42
    go_wp2
    go_ret
    exact ⟨by rw [HR.out]; rfl, rfl⟩
  have q0 : decide (i < 0) = false := by simpa using h0
  by_cases h1 : (N : Int) ≤ i
  · have q : decide ((N : Int) ≤ i) = true := by simpa using h1
    have HR : Hid (R = 2) := by show _ = _; rw [HC.out, if_pos (.inr (.inl h1))]
    clear HC
    go_enter Try.func42, Try.ntmps42
    go_wp2
    go_ret
    exact ⟨by rw [HR.out]; rfl, rfl⟩
  have q1 : decide ((N : Int) ≤ i) = false := by simpa using h1
  by_cases h2 : 64 < n
  · have q : decide ((64 : Int) < (n : Int)) = true := by simp; omega
    have HR : Hid (R = 2) := by show _ = _; rw [HC.out, if_pos (.inr (.inr h2))]
    clear HC
    go_enter Try.func42, Try.ntmps42
    go_wp2
    go_ret
    exact ⟨by rw [HR.out]; rfl, rfl⟩
  have q2 : decide ((64 : Int) < (n : Int)) = false := by simp; omega
  have HR : Hid (R = if L = 0 then 60 else 0) := by show _ = _; rw [HC.out, if_neg (fun h => h.elim h0 (fun h => h.elim h1 h2))]
  clear HC
  obtain ⟨B, hB⟩ : ∃ B, B = decide (L = 0) := ⟨_, rfl⟩
  rw [← hB] at HO
  have HR2 : Hid (R = if B = true then 60 else 0) := by show _ = _; rw [HR.out, hB]; simp
  clear HR hB h0 h1 h2
  go_enter Try.func42, Try.ntmps42
  go_wp2_with fail
  refine HO.out.mono ?_
  rintro e w1 ⟨rfl, rfl⟩
  clear HO
  cases B with
  | true =>
    go_wp2
    go_ret
    exact ⟨by rw [HR2.out]; rfl, rfl⟩
  | false =>
    go_wp2
    go_ret
    exact ⟨by rw [HR2.out]; rfl, rfl⟩
end Go.Proofs.Ytofbignggadkiaa
/- Package sector: count, Sectors, Waiting, Calls, Limit, kept; the calls on nil. -/
namespace Go.Proofs.Ytofbignggadkiaa
open Go.RowKit

theorem Dk.setCalls {g kb nb : Nat} {wa : Option Addr} {wc : Nat} {lim : Bool} {lf : Int} {nw : List (List UInt8)} {d : Sm.Dv} {w : World} (h : Dk g kb nb wa wc lim lf nw d w) (C : Int) : Dk g kb nb wa wc lim lf nw { d with calls := C } (w.setCell ⟨g, 3, none⟩ (.int .i64 C)) := by
  have ho : Only (fun k => k = g) w (w.setCell ⟨g, 3, none⟩ (.int .i64 C)) := Only.setCell (p := fun k => k = g) (Only.refl _ w) (q := ⟨g, 3, none⟩) (.inl rfl) _
  exact ⟨(cell_keep _ _ _ _ _ (by decide)).trans h.c0, (cell_keep _ _ _ _ _ (by decide)).trans h.c1, (cell_keep _ _ _ _ _ (by decide)).trans h.c2, World.cell?_setCell_same _ _ _ h.c3, (cell_keep _ _ _ _ _ (by decide)).trans h.c4, (cell_keep _ _ _ _ _ (by decide)).trans h.c5,
    fun o => by have := h.fz o; simpa using this, by have := h.lt; simpa using this, h.kr.keepO ho (fun e => h.e1 e.symm), h.nr.keepO ho (fun e => h.e2 e.symm), h.nl, h.n64,
    own_set h.ws _ (fun e => by
      cases wa with
      | none => cases e
      | some a => injection e with e; exact (h.ew a rfl).1 e), ⟨h.ok.k, h.ok.w⟩, h.l0, h.l1, h.e1, h.e2, h.e3, h.ew, h.po⟩
theorem Dk.setLeft {g kb nb : Nat} {wa : Option Addr} {wc : Nat} {lf : Int} {nw : List (List UInt8)} {d : Sm.Dv} {w : World} (h : Dk g kb nb wa wc true lf nw d w) (L : Int) (hL : 0 ≤ L) : Dk g kb nb wa wc true L nw { d with left := L } (w.setCell ⟨g, 5, none⟩ (.int .i64 L)) := by
  have ho : Only (fun k => k = g) w (w.setCell ⟨g, 5, none⟩ (.int .i64 L)) := Only.setCell (p := fun k => k = g) (Only.refl _ w) (q := ⟨g, 5, none⟩) (.inl rfl) _
  exact ⟨(cell_keep _ _ _ _ _ (by decide)).trans h.c0, (cell_keep _ _ _ _ _ (by decide)).trans h.c1, (cell_keep _ _ _ _ _ (by decide)).trans h.c2, (cell_keep _ _ _ _ _ (by decide)).trans h.c3, (cell_keep _ _ _ _ _ (by decide)).trans h.c4, World.cell?_setCell_same _ _ _ h.c5,
    fun o => by have := h.fz o; simpa using this, by have := h.lt; simpa using this, h.kr.keepO ho (fun e => h.e1 e.symm), h.nr.keepO ho (fun e => h.e2 e.symm), h.nl, h.n64,
    own_set h.ws _ (fun e => by
      cases wa with
      | none => cases e
      | some a => injection e with e; exact (h.ew a rfl).1 e), ⟨h.ok.k, h.ok.w⟩, (fun e => by cases e), (fun _ => ⟨rfl, hL⟩), h.e1, h.e2, h.e3, h.ew, h.po⟩
/-- a limit is set, or ended -/
theorem Dk.setLim {g kb nb : Nat} {wa : Option Addr} {wc : Nat} {lim : Bool} {lf : Int} {nw : List (List UInt8)} {d : Sm.Dv} {w : World} (h : Dk g kb nb wa wc lim lf nw d w) (b : Bool) (L L' : Int) (h0 : b = false → L' = -1) (h1 : b = true → L' = L ∧ 0 ≤ L) : Dk g kb nb wa wc b L nw { d with left := L' } ((w.setCell ⟨g, 4, none⟩ (.bool b)).setCell ⟨g, 5, none⟩ (.int .i64 L)) := by
  have ho : Only (fun k => k = g) w ((w.setCell ⟨g, 4, none⟩ (.bool b)).setCell ⟨g, 5, none⟩ (.int .i64 L)) := Only.setCell (p := fun k => k = g) (Only.setCell (p := fun k => k = g) (Only.refl _ w) (q := ⟨g, 4, none⟩) (.inl rfl) _) (q := ⟨g, 5, none⟩) (.inl rfl) _
  have hne : (Value.slice wa d.ws.length wc).ownBlock ≠ some g := fun e => by
    cases wa with
    | none => cases e
    | some a => injection e with e; exact (h.ew a rfl).1 e
  have k : ∀ j v, j ≠ 4 → j ≠ 5 → w.cell? ⟨g, j, none⟩ = some v → ((w.setCell ⟨g, 4, none⟩ (.bool b)).setCell ⟨g, 5, none⟩ (.int .i64 L)).cell? ⟨g, j, none⟩ = some v := fun j v h4 h5 hv => by
    rw [cell_keep _ _ _ _ _ (Ne.symm h5), cell_keep _ _ _ _ _ (Ne.symm h4), hv]
  exact ⟨k 0 _ (by decide) (by decide) h.c0, k 1 _ (by decide) (by decide) h.c1, k 2 _ (by decide) (by decide) h.c2, k 3 _ (by decide) (by decide) h.c3, (cell_keep _ _ _ _ _ (by decide)).trans (World.cell?_setCell_same _ _ _ h.c4), World.cell?_setCell_same _ _ _ ((cell_keep _ _ _ _ _ (by decide)).trans h.c5),
    fun o => by have := h.fz o; simpa using this, by have := h.lt; simpa using this, h.kr.keepO ho (fun e => h.e1 e.symm), h.nr.keepO ho (fun e => h.e2 e.symm), h.nl, h.n64,
    own_set (own_set h.ws _ hne) _ hne, ⟨h.ok.k, h.ok.w⟩, h0, h1, h.e1, h.e2, h.e3, h.ew, h.po⟩
set_option maxHeartbeats 1000000 in
theorem sec_count (g kb nb : Nat) (wa : Option Addr) (wc : Nat) (lim : Bool) (lf : Int) (nw : List (List UInt8)) (d : Sm.Dv) (w : World) (h : Dk g kb nb wa wc lim lf nw d w) (hc : 0 ≤ d.calls ∧ d.calls ≤ 1000000) (hl : d.left ≠ 0) (hm : d.left ≤ 9223372036854775807) :
    Calls Try.prog 43 #[.pointer (some ⟨g, 0, none⟩)] w fun e w' => e = .returned (.tuple #[]) ∧ (∃ lf', Dk g kb nb wa wc lim lf' nw (Sm.count d) w') ∧ Only (fun k => k = g) w w' := by
  have c3 := h.c3; have c4 := h.c4; have c5 := h.c5; have fz := h.fz; have lt := h.lt
  obtain ⟨C, hC⟩ : ∃ C, C = d.calls := ⟨_, rfl⟩
  rw [← hC] at c3 hc
  obtain ⟨hc1, hc2⟩ := hc
  have H1 := Lib.hid (h.setCalls (C + 1))
  have O1 : Hid (Only (fun k => k = g) w (w.setCell ⟨g, 3, none⟩ (.int .i64 (C + 1)))) := Only.setCell (p := fun k => k = g) (Only.refl _ w) (q := ⟨g, 3, none⟩) (.inl rfl) _
  cases lim with
  | false =>
    have hd := h.l0 rfl
    have HE : Hid (Sm.count d = { d with calls := C + 1 }) := by
      show _ = _
      unfold Sm.count
      rw [hC, hd]
      cases d; simp_all
    clear h hd hC hl hm
    go_enter Try.func43, Try.ntmps43
    go_wp2
    go_end0
    refine ⟨rfl, ⟨lf, ?_⟩, O1.out⟩
    rw [HE.out]; exact H1.out
  | true =>
    obtain ⟨h1, h2⟩ := h.l1 rfl
    have h0 : 0 < lf := by omega
    have h3 : lf ≤ 9223372036854775807 := by omega
    have HE : Hid (Sm.count d = { d with calls := C + 1, left := lf - 1 }) := by
      show _ = _
      unfold Sm.count
      rw [hC, h1, if_pos h0]
    have H2 := Lib.hid (H1.out.setLeft (lf - 1) (by omega))
    have b4 : (w.setCell ⟨g, 3, none⟩ (.int .i64 (C + 1))).cell? ⟨g, 4, none⟩ = some (.bool true) := (cell_keep _ _ _ _ _ (by decide)).trans c4
    have b5 : (w.setCell ⟨g, 3, none⟩ (.int .i64 (C + 1))).cell? ⟨g, 5, none⟩ = some (.int .i64 lf) := (cell_keep _ _ _ _ _ (by decide)).trans c5
    clear h h1 hC hl hm
    go_enter Try.func43, Try.ntmps43
    go_wp2
    go_end0
    refine ⟨rfl, ⟨lf - 1, ?_⟩, Only.setCell (p := fun k => k = g) O1.out (q := ⟨g, 5, none⟩) (.inl rfl) _⟩
    rw [HE.out]; exact H2.out
set_option maxHeartbeats 1000000 in
theorem sec_sectors (g kb nb : Nat) (wa : Option Addr) (wc : Nat) (lim : Bool) (lf : Int) (nw : List (List UInt8)) (d : Sm.Dv) (w : World) (h : Dk g kb nb wa wc lim lf nw d w) :
    Calls Try.prog 29 #[.pointer (some ⟨g, 0, none⟩)] w fun e w' => e = .returned (.int .i64 (d.kept.length : Int)) ∧ Below w.heap.size w w' := by
  have c0 := h.c0
  generalize d.kept.length = N at c0 ⊢
  clear h
  go_enter Try.func29, Try.ntmps29
  go_wp2
  go_ret
  exact ⟨rfl, Below.refl _ _⟩
set_option maxHeartbeats 1000000 in
theorem sec_calls (g kb nb : Nat) (wa : Option Addr) (wc : Nat) (lim : Bool) (lf : Int) (nw : List (List UInt8)) (d : Sm.Dv) (w : World) (h : Dk g kb nb wa wc lim lf nw d w) :
    Calls Try.prog 25 #[.pointer (some ⟨g, 0, none⟩)] w fun e w' => e = .returned (.int .i64 d.calls) ∧ Below w.heap.size w w' := by
  have c3 := h.c3
  generalize d.calls = C at c3 ⊢
  clear h
  go_enter Try.func25, Try.ntmps25
  go_wp2
  go_ret
  exact ⟨rfl, Below.refl _ _⟩
set_option maxHeartbeats 1000000 in
theorem sec_limit (g kb nb : Nat) (wa : Option Addr) (wc : Nat) (lim : Bool) (lf : Int) (nw : List (List UInt8)) (d : Sm.Dv) (n : Int) (w : World) (h : Dk g kb nb wa wc lim lf nw d w) :
    Calls Try.prog 18 #[.pointer (some ⟨g, 0, none⟩), .int .i64 n] w fun e w' => e = .returned (.tuple #[]) ∧ (∃ lf', Dk g kb nb wa wc true lf' nw (Sm.bound d n) w') ∧ Only (fun k => k = g) w w' := by
  have c4 := h.c4; have c5 := h.c5; have fz := h.fz; have lt := h.lt
  obtain ⟨M, hM⟩ : ∃ M : Int, (if (0 : Int) > n then 0 else n) = M := ⟨_, rfl⟩
  have HM : Hid (max n 0 = M) := by show _ = _; rw [← hM, Int.max_def]; split <;> split <;> omega
  have hM0 : 0 ≤ M := by rw [← hM]; split <;> omega
  have hmx := max_0 n M hM
  have HD := Lib.hid (h.setLim true M M (fun e => by cases e) (fun _ => ⟨rfl, hM0⟩))
  have b5 : (w.setCell ⟨g, 4, none⟩ (.bool true)).cell? ⟨g, 5, none⟩ = some (.int .i64 lf) := (cell_keep _ _ _ _ _ (by decide)).trans c5
  clear hM h
  go_enter Try.func18, Try.ntmps18
  go_wp2
  go_end0
  refine ⟨rfl, ⟨M, ?_⟩, Only.setCell (p := fun k => k = g) (Only.setCell (p := fun k => k = g) (Only.refl _ w) (q := ⟨g, 4, none⟩) (.inl rfl) _) (q := ⟨g, 5, none⟩) (.inl rfl) _⟩
  unfold Sm.bound
  rw [HM.out]; exact HD.out
theorem max_c (t M : Int) (h : (if (0 : Int) > t then 0 else t) = M) (W : World) : (Builtin.max_ #[3, 3] 3 #[.int .i64 t, .int .i64 0]).run Try.prog W = .ok (.int .i64 M) W := max_0 t M h W
theorem min_c (t M : Int) (h : (if (64 : Int) < t then 64 else t) = M) (W : World) : (Builtin.min_ #[3, 3] 3 #[.int .i64 t, .int .i64 64]).run Try.prog W = .ok (.int .i64 M) W := by
  rw [← h]
  simp [Builtin.min_, Builtin.min2]
set_option maxHeartbeats 1000000 in
theorem sec_kept (ta : Option Addr) (tn tc : Nat) (ts : List Int) (j : Nat) (w : World) (ht : It (.slice ta tn tc) ts w) :
    Calls Try.prog 46 #[.slice ta tn tc, .int .i64 (j : Int)] w fun e w' => e = .returned (.int .i64 (Sm.tear (ts[j]?) : Int)) ∧ w = w' := by
  have htn : tn = ts.length := by obtain ⟨_, _, e⟩ := ht.form; injection e
  by_cases htj : j < tn
  · have htl : j < ts.length := by omega
    obtain ⟨b3, o3, rfl, hcc, hg3, hc3⟩ := It.at ht j htl
    obtain ⟨t, htt⟩ : ∃ t, t = ts[j] := ⟨_, rfl⟩
    rw [← htt] at hc3
    have q : decide ((tn : Int) ≤ (j : Int)) = false := by simp; omega
    obtain ⟨M, hM⟩ : ∃ M : Int, M = if (0 : Int) > t then 0 else t := ⟨_, rfl⟩
    obtain ⟨R, hR⟩ : ∃ R : Int, R = if (64 : Int) < M then 64 else M := ⟨_, rfl⟩
    have HR : Hid ((Sm.tear (ts[j]?) : Int) = R) := by
      show _ = _
      rw [List.getElem?_eq_getElem htl, ← htt, Sm.tear, hR, hM]
      split <;> split <;> omega
    have hmx := max_c t M hM.symm
    have hmn := min_c M R hR.symm
    rw [HR.out]
    clear ht htn hM hR htt
    go_enter Try.func46, Try.ntmps46
    go_wp2
    go_ret
    exact ⟨rfl, rfl⟩
  · have q : decide ((tn : Int) ≤ (j : Int)) = true := by simp; omega
    rw [List.getElem?_eq_none (by omega)]
    clear ht htn
    go_enter Try.func46, Try.ntmps46
    go_wp2
    go_ret
    exact ⟨rfl, rfl⟩
set_option maxHeartbeats 1000000 in
theorem sec_nFault (W : World) (i n : Int) : Calls Try.prog 42 #[.pointer none, .int .i64 i, .int .i64 n] W fun e w' => e = .returned (.int .i64 1) ∧ W = w' := by
  go_enter Try.func42, Try.ntmps42
  go_wp2
  go_ret
  exact ⟨rfl, rfl⟩
set_option maxHeartbeats 1000000 in
theorem sec_nRead (W : World) (i : Int) : Calls Try.prog 26 #[.pointer none, .int .i64 i] W fun e w' => ∃ v, e = .returned (.tuple #[v, .int .i64 1]) ∧ Below W.heap.size W w' := by
  go_enter Try.func26, Try.ntmps26
  go_wp2_with fail
  refine (sec_nFault _ i 0).mono ?_
  rintro e w1 ⟨rfl, rfl⟩
  go_wp2
  go_ret2
  exact ⟨_, rfl, Below.refl _ _⟩
set_option maxHeartbeats 1000000 in
theorem sec_nWrite (W : World) (i : Int) : Calls Try.prog 20 #[.pointer none, .int .i64 i, .slice none 0 0] W fun e w' => e = .returned (.int .i64 1) ∧ Below W.heap.size W w' := by
  go_enter Try.func20, Try.ntmps20
  go_wp2_with fail
  refine (sec_nFault _ i _).mono ?_
  rintro e w1 ⟨rfl, rfl⟩
  go_wp2
  go_ret
  exact ⟨rfl, Below.refl _ _⟩
set_option maxHeartbeats 1000000 in
theorem sec_nFlush (W : World) : Calls Try.prog 52 #[.pointer none] W fun e w' => e = .returned (.int .i64 1) ∧ Below W.heap.size W w' := by
  go_enter Try.func52, Try.ntmps52
  go_wp2
  go_ret
  exact ⟨rfl, Below.refl _ _⟩
set_option maxHeartbeats 1000000 in
theorem sec_nSectors (W : World) : Calls Try.prog 29 #[.pointer none] W fun e w' => e = .returned (.int .i64 0) ∧ Below W.heap.size W w' := by
  go_enter Try.func29, Try.ntmps29
  go_wp2
  go_ret
  exact ⟨rfl, Below.refl _ _⟩
set_option maxHeartbeats 1000000 in
theorem sec_nCalls (W : World) : Calls Try.prog 25 #[.pointer none] W fun e w' => e = .returned (.int .i64 0) ∧ Below W.heap.size W w' := by
  go_enter Try.func25, Try.ntmps25
  go_wp2
  go_ret
  exact ⟨rfl, Below.refl _ _⟩
set_option maxHeartbeats 1000000 in
theorem sec_nLimit (W : World) (n : Int) : Calls Try.prog 18 #[.pointer none, .int .i64 n] W fun e w' => e = .returned (.tuple #[]) ∧ Below W.heap.size W w' := by
  go_enter Try.func18, Try.ntmps18
  go_wp2
  refine bodyPost_ret (results_none rfl _ _ _) rfl ?_
  exact ⟨rfl, Below.refl _ _⟩
set_option maxHeartbeats 1000000 in
theorem sec_nCrash (W : World) (v : Value) : Calls Try.prog 22 #[.pointer none, v] W fun e w' => e = .returned (.tuple #[]) ∧ Below W.heap.size W w' := by
  go_enter Try.func22, Try.ntmps22
  go_wp2
  refine bodyPost_ret (results_none rfl _ _ _) rfl ?_
  exact ⟨rfl, Below.refl _ _⟩
end Go.Proofs.Ytofbignggadkiaa
/- Package sector: New. -/
namespace Go.Proofs.Ytofbignggadkiaa
open Go.RowKit

theorem infoB : (Try.prog.info? 87).map (fun i => (i.zero, i.size, i.bytes)) = some (some (.agg (Array.replicate 64 (.int .u8 0))), 64, 64) := by kernel_rfl
theorem made_get (C : Array Value) (n j : Nat) (hC : C = madeCells (Array.replicate 64 (Value.int .u8 0)) n) (hj : j < n) : C[j]? = some (.int .u8 0) := by
  subst hC
  unfold madeCells
  rw [Array.getElem?_map, Array.getElem?_range]
  simp [hj]
  have : j % 64 < 64 := Nat.mod_lt _ (by decide)
  simp [this]
theorem below_drew0 (w : World) : Below w.heap.size w w.drew := ⟨rfl, rfl, rfl, Nat.le_refl _, fun _ _ => rfl⟩
/-- a new row of sectors -/
theorem rk_new {w : World} {g n : Nat} {C : Array Value} {t : TypeId} (hC : C = madeCells (Array.replicate 64 (Value.int .u8 0)) (n * 64)) (hg : w.heap[g]? = some (.cells C t (0, 0))) : Rk g (List.replicate n (Sm.full [])) w := by
  have h0 : yc (Sm.full []) = List.replicate 64 (Value.int .u8 0) := rfl
  refine ⟨fun i hi j v hv => ?_, fun i hi j hj => ?_, heap_lt hg⟩
  · rw [List.length_replicate] at hi
    rw [List.getD, List.getElem?_replicate, if_pos hi] at hv
    simp only [Option.getD_some] at hv
    rw [h0, List.getElem?_replicate] at hv
    split at hv
    · rename_i hj
      rw [Lib.cell_of_heap hg, made_get C (n * 64) _ hC (by omega)]
      exact hv
    · cases hv
  · rw [List.length_replicate] at hi
    exact ⟨by rw [Lib.cell_of_heap hg, made_get C (n * 64) _ hC (by omega)]; rfl, Lib.frozen_of_heap hg _⟩
theorem dk_new {w : World} {g kb nb n : Nat} {C : Array Value} {t t2 : TypeId} (h0 : 0 < n) (hC : C = madeCells (Array.replicate 64 (Value.int .u8 0)) (n * 64)) (hk : w.heap[kb]? = some (.cells C t (0, 0))) (hn : w.heap[nb]? = some (.cells C t (0, 0)))
    (hg : w.heap[g]? = some (.cells #[.slice (some ⟨kb, 0, none⟩) n n, .slice (some ⟨nb, 0, none⟩) n n, .slice none 0 0, .int .i64 0, .bool false, .int .i64 0] t2 (0, 0))) (e1 : g ≠ kb) (e2 : g ≠ nb) (e3 : kb ≠ nb) :
    Dk g kb nb none 0 false 0 (List.replicate n (Sm.full [])) (Sm.new n) w := by
  have hl : (Sm.new n).kept.length = n := List.length_replicate
  refine ⟨by rw [Lib.cell_of_heap hg, hl]; rfl, by rw [Lib.cell_of_heap hg, hl]; rfl, by rw [Lib.cell_of_heap hg]; rfl, by rw [Lib.cell_of_heap hg]; rfl, by rw [Lib.cell_of_heap hg]; rfl, by rw [Lib.cell_of_heap hg]; rfl,
    fun o => Lib.frozen_of_heap hg o, heap_lt hg, rk_new hC hk, rk_new hC hn, rfl, (fun s hs => by rw [(List.mem_replicate.1 hs).2]; exact Sm.full_len (by simp)), World.ownsRow_nil _ _ _ _, Sm.ok_new n, fun _ => rfl, (fun e => by cases e), e1, e2, e3, (fun a e => by cases e), by rw [hl]; exact h0⟩
set_option maxHeartbeats 2000000 in
theorem sec_new (n : Nat) (W : World) (h1 : 1 ≤ n) (h2 : n ≤ 65536) : Calls Try.prog 5 #[.int .i64 (n : Int)] W fun e w' => ∃ g kb nb, e = .returned (.tuple #[.pointer (some ⟨g, 0, none⟩), .int .i64 0]) ∧ Dk g kb nb none 0 false 0 (List.replicate n (Sm.full [])) (Sm.new n) w' ∧ (∀ k, Kf g kb nb none k → W.heap.size ≤ k) ∧ Below W.heap.size W w' := by
  obtain ⟨i0, hi0, hz0, hz1, hz2⟩ := info_of infoB
  obtain ⟨C, hC⟩ : ∃ C, C = madeCells (Array.replicate 64 (Value.int .u8 0)) (n * 64) := ⟨_, rfl⟩
  have HMK : ∀ w, (Instr.makeSlice 68 (.int .i64 (n : Int)) (.int .i64 (n : Int))).run Try.prog w = .ok (.slice (some ⟨w.heap.size, 0, none⟩) n n) (w.alloc (.cells C 87)) := fun w => by
    have h := run_make (P := Try.prog) w 68 87 i0 _ Try.underlying68 hi0 hz0 .i64 .i64 (n : Int) (n : Int) (by omega) (Int.le_refl _) (by rw [hz2]; omega) (by omega)
    rw [hz1] at h
    rw [h, hC]
    rfl
  have HC := Lib.hid hC
  have q1 : decide ((n : Int) < 1) = false := by simp; omega
  have q2 : decide ((65536 : Int) < (n : Int)) = false := by simp; omega
  clear hi0 hz0 hz1 hz2 hC
  go_enter Try.func5, Try.ntmps5
  go_upto_region 3 with (fail)
  go_region
  all_goals go_wp2
  all_goals go_ret2
  · have hb : Below W.heap.size W _ := ((((Below.refl _ W).alloc (Nat.le_refl _) (.cells C 87)).alloc (by simp) (.cells C 87)).alloc (by simp; omega) (.cells #[.slice (some ⟨W.heap.size, 0, none⟩) n n, .slice (some ⟨W.heap.size + 1, 0, none⟩) n n, .slice none 0 0, .int .i64 0, .bool false, .int .i64 0] 71)).trans ((below_drew0 _).mono (by simp; omega))
    refine ⟨_, W.heap.size, W.heap.size + 1, rfl, dk_new (by omega) HC.out (t := 87) (t2 := 71) ?_ ?_ ?_ (by omega) (by omega) (by omega), ?_, hb⟩
    · rw [heap_drew, Below.heap_alloc _ _ _ (by simp; omega), Below.heap_alloc _ _ _ (by simp), heap_alloc_new]
    · rw [heap_drew, Below.heap_alloc _ _ _ (by simp), show W.heap.size + 1 = (W.alloc (.cells C 87)).heap.size by simp, heap_alloc_new]
    · rw [heap_drew, show W.heap.size + 1 + 1 = ((W.alloc (.cells C 87)).alloc (.cells C 87)).heap.size by simp, heap_alloc_new]
    · intro k hk
      rcases hk with rfl | rfl | rfl | ⟨_, e, _⟩
      · omega
      · omega
      · omega
      · cases e
  · have hb : Below W.heap.size W _ := ((((Below.refl _ W).alloc (Nat.le_refl _) (.cells C 87)).alloc (by simp) (.cells C 87)).alloc (by simp; omega) (.cells #[.slice (some ⟨W.heap.size + 1, 0, none⟩) n n, .slice (some ⟨W.heap.size, 0, none⟩) n n, .slice none 0 0, .int .i64 0, .bool false, .int .i64 0] 71)).trans ((below_drew0 _).mono (by simp; omega))
    refine ⟨_, W.heap.size + 1, W.heap.size, rfl, dk_new (by omega) HC.out (t := 87) (t2 := 71) ?_ ?_ ?_ (by omega) (by omega) (by omega), ?_, hb⟩
    · rw [heap_drew, Below.heap_alloc _ _ _ (by simp), show W.heap.size + 1 = (W.alloc (.cells C 87)).heap.size by simp, heap_alloc_new]
    · rw [heap_drew, Below.heap_alloc _ _ _ (by simp; omega), Below.heap_alloc _ _ _ (by simp), heap_alloc_new]
    · rw [heap_drew, show W.heap.size + 1 + 1 = ((W.alloc (.cells C 87)).alloc (.cells C 87)).heap.size by simp, heap_alloc_new]
    · intro k hk
      rcases hk with rfl | rfl | rfl | ⟨_, e, _⟩
      · omega
      · omega
      · omega
      · cases e
set_option maxHeartbeats 1000000 in
theorem sec_bad (n : Int) (W : World) (h : n < 1 ∨ 65536 < n) : Calls Try.prog 5 #[.int .i64 n] W fun e w' => e = .returned (.tuple #[.pointer none, .int .i64 2]) ∧ Below W.heap.size W w' := by
  by_cases h1 : n < 1
  · have q1 : decide (n < 1) = true := by simpa using h1
    clear h
    go_enter Try.func5, Try.ntmps5
    go_wp2
    go_ret2
    exact ⟨rfl, Below.refl _ _⟩
  · have q1 : decide (n < 1) = false := by simpa using h1
    have q2 : decide (65536 < n) = true := by simp; omega
    clear h
    go_enter Try.func5, Try.ntmps5
    go_wp2
    go_ret2
    exact ⟨rfl, Below.refl _ _⟩
end Go.Proofs.Ytofbignggadkiaa
