/- Package log: the log in memory; bytes.Clone, Head, Room, Epoch, framesOf, next, follows; the calls on nil. -/
import Derived.Test.YtofbignggadkiaaLogK4
namespace Go.Proofs.Ytofbignggadkiaa
open Go.RowKit

/-- where a log lies: its own block, that of its batches' list, those of its bytes -/
def Gk (gl : Nat) (ba : Option Addr) (Y : Nat → Prop) : Nat → Prop := fun k => k = gl ∨ (∃ x, ba = some x ∧ x.block = k) ∨ Y k
/-- the package's log in block gl -/
structure Lk (gl g : Nat) (ha : Option Addr) (hc : Nat) (ba : Option Addr) (bc : Nat) (vs : List Value) (Y : Nat → Prop) (L : Lm.Lg) (W : World) : Prop where
  c0 : W.cell? ⟨gl, 0, none⟩ = some (.pointer (some ⟨g, 0, none⟩))
  c1 : W.cell? ⟨gl, 1, none⟩ = some (.int .i64 (L.frames : Int))
  c2 : W.cell? ⟨gl, 2, none⟩ = some (.int .i64 (L.h.n : Int))
  c3 : W.cell? ⟨gl, 3, none⟩ = some (.int .i64 (L.h.epoch : Int))
  c4 : W.cell? ⟨gl, 4, none⟩ = some (.int .i64 (L.h.base : Int))
  c5 : W.cell? ⟨gl, 5, none⟩ = some (.slice ha L.h.body.length hc)
  c6 : W.cell? ⟨gl, 6, none⟩ = some (.slice ba L.l.length bc)
  c7 : W.cell? ⟨gl, 7, none⟩ = some (.int .i64 (L.at_ : Int))
  c8 : W.cell? ⟨gl, 8, none⟩ = some (.bool L.down)
  fz : ∀ o, W.frozen? ⟨gl, o, none⟩ = false
  lt : ∀ k, Gk gl ba Y k → k < W.heap.size
  hy : Yt (.slice ha L.h.body.length hc) L.h.body W
  hY : 0 < L.h.body.length → ∀ x, ha = some x → Y x.block
  bo : W.ownsRow 0 39 1 (.slice ba L.l.length bc) L.l.length vs
  bv : ∀ j, j < L.l.length → ∃ a c, vs[j]? = some (.slice a (L.l.getD j []).length c) ∧ Yt (.slice a (L.l.getD j []).length c) (L.l.getD j []) W ∧ (0 < (L.l.getD j []).length → ∀ x, a = some x → Y x.block)
  yg : ¬ Y gl
  yb : ∀ x, ba = some x → x.block ≠ gl ∧ ¬ Y x.block
def LogK (gl g : Nat) (L : Lm.Lg) (G : Nat → Prop) (W : World) : Prop := ∃ ha hc ba bc vs Y, Lk gl g ha hc ba bc vs Y L W ∧ G = Gk gl ba Y
theorem Lk.keepO {gl g : Nat} {ha : Option Addr} {hc : Nat} {ba : Option Addr} {bc : Nat} {vs : List Value} {Y : Nat → Prop} {L : Lm.Lg} {W W' : World} {p : Nat → Prop} (h : Lk gl g ha hc ba bc vs Y L W) (ho : Only p W W') (hp : ∀ k, Gk gl ba Y k → ¬ p k) : Lk gl g ha hc ba bc vs Y L W' := by
  have hg := hp gl (.inl rfl)
  have hl := h.lt gl (.inl rfl)
  have hc : ∀ o, W'.cell? ⟨gl, o, none⟩ = W.cell? ⟨gl, o, none⟩ := fun o => cell_only ho (q := ⟨gl, o, none⟩) hl hg
  have hf : ∀ o, W'.frozen? ⟨gl, o, none⟩ = W.frozen? ⟨gl, o, none⟩ := fun o => by simp [World.frozen?, ho.block gl hl hg]
  refine ⟨(hc 0).trans h.c0, (hc 1).trans h.c1, (hc 2).trans h.c2, (hc 3).trans h.c3, (hc 4).trans h.c4, (hc 5).trans h.c5, (hc 6).trans h.c6, (hc 7).trans h.c7, (hc 8).trans h.c8, fun o => (hf o).trans (h.fz o),
    fun k hk => by have := h.lt k hk; have := ho.size; omega, h.hy.keepO ho (fun h0 x e => hp _ (.inr (.inr (h.hY h0 x e)))), h.hY, ?_, fun j hj => ?_, h.yg, h.yb⟩
  · obtain ⟨h1, h2⟩ := h.bo
    refine ⟨h1, ?_⟩
    rcases h2 with h2 | ⟨b, cap, cur, hv, hB, hg2, rest⟩
    · exact .inl h2
    · injection hv with e1 e2 e3
      exact .inr ⟨b, cap, cur, by rw [e1, e3], hB, by rw [ho.block b (heap_lt hg2) (hp b (.inr (.inl ⟨_, e1, rfl⟩)))]; exact hg2, rest⟩
  · obtain ⟨a, c, h1, h2, h3⟩ := h.bv j hj
    exact ⟨a, c, h1, h2.keepO ho (fun h0 x e => hp _ (.inr (.inr (h3 h0 x e)))), h3⟩
theorem Lk.below {gl g : Nat} {ha : Option Addr} {hc : Nat} {ba : Option Addr} {bc : Nat} {vs : List Value} {Y : Nat → Prop} {L : Lm.Lg} {W W' : World} (h : Lk gl g ha hc ba bc vs Y L W) (hb : Below W.heap.size W W') : Lk gl g ha hc ba bc vs Y L W' :=
  h.keepO (only_of hb) (fun k hk hp => by have := h.lt k hk; omega)
/-! ### bytes.Clone -/
theorem info5k : (Try.prog.info? 5).map (fun i => (i.zero, i.size, i.bytes)) = some (some (.int .u8 0), 1, 1) := by kernel_rfl
theorem own_ytb {B : Nat} {v : Value} {n : Nat} {l : List UInt8} {w : World} {E : TypeId} (h : w.ownsRow B E 1 v n (yc l)) (hn : n = l.length) : ∃ a c, v = .slice a n c ∧ Ytb B a n c l w := by
  have hy := Yt.of_own h
  obtain ⟨h1, h2⟩ := h
  rcases h2 with ⟨rfl, rfl⟩ | ⟨g, cap, cur, rfl, hB, hg, hr⟩
  · exact ⟨none, 0, rfl, hn, hy, fun _ x e => by cases e⟩
  · exact ⟨_, _, rfl, hn, hy, fun _ x e => by injection e with e; subst e; exact ⟨hB, heap_lt hg⟩⟩
set_option maxHeartbeats 1000000 in
set_option maxRecDepth 100000 in
theorem log_clone (a : Option Addr) (n c : Nat) (l : List UInt8) (w : World) (hb : Yt (.slice a n c) l w) (hbig : l.length ≤ 140737488355328) :
    Calls Try.prog 39 #[.slice a n c] w fun e w' => ∃ a' n' c', e = .returned (.slice a' n' c') ∧ Ytb w.heap.size a' n' c' l w' ∧ Below w.heap.size w w' := by
  have hn : n = l.length := by obtain ⟨_, _, e⟩ := hb.form; injection e
  cases a with
  | none =>
    have hl : l = [] := by
      rcases hb with ⟨_, _, _, e⟩ | ⟨g, off, cap, e, _⟩
      · exact e
      · injection e with e1; cases e1
    subst hl
    have q22 : ∀ (w : World) (a : Option Addr) (n c n' c' : Nat), (binOp .eql 39 (.slice a n c) (.slice none n' c')).run Try.prog w = .ok (.bool a.isNone) w := fun w a n c n' c' => Lib.run_eql_slice_nil w _ _ a n c n' c' Try.underlying39
    clear hb hn hbig
    go_enter Try.func39, Try.ntmps39
    go_wp2
    go_ret
    exact ⟨none, 0, 0, rfl, ⟨rfl, .inl ⟨_, _, rfl, rfl⟩, fun h => absurd h (by decide)⟩, Below.refl _ _⟩
  | some a =>
    obtain ⟨i0, hi0, hz0, hz1, hz2⟩ := info_parts info5k
    have hnil : ∀ (wx : World), (binOp .eql 39 (.slice (some a) n c) (.slice none 0 0)).run Try.prog wx = .ok (.bool false) wx := fun wx => Lib.run_eql_slice_nil wx _ _ _ n c 0 0 Try.underlying39
    have hsrc := (hb.keep ((Below.refl _ w).alloc (Nat.le_refl _) (.cells #[] 5))).src
    rw [← hn] at hsrc
    have HS := Lib.hid hsrc
    have HN := Lib.hid hn
    clear hb hsrc hn
    go_enter Try.func39, Try.ntmps39
    go_wp2_with (at_builtin; refine wpList_append_src _ rfl _ _ 39 39 rfl w.heap.size 5 i0 (.int .u8 0) 1 1 Try.underlying39 hi0 hz0 hz1 hz2 rfl _ 0 [] rfl (World.ownsRow_made w #[] 0 (Nat.le_refl _) (Nat.zero_le _) rfl) _ n (yc l) rfl HS.out ?ca ?cb ?cc ?_)
    case ca => have := HN.out; unfold maxLen; omega
    case cb => have := HN.out; omega
    case cc => simp
    intro v' w1 hown hgrow _
    have hB : Below w.heap.size w w1 := ((Below.refl _ w).alloc (Nat.le_refl _) _).grown hgrow (by simp) (fun k hk => by simp [Value.ownBlock] at hk; omega)
    obtain ⟨a2, c2, rfl, hY⟩ := own_ytb hown HN.out
    go_wp2
    go_ret
    exact ⟨a2, n, c2, rfl, hY, hB⟩
/-! ### reads of a log -/
set_option maxHeartbeats 1000000 in
theorem log_head {gl g : Nat} {ha : Option Addr} {hc : Nat} {ba : Option Addr} {bc : Nat} {vs : List Value} {Y : Nat → Prop} {L : Lm.Lg} {W : World} (h : Lk gl g ha hc ba bc vs Y L W) (hb : L.h.body.length ≤ 32) :
    Calls Try.prog 11 #[.pointer (some ⟨gl, 0, none⟩)] W fun e w' => ∃ a n c, e = .returned (.slice a n c) ∧ Ytb W.heap.size a n c L.h.body w' ∧ Below W.heap.size W w' := by
  have c5 := h.c5
  have HC := Lib.hid (log_clone ha _ hc L.h.body W h.hy (by omega))
  generalize L.h.body.length = m at c5 HC hb
  generalize L.h.body = bd at HC ⊢
  clear h
  go_enter Try.func11, Try.ntmps11
  go_wp2_with fail
  refine HC.out.mono ?_
  rintro e w1 ⟨a, n, c, rfl, hY, hB⟩
  go_wp2
  go_ret
  exact ⟨a, n, c, rfl, hY, hB⟩
set_option maxHeartbeats 1000000 in
theorem log_epoch {gl g : Nat} {ha : Option Addr} {hc : Nat} {ba : Option Addr} {bc : Nat} {vs : List Value} {Y : Nat → Prop} {L : Lm.Lg} {W : World} (h : Lk gl g ha hc ba bc vs Y L W) :
    Calls Try.prog 14 #[.pointer (some ⟨gl, 0, none⟩)] W fun e w' => e = .returned (.int .i64 (L.h.epoch : Int)) ∧ W = w' := by
  have c3 := h.c3
  generalize (L.h.epoch : Int) = E at c3 ⊢
  clear h
  go_enter Try.func14, Try.ntmps14
  go_wp2
  go_ret
  exact ⟨rfl, rfl⟩
set_option maxHeartbeats 1000000 in
theorem log_room {gl g : Nat} {ha : Option Addr} {hc : Nat} {ba : Option Addr} {bc : Nat} {vs : List Value} {Y : Nat → Prop} {L : Lm.Lg} {W : World} (h : Lk gl g ha hc ba bc vs Y L W) (hf : L.frames ≤ 1000) (ht : L.at_ ≤ 1000) :
    Calls Try.prog 13 #[.pointer (some ⟨gl, 0, none⟩)] W fun e w' => e = .returned (.int .i64 (if L.down = true then 0 else (L.frames : Int) - (L.at_ : Int))) ∧ ∃ k, w' = W.drewN k := by
  have c1 := h.c1; have c7 := h.c7; have c8 := h.c8
  obtain ⟨D, hD⟩ : ∃ D, D = L.down := ⟨_, rfl⟩
  obtain ⟨R, hR⟩ : ∃ R : Int, R = (L.frames : Int) - (L.at_ : Int) := ⟨_, rfl⟩
  have hw : wrap64 ((L.frames : Int) - (L.at_ : Int)) = R := by rw [hR]; unfold wrap64; omega
  rw [← hD, ← hR]
  rw [← hD] at c8
  generalize (L.frames : Int) = F at c1 hw
  generalize (L.at_ : Int) = A at c7 hw
  clear h hD hR hf ht
  cases D with
  | true =>
    go_enter Try.func13, Try.ntmps13
    go_wp2
    go_ret
    exact ⟨rfl, 0, rfl⟩
  | false =>
    go_enter Try.func13, Try.ntmps13
    go_wp2
    go_quiet (fail)
    all_goals go_wp2
    all_goals go_ret
    all_goals exact ⟨rfl, _, rfl⟩
set_option maxHeartbeats 1000000 in
theorem log_framesOf (a : Option Addr) (n c : Nat) (W : World) (hn : n ≤ 65536) :
    Calls Try.prog 37 #[.slice a n c] W fun e w' => e = .returned (.int .i64 ((max 1 ((n + 45) / 46) : Nat) : Int)) ∧ W = w' := by
  obtain ⟨M, hM⟩ : ∃ M : Int, M = ((max 1 ((n + 45) / 46) : Nat) : Int) := ⟨_, rfl⟩
  have HA : Hid (1 < ((n : Int) + 46 - 1) / 46 → M = ((n : Int) + 46 - 1) / 46) := fun h => by rw [hM]; omega
  have HB : Hid (((n : Int) + 46 - 1) / 46 ≤ 1 → M = 1) := fun h => by rw [hM]; omega
  rw [← hM]
  clear hM
  go_enter Try.func37, Try.ntmps37
  go_wp2
  case inl =>
    have hm := HA.out h
    go_ret
    exact ⟨by rw [hm]; rfl, rfl⟩
  case inr =>
    have hm := HB.out h
    go_ret
    exact ⟨by rw [hm]; rfl, rfl⟩
/-! ### a head, a frame -/
/-- a head as the package has it -/
def hdK (n ep ba : Int) (v : Value) : Value := .agg #[.int .i64 n, .int .i64 ep, .int .i64 ba, v]
set_option maxHeartbeats 2000000 in
set_option maxRecDepth 100000 in
theorem log_next (n ep ba : Int) (a : Option Addr) (m c : Nat) (W : World) (h1 : 0 ≤ n ∧ n ≤ 9223372036854775806) (h2 : 0 ≤ ep ∧ ep ≤ 4294967296) :
    Calls Try.prog 32 #[hdK n ep ba (.slice a m c)] W fun e w' => e = .returned (hdK (n + 1) (ep + 1) ba (.slice a m c)) ∧ Below W.heap.size W w' := by
  obtain ⟨n1, hn1⟩ : ∃ n1, n1 = n + 1 := ⟨_, rfl⟩
  obtain ⟨e1, he1⟩ : ∃ e1, e1 = ep + 1 := ⟨_, rfl⟩
  have hw1 : wrap64 (n + 1) = n1 := by rw [hn1]; unfold wrap64; omega
  have hw2 : wrap64 (ep + 1) = e1 := by rw [he1]; unfold wrap64; omega
  rw [← hn1, ← he1]
  clear hn1 he1 h1 h2
  unfold hdK
  go_enter Try.func32, Try.ntmps32
  go_wp2
  refine bodyPost_ret (v := .agg #[.int .i64 n1, .int .i64 e1, .int .i64 ba, .slice a m c]) ?_ rfl ?_
  · exact results_cell_row rfl _ _ (W.heap.size + 1) 74 _ (0, 0) _ rfl (heap_alloc2_new _ _ _) Try.underlying74 rfl (by kernel_rfl)
  · exact ⟨rfl, ((Below.refl _ W).alloc (Nat.le_refl _) _).alloc (by simp) _⟩
set_option maxHeartbeats 2000000 in
set_option maxRecDepth 100000 in
theorem log_follows (e1 k1 e2 k2 ep : Int) (l1 l2 : Bool) (v1 v2 : Value) (_o1 : v1.oneCell' = true) (_o2 : v2.oneCell' = true) (W : World) :
    Calls Try.prog 50 #[.agg #[.int .i64 e1, .int .i64 k1, .bool l1, v1], .agg #[.int .i64 e2, .int .i64 k2, .bool l2, v2], .int .i64 ep] W fun e w' => e = .returned (.bool (!(!l2 && decide (e1 ≠ e2)) && (decide (1 ≤ e1) && decide (e2 ≤ e1) && decide (e1 ≤ ep)))) ∧ Below W.heap.size W w' := by
  obtain ⟨R, hR⟩ : ∃ R, R = (!(!l2 && decide (e1 ≠ e2)) && (decide (1 ≤ e1) && decide (e2 ≤ e1) && decide (e1 ≤ ep))) := ⟨_, rfl⟩
  have HR := Lib.hid hR
  rw [← hR]
  clear hR
  go_enter Try.func50, Try.ntmps50
  go_wp2
  all_goals go_ret
  all_goals refine ⟨?_, ((Below.refl _ W).alloc (Nat.le_refl _) _).alloc (by simp) _⟩
  all_goals
    rw [HR.out]
    simp_all
    try omega
/-! ### on nil -/
set_option maxHeartbeats 1000000 in
theorem log_nOpen (W : World) (frames : Int) : Calls Try.prog 7 #[.pointer none, .int .i64 frames] W fun e w' => e = .returned (.tuple #[.pointer none, .int .i64 1]) ∧ Below W.heap.size W w' := by
  go_enter Try.func7, Try.ntmps7
  go_wp2
  go_ret2
  exact ⟨rfl, Below.refl _ _⟩
set_option maxHeartbeats 1000000 in
theorem log_nAppend (W : World) : Calls Try.prog 9 #[.pointer none, .slice none 0 0] W fun e w' => e = .returned (.int .i64 1) ∧ Below W.heap.size W w' := by
  go_enter Try.func9, Try.ntmps9
  go_wp2
  go_ret
  exact ⟨rfl, Below.refl _ _⟩
set_option maxHeartbeats 1000000 in
theorem log_nReset (W : World) : Calls Try.prog 10 #[.pointer none, .slice none 0 0] W fun e w' => e = .returned (.int .i64 1) ∧ Below W.heap.size W w' := by
  go_enter Try.func10, Try.ntmps10
  go_wp2
  go_ret
  exact ⟨rfl, Below.refl _ _⟩
set_option maxHeartbeats 1000000 in
theorem log_nHead (W : World) : Calls Try.prog 11 #[.pointer none] W fun e w' => ∃ a c, e = .returned (.slice a 0 c) ∧ Below W.heap.size W w' := by
  go_enter Try.func11, Try.ntmps11
  go_wp2
  go_ret
  exact ⟨_, _, rfl, Below.refl _ _⟩
set_option maxHeartbeats 1000000 in
theorem log_nBatches (W : World) : Calls Try.prog 12 #[.pointer none] W fun e w' => ∃ a c, e = .returned (.slice a 0 c) ∧ Below W.heap.size W w' := by
  go_enter Try.func12, Try.ntmps12
  go_wp2
  go_ret
  exact ⟨_, _, rfl, Below.refl _ _⟩
set_option maxHeartbeats 1000000 in
theorem log_nRoom (W : World) : Calls Try.prog 13 #[.pointer none] W fun e w' => e = .returned (.int .i64 0) ∧ Below W.heap.size W w' := by
  go_enter Try.func13, Try.ntmps13
  go_wp2
  go_ret
  exact ⟨rfl, Below.refl _ _⟩
set_option maxHeartbeats 1000000 in
theorem log_nEpoch (W : World) : Calls Try.prog 14 #[.pointer none] W fun e w' => e = .returned (.int .i64 0) ∧ Below W.heap.size W w' := by
  go_enter Try.func14, Try.ntmps14
  go_wp2
  go_ret
  exact ⟨rfl, Below.refl _ _⟩
end Go.Proofs.Ytofbignggadkiaa
