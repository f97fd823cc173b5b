/- Layer 7 in plain words: a device and a log behind the acts of LogPlays. -/
import Derived.Test.YtofbignggadkiaaLogBnd
import Derived.Test.YtofbignggadkiaaLogHr
import Derived.Test.YtofbignggadkiaaLogRo
import Derived.Test.YtofbignggadkiaaLogTxt
namespace Go.Proofs.Ytofbignggadkiaa
namespace Lm
/-- a device behind i acts -/
structure Plv (n i : Nat) (d : Sm.Dv) : Prop where
  ok : Sm.Ok d
  k : d.kept.length = n
  w : d.ws.length ≤ 10 * i + 2
  c0 : 0 ≤ d.calls
  c1 : d.calls ≤ 10 * (i : Int) + 2
  l0 : -1 ≤ d.left
  l1 : d.left ≤ 9223372036854775807
theorem Plv.dl {n i : Nat} {d : Sm.Dv} (h : Plv n i d) (hn : n ≤ 200) (hi : i ≤ 45) : Dl d :=
  ⟨by have := h.w; omega, h.c0, by have := h.c1; omega, h.l0, h.l1, by have := h.k; omega⟩
theorem Plv.mono {n i : Nat} {d : Sm.Dv} (h : Plv n i d) : Plv n (i + 1) d :=
  ⟨h.ok, h.k, by have := h.w; omega, h.c0, by have := h.c1; omega, h.l0, h.l1⟩
theorem Plv.grow {n i m : Nat} {d d' : Sm.Dv} (h : Plv n i d) (g : Grow m d d') (hm : m ≤ 10) : Plv n (i + 1) d' :=
  ⟨g.ok, by rw [g.k, h.k], by have := g.w; have := h.w; omega, by have := g.c0; have := h.c0; omega, by have := g.c1; have := h.c1; omega, g.l0, g.l1⟩
theorem plv_new (n : Nat) {d' : Sm.Dv} (g : Grow 2 (Sm.new n) d') : Plv n 0 d' :=
  ⟨g.ok, by rw [g.k]; show (List.replicate n (Sm.full [])).length = n; rw [List.length_replicate], by have := g.w; show _ ≤ 2; exact this, by have := g.c0; exact this, by have h := g.c1; have h2 : d'.calls ≤ (0 : Int) + (2 : Nat) := h; omega, g.l0, g.l1⟩
theorem Plv.bound {n i : Nat} {d : Sm.Dv} (h : Plv n i d) (x : Int) (hx : x ≤ 9223372036854775807) : Plv n (i + 1) (Sm.bound d x) :=
  ⟨Sm.ok_bound h.ok x, h.k, by have := h.w; show d.ws.length ≤ _; omega, h.c0, by have := h.c1; show d.calls ≤ _; omega, by show -1 ≤ max x 0; omega, by show max x 0 ≤ _; omega⟩
theorem Plv.crash {n i : Nat} {d : Sm.Dv} (h : Plv n i d) (ts : List Int) : Plv n i (Sm.crash d ts) :=
  ⟨Sm.ok_crash h.ok ts, by show (Sm.torn d.kept d.ws ts).length = n; rw [Sm.torn_len]; exact h.k, Nat.zero_le _, h.c0, h.c1, by show (-1 : Int) ≤ -1; omega, by show (-1 : Int) ≤ _; omega⟩
theorem append_grow10 {g : Lg} {d : Sm.Dv} (b : List UInt8) (ho : Sm.Ok d) (l0 : -1 ≤ d.left) (l1 : d.left ≤ 9223372036854775807) (hb : b.length ≤ 400 ∨ 65536 < b.length) : Grow 10 d (append g d b).2.1 := by
  unfold append
  split
  · exact Grow.refl ho l0 l1 _
  split
  · exact Grow.refl ho l0 l1 _
  split
  · exact Grow.refl ho l0 l1 _
  rename_i h1 h2 h3
  have hp := putF_grow g.h.epoch (parts b) g.at_ d ho l0 l1
  have hl := parts_len b
  have hp2 := hp.le (show (parts b).length + 1 ≤ 10 by omega)
  split <;> exact hp2
theorem append_h (g : Lg) (d : Sm.Dv) (b : List UInt8) : (append g d b).1.h = g.h := by
  unfold append
  repeat' split
  all_goals rfl
theorem reset_h (g : Lg) (d : Sm.Dv) (b : List UInt8) : (reset g d b).1.h.n ≤ g.h.n + 1 := by
  unfold reset
  repeat' split
  all_goals first | exact Nat.le_succ _ | exact Nat.le_refl _
/-- a device and its log behind i acts -/
structure Plp (n i : Nat) (d : Sm.Dv) (L : Lg) : Prop where
  v : Plv n i d
  k : Lok L d
  n : L.h.n ≤ 4611686018427387904 + i
theorem Plp.append {n i : Nat} {d : Sm.Dv} {L : Lg} (h : Plp n i d L) (b : List UInt8) (hb : b.length ≤ 400 ∨ 65536 < b.length) : Plp n (i + 1) (append L d b).2.1 (append L d b).1 :=
  ⟨h.v.grow (append_grow10 b h.v.ok h.v.l0 h.v.l1 hb) (by omega), (append_grow h.k b h.v.ok h.v.l0 h.v.l1).2, by rw [append_h]; have := h.n; omega⟩
theorem Plp.reset {n i : Nat} {d : Sm.Dv} {L : Lg} (h : Plp n i d L) (b : List UInt8) : Plp n (i + 1) (reset L d b).2.1 (reset L d b).1 :=
  ⟨h.v.grow (reset_grow h.k b h.v.ok h.v.l0 h.v.l1).1 (by omega), (reset_grow h.k b h.v.ok h.v.l0 h.v.l1).2, by have := reset_h L d b; have := h.n; omega⟩
theorem Plp.bound {n i : Nat} {d : Sm.Dv} {L : Lg} (h : Plp n i d L) (x : Int) (hx : x ≤ 9223372036854775807) : Plp n (i + 1) (Sm.bound d x) L :=
  ⟨h.v.bound x hx, h.k.dev rfl, by have := h.n; omega⟩
theorem Plp.write {n i : Nat} {d : Sm.Dv} {L : Lg} (h : Plp n i d L) (x : Int) (b : List UInt8) : Plp n (i + 1) (Sm.write d x b).1 L := by
  have g := grow_write h.v.ok h.v.l0 h.v.l1 x b
  exact ⟨h.v.grow g (by omega), h.k.dev g.k, by have := h.n; omega⟩
theorem Plp.crash {n i : Nat} {d : Sm.Dv} {L : Lg} (h : Plp n i d L) (ts : List Int) : Plp n i (Sm.crash d ts) L :=
  ⟨h.v.crash ts, h.k.dev (by rw [(h.v.crash ts).k, h.v.k]), h.n⟩
theorem Plp.openNo {n i : Nat} {d : Sm.Dv} {L : Lg} (h : Plp n i d L) (fr : Int) : Plp n (i + 1) (open_ d fr).2.1 L := by
  have g := (open_grow fr h.v.ok h.v.l0 h.v.l1).1
  exact ⟨h.v.grow g (by omega), h.k.dev g.k, by have := h.n; omega⟩
theorem Plp.openOk {n i : Nat} {d : Sm.Dv} {L L' : Lg} (h : Plp n i d L) (fr : Int) (e : (open_ d fr).1 = some L') : Plp n (i + 1) (open_ d fr).2.1 L' := by
  have g := open_grow fr h.v.ok h.v.l0 h.v.l1
  exact ⟨h.v.grow g.1 (by omega), (g.2 L' e).1, by have := (g.2 L' e).2; omega⟩
theorem plp_new (n : Nat) {L : Lg} (fr : Int) (e : (open_ (Sm.new n) fr).1 = some L) : Plp n 0 (open_ (Sm.new n) fr).2.1 L := by
  have g := open_grow (d := Sm.new n) fr (Sm.ok_new n) (by show (-1 : Int) ≤ -1; omega) (by show (-1 : Int) ≤ _; omega)
  exact ⟨plv_new n g.1, (g.2 L e).1, (g.2 L e).2⟩
theorem open_none {d : Sm.Dv} {fr : Int} (e : (open_ d fr).1 = none) : (open_ d fr).2.2 ≠ 0 := by
  unfold open_ at e ⊢
  split at e
  · rename_i h; rw [if_pos h]; show (2 : Int) ≠ 0; decide
  rename_i h1
  rw [if_neg h1]
  split at e
  · rename_i h; rw [if_pos h]; show (60 : Int) ≠ 0; decide
  rename_i h2
  rw [if_neg h2]
  split at e
  · rename_i h; rw [if_pos h]; exact h
  · cases e
theorem open_some {d : Sm.Dv} {fr : Int} {L : Lg} (e : (open_ d fr).1 = some L) : (open_ d fr).2.2 = 0 := by
  rcases open_code d fr with h | h
  · rw [h] at e; cases e
  · exact h
end Lm
end Go.Proofs.Ytofbignggadkiaa
/- Layer 7: what is too long is refused, however long. -/
namespace Go.Proofs.Ytofbignggadkiaa
open Go.RowKit

theorem Sm.check_big (d : Sm.Dv) (i : Int) {n : Nat} (h : 64 < n) : Sm.check d i n = 2 := by
  unfold Sm.check; rw [if_pos (.inr (.inr h))]
theorem Sm.write_big (d : Sm.Dv) (i : Int) {l : List UInt8} (h : 64 < l.length) : Sm.write d i l = (d, 2) := by
  unfold Sm.write; rw [Sm.check_big d i h, if_neg (by decide)]
set_option maxHeartbeats 1000000 in
theorem dev_writeB {g : Nat} {d : Sm.Dv} {F : Nat → Prop} {W : World} (i : Int) (a : Option Addr) (m c : Nat) (hd : DevK g d F W) (hm : 64 < m) :
    Calls Try.prog 20 #[.pointer (some ⟨g, 0, none⟩), .int .i64 i, .slice a m c] W fun e w' => e = .returned (.int .i64 2) ∧ W = w' := by
  obtain ⟨kb, nb, wa, wc, lim, lf, nw, h, hv, rfl⟩ := hd
  have HF := Lib.hid (sec_fault g kb nb wa wc lim lf nw d i m W h)
  rw [Sm.check_big d i hm] at HF
  clear h hv hm
  go_enter Try.func20, Try.ntmps20
  go_wp2_with fail
  refine HF.out.mono ?_
  rintro e w1 ⟨rfl, rfl⟩
  go_wp2
  go_ret
  exact ⟨rfl, rfl⟩
set_option maxHeartbeats 1000000 in
theorem ref6_checkB (g kb kc wc : Nat) (wa : Option Addr) (d : Sm.Dv) (i : Int) (s : ByteArray) (w : World) (h : Dr g kb kc wa wc d w) (hz : 64 < s.size) (hz2 : (s.size : Int) ≤ 9223372036854775807) :
    Calls Try.prog 44 #[.pointer (some ⟨g, 0, none⟩), .int .i64 i, .string s] w fun e w' => e = .returned (.int .i64 2) ∧ w = w' := by
  obtain ⟨N, hN⟩ : ∃ N, N = d.kept.length := ⟨_, rfl⟩
  have c0 := h.c0
  rw [← hN] at c0
  obtain ⟨z, hzz⟩ : ∃ z, z = s.size := ⟨_, rfl⟩
  have q : decide ((64 : Int) < (s.size : Int)) = true := by simp; omega
  clear hN h hzz
  by_cases h0 : i < 0
  · have q : decide (i < 0) = true := by simpa using h0
    go_enter Try.func44, Try.ntmps44
    go_wp2
    go_ret
    exact ⟨rfl, rfl⟩
  have q0 : decide (i < 0) = false := by simpa using h0
  by_cases h1 : (N : Int) ≤ i
  · have q : decide ((N : Int) ≤ i) = true := by simpa using h1
    go_enter Try.func44, Try.ntmps44
    go_wp2
    go_ret
    exact ⟨rfl, rfl⟩
  have q1 : decide ((N : Int) ≤ i) = false := by simpa using h1
  go_enter Try.func44, Try.ntmps44
  go_wp2
  go_ret
  exact ⟨rfl, rfl⟩
set_option maxHeartbeats 1000000 in
theorem ref6_writeB (g kb kc wc : Nat) (wa : Option Addr) (d : Sm.Dv) (i : Int) (s : ByteArray) (w : World) (h : Dr g kb kc wa wc d w) (hz : 64 < s.size) (hz2 : (s.size : Int) ≤ 9223372036854775807) :
    Calls Try.prog 21 #[.pointer (some ⟨g, 0, none⟩), .int .i64 i, .string s] w fun e w' => e = .returned (.int .i64 2) ∧ w = w' := by
  have HC := Lib.hid (ref6_checkB g kb kc wc wa d i s w h hz hz2)
  clear h hz hz2
  go_enter Try.func21, Try.ntmps21
  go_wp2_with fail
  refine HC.out.mono ?_
  rintro e w1 ⟨rfl, rfl⟩
  go_wp2
  go_ret
  exact ⟨rfl, rfl⟩
theorem Lm.append_big (L : Lm.Lg) (d : Sm.Dv) {b : List UInt8} (h : 65536 < b.length) : Lm.append L d b = (L, d, if L.down = true then 60 else 2) := by
  unfold Lm.append
  by_cases hd : L.down = true
  · rw [if_pos hd, if_pos hd]
  · rw [if_neg hd, if_pos h, if_neg hd]
theorem Lm.reset_big (L : Lm.Lg) (d : Sm.Dv) {b : List UInt8} (h : 32 < b.length) : Lm.reset L d b = (L, d, if L.down = true then 60 else 2) := by
  unfold Lm.reset
  by_cases hd : L.down = true
  · rw [if_pos hd, if_pos hd]
  · rw [if_neg hd, if_pos h, if_neg hd]
set_option maxHeartbeats 1000000 in
theorem ref7_appendB {gl gr lc : Nat} {la : Option Addr} {L : Lm.Lg} {w : World} (s : ByteArray) (h : Rl gl gr la lc L w) (hz : 65536 < s.size) (hz2 : (s.size : Int) ≤ 9223372036854775807) :
    Calls Try.prog 16 #[.pointer (some ⟨gl, 0, none⟩), .string s] w fun e w' => e = .returned (.int .i64 (if L.down = true then 60 else 2)) ∧ w = w' := by
  have c8 := h.c8
  have hlt := h.lt
  cases hd : L.down with
  | true =>
    rw [hd] at c8
    clear h hd hz
    go_enter Try.func16, Try.ntmps16
    go_wp2
    go_ret
    exact ⟨rfl, rfl⟩
  | false =>
    rw [hd] at c8
    have q : decide ((65536 : Int) < (s.size : Int)) = true := by simp; omega
    clear h hd hz
    go_enter Try.func16, Try.ntmps16
    go_wp2
    go_ret
    exact ⟨rfl, rfl⟩
set_option maxHeartbeats 1000000 in
theorem ref7_resetB {gl gr lc : Nat} {la : Option Addr} {L : Lm.Lg} {w : World} (s : ByteArray) (h : Rl gl gr la lc L w) (hz : 32 < s.size) (hz2 : (s.size : Int) ≤ 9223372036854775807) :
    Calls Try.prog 17 #[.pointer (some ⟨gl, 0, none⟩), .string s] w fun e w' => e = .returned (.int .i64 (if L.down = true then 60 else 2)) ∧ w = w' := by
  have c8 := h.c8
  have hlt := h.lt
  cases hd : L.down with
  | true =>
    rw [hd] at c8
    clear h hd hz
    go_enter Try.func17, Try.ntmps17
    go_wp2
    go_ret
    exact ⟨rfl, rfl⟩
  | false =>
    rw [hd] at c8
    have q : decide ((32 : Int) < (s.size : Int)) = true := by simp; omega
    clear h hd hz
    go_enter Try.func17, Try.ntmps17
    go_wp2
    go_ret
    exact ⟨rfl, rfl⟩
/-! ### long or short -/
theorem ref6_writeA (g kb kc wc : Nat) (wa : Option Addr) (d : Sm.Dv) (i : Int) (l : List UInt8) (w : World) (h : Dr g kb kc wa wc d w) (hw : d.ws.length ≤ 1000) (hl : (l.length : Int) ≤ 9223372036854775807) (hc : 0 ≤ d.calls ∧ d.calls ≤ 1000000) (hf : -1 ≤ d.left ∧ d.left ≤ 9223372036854775807) :
    Calls Try.prog 21 #[.pointer (some ⟨g, 0, none⟩), .int .i64 i, .string (st l)] w fun e w' => e = .returned (.int .i64 (Sm.write d i l).2) ∧ Only (fun k => k = g) w w' ∧ ∃ wa' wc', Dr g kb kc wa' wc' (Sm.write d i l).1 w' ∧ ∀ x, wa' = some x → wa = some x ∨ (w.heap.size ≤ x.block ∧ x.block < w'.heap.size) := by
  by_cases hb : 64 < l.length
  · rw [Sm.write_big d i hb]
    refine (ref6_writeB g kb kc wc wa d i (st l) w h (by rw [st_size]; exact hb) (by rw [st_size]; exact hl)).mono ?_
    rintro e w' ⟨rfl, rfl⟩
    exact ⟨rfl, Only.refl _ _, wa, wc, h, fun x e => .inl e⟩
  · exact ref6_write g kb kc wc wa d i l w h hw (by omega) hc hf
theorem ref7_appendA {gl gr kb kc wc lc : Nat} {wa la : Option Addr} {L : Lm.Lg} {d : Sm.Dv} {w : World} (b : List UInt8) (h : Rl gl gr la lc L w) (hd : Dr gr kb kc wa wc d w) (hne : gl ≠ gr ∧ gl ≠ kb) (hnl : ∀ x, la = some x → x.block ≠ gr ∧ x.block ≠ kb) (hnw : ∀ x, wa = some x → x.block ≠ gl) (hD : Dl d) (hok : Sm.Ok d) (hL : Lok L d) (hbig : (b.length : Int) ≤ 9223372036854775807) :
    Calls Try.prog 16 #[.pointer (some ⟨gl, 0, none⟩), .string (st b)] w fun e w' => RxR gl gr kb kc wa la (Lm.append L d b) w e w' := by
  by_cases hb : 65536 < b.length
  · rw [Lm.append_big L d hb]
    refine (ref7_appendB (st b) h (by rw [st_size]; exact hb) (by rw [st_size]; exact hbig)).mono ?_
    rintro e w' ⟨rfl, rfl⟩
    exact ⟨rfl, Only.refl _ _, wa, wc, la, lc, hd, fun x e => .inl e, h, fun x e => .inl e⟩
  · exact ref7_append b h hd hne hnl hnw hD hok hL (by omega)
theorem ref7_resetA {gl gr kb kc wc lc : Nat} {wa la : Option Addr} {L : Lm.Lg} {d : Sm.Dv} {w : World} (b : List UInt8) (h : Rl gl gr la lc L w) (hd : Dr gr kb kc wa wc d w) (hne : gl ≠ gr ∧ gl ≠ kb) (hnl : ∀ x, la = some x → x.block ≠ gr ∧ x.block ≠ kb) (hnw : ∀ x, wa = some x → x.block ≠ gl) (hD : Dw d)
    (hn : (L.h.n : Int) ≤ 4611686018427388904) (he : (L.h.epoch : Int) ≤ 4294967295) (hbig : (b.length : Int) ≤ 9223372036854775807) :
    Calls Try.prog 17 #[.pointer (some ⟨gl, 0, none⟩), .string (st b)] w fun e w' => RxR gl gr kb kc wa la (Lm.reset L d b) w e w' := by
  by_cases hb : 32 < b.length
  · rw [Lm.reset_big L d hb]
    refine (ref7_resetB (st b) h (by rw [st_size]; exact hb) (by rw [st_size]; exact hbig)).mono ?_
    rintro e w' ⟨rfl, rfl⟩
    exact ⟨rfl, Only.refl _ _, wa, wc, la, lc, hd, fun x e => .inl e, h, fun x e => .inl e⟩
  · exact ref7_reset b h hd hne hnl hnw hD hn he (by omega)
theorem dev_writeA {g : Nat} {d : Sm.Dv} {F : Nat → Prop} {W : World} (i : Int) (a : Option Addr) (n c : Nat) (l : List UInt8) (hd : DevK g d F W) (hl : Lim d) (hy : Yt (.slice a n c) l W) (hx : 0 < l.length → ∀ x, a = some x → ¬ F x.block) :
    Calls Try.prog 20 #[.pointer (some ⟨g, 0, none⟩), .int .i64 i, .slice a n c] W fun e w' => e = .returned (.int .i64 (Sm.write d i l).2) ∧ Did DevK g F (Sm.write d i l).1 W w' := by
  have hn : n = l.length := by obtain ⟨_, _, e⟩ := hy.form; injection e
  by_cases hb : 64 < l.length
  · rw [Sm.write_big d i hb]
    refine (dev_writeB i a n c hd (by omega)).mono ?_
    rintro e w' ⟨rfl, rfl⟩
    exact ⟨rfl, F, hd, Only.refl _ _, fun k hk => .inl hk⟩
  · exact secCon.write i a n c l hd hl hy (by omega) hx
end Go.Proofs.Ytofbignggadkiaa
/- Layer 7: a device and its log beside the reference's, all apart from each other, for LogPlays. -/
namespace Go.Proofs.Ytofbignggadkiaa
open Go.RowKit

/-- where the reference's device and log lie -/
def Rq (gr kb : Nat) (wa : Option Addr) (yl : Nat) (la : Option Addr) : Nat → Prop := fun k => k = gr ∨ k = kb ∨ (∃ x, wa = some x ∧ x.block = k) ∨ k = yl ∨ ∃ x, la = some x ∧ x.block = k
structure Ry (B gr kb kc : Nat) (wa : Option Addr) (wc yl : Nat) (la : Option Addr) (lc : Nat) (d : Sm.Dv) (L : Lm.Lg) (W : World) : Prop where
  r : Dr gr kb kc wa wc d W
  y : Rl yl gr la lc L W
  o : ∀ k, Rq gr kb wa yl la k → B ≤ k ∧ k < W.heap.size
  ne : yl ≠ gr ∧ yl ≠ kb
  nl : ∀ x, la = some x → x.block ≠ gr ∧ x.block ≠ kb
  nw : ∀ x, wa = some x → x.block ≠ yl
theorem Ry.keepO {B gr kb kc wc yl lc : Nat} {wa la : Option Addr} {d : Sm.Dv} {L : Lm.Lg} {W W' : World} {p : Nat → Prop} (h : Ry B gr kb kc wa wc yl la lc d L W) (ho : Only p W W') (hp : ∀ k, Rq gr kb wa yl la k → ¬ p k) : Ry B gr kb kc wa wc yl la lc d L W' :=
  ⟨h.r.keepO ho (hp gr (.inl rfl)) (hp kb (.inr (.inl rfl))) (fun x e => hp x.block (.inr (.inr (.inl ⟨x, e, rfl⟩)))),
    h.y.keepO ho (hp yl (.inr (.inr (.inr (.inl rfl))))) (fun x e => hp x.block (.inr (.inr (.inr (.inr ⟨x, e, rfl⟩))))),
    fun k hk => ⟨(h.o k hk).1, by have := (h.o k hk).2; have := ho.size; omega⟩, h.ne, h.nl, h.nw⟩
theorem Ry.below {B gr kb kc wc yl lc : Nat} {wa la : Option Addr} {d : Sm.Dv} {L : Lm.Lg} {W W' : World} (h : Ry B gr kb kc wa wc yl la lc d L W) (hb : Below W.heap.size W W') : Ry B gr kb kc wa wc yl la lc d L W' :=
  h.keepO (only_of hb) (fun k hk hp => by have := (h.o k hk).2; omega)
/-- all four: the program's device and log, the reference's -/
structure P4 (Dev : Nat → Sm.Dv → (Nat → Prop) → World → Prop) (Log : Nat → Nat → Lm.Lg → (Nat → Prop) → World → Prop) (B g gl : Nat) (d1 : Sm.Dv) (L1 : Lm.Lg) (F G : Nat → Prop) (gr kb kc : Nat) (wa : Option Addr) (wc yl : Nat) (la : Option Addr) (lc : Nat) (d2 : Sm.Dv) (L2 : Lm.Lg) (W : World) : Prop where
  p : Ld Dev Log B g gl d1 L1 F G W
  q : Ry B gr kb kc wa wc yl la lc d2 L2 W
  ap : ∀ k, Rq gr kb wa yl la k → ¬ F k ∧ ¬ G k
/-- where all four lie -/
def Pf (F G : Nat → Prop) (gr kb : Nat) (wa : Option Addr) (yl : Nat) (la : Option Addr) : Nat → Prop := fun k => (F k ∨ G k) ∨ Rq gr kb wa yl la k
section
variable {Dev : Nat → Sm.Dv → (Nat → Prop) → World → Prop} {Log : Nat → Nat → Lm.Lg → (Nat → Prop) → World → Prop} (V : SecCon Dev) (U : LogCon Dev Log)
variable {B g gl gr kb kc wc yl lc : Nat} {wa la : Option Addr} {d1 d2 : Sm.Dv} {L1 L2 : Lm.Lg} {F G : Nat → Prop} {W : World}
include V U
theorem P4.lt (h : P4 Dev Log B g gl d1 L1 F G gr kb kc wa wc yl la lc d2 L2 W) : ∀ k, Pf F G gr kb wa yl la k → k < W.heap.size := by
  intro k hk
  rcases hk with hk | hk
  · exact h.p.lt V U k hk
  · exact (h.q.o k hk).2
omit V U in
theorem P4.ge (h : P4 Dev Log B g gl d1 L1 F G gr kb kc wa wc yl la lc d2 L2 W) : ∀ k, Pf F G gr kb wa yl la k → B ≤ k := by
  intro k hk
  rcases hk with (hk | hk) | hk
  · exact h.p.of k hk
  · exact h.p.og k hk
  · exact (h.q.o k hk).1
theorem P4.keepO {W' : World} {p : Nat → Prop} (h : P4 Dev Log B g gl d1 L1 F G gr kb kc wa wc yl la lc d2 L2 W) (ho : Only p W W') (hp : ∀ k, Pf F G gr kb wa yl la k → ¬ p k) : P4 Dev Log B g gl d1 L1 F G gr kb kc wa wc yl la lc d2 L2 W' :=
  ⟨⟨V.keep h.p.d ho (fun k hk => hp k (.inl (.inl hk))), U.keep h.p.l ho (fun k hk => hp k (.inl (.inr hk))), h.p.of, h.p.og, h.p.ap⟩, h.q.keepO ho (fun k hk => hp k (.inr hk)), h.ap⟩
theorem P4.below {W' : World} (h : P4 Dev Log B g gl d1 L1 F G gr kb kc wa wc yl la lc d2 L2 W) (hb : Below W.heap.size W W') : P4 Dev Log B g gl d1 L1 F G gr kb kc wa wc yl la lc d2 L2 W' :=
  h.keepO V U (only_of hb) (fun k hk hp => by have := h.lt V U k hk; omega)
omit V U in
/-- behind a call of the program -/
theorem P4.one {gl' : Nat} {d1' : Sm.Dv} {L1' : Lm.Lg} {F' G' : Nat → Prop} {W' : World} (h : P4 Dev Log B g gl d1 L1 F G gr kb kc wa wc yl la lc d2 L2 W) (hl : Ld Dev Log B g gl' d1' L1' F' G' W') (hc : Ch F G F' G' W W') :
    Hid (P4 Dev Log B g gl' d1' L1' F' G' gr kb kc wa wc yl la lc d2 L2 W') ∧ Hid (∀ k, Pf F' G' gr kb wa yl la k → Pf F G gr kb wa yl la k ∨ W.heap.size ≤ k) := by
  refine ⟨⟨hl, h.q.keepO hc.1 (fun k hk hp => ?_), fun k hk => ⟨fun hf => ?_, fun hg => ?_⟩⟩, fun k hk => ?_⟩
  · have := h.ap k hk
    rcases hp with hp | hp
    · exact this.1 hp
    · exact this.2 hp
  · rcases hc.2 k (.inl hf) with (h1 | h1) | h1
    · exact (h.ap k hk).1 h1
    · exact (h.ap k hk).2 h1
    · have := (h.q.o k hk).2; omega
  · rcases hc.2 k (.inr hg) with (h1 | h1) | h1
    · exact (h.ap k hk).1 h1
    · exact (h.ap k hk).2 h1
    · have := (h.q.o k hk).2; omega
  · rcases hk with hk | hk
    · rcases hc.2 k hk with h1 | h1
      · exact .inl (.inl h1)
      · exact .inr h1
    · exact .inl (.inr hk)
/-- behind a call of the reference -/
theorem P4.two {wa' la' : Option Addr} {wc' yl' lc' : Nat} {d2' : Sm.Dv} {L2' : Lm.Lg} {w W' : World} (h : P4 Dev Log B g gl d1 L1 F G gr kb kc wa wc yl la lc d2 L2 W) (ho : Only (fun k => k = yl ∨ Fp gr kb k) W W') (hd : Dr gr kb kc wa' wc' d2' W')
    (hwa : ∀ x, wa' = some x → wa = some x ∨ (W.heap.size ≤ x.block ∧ x.block < W'.heap.size)) (hl : Rl yl' gr la' lc' L2' W') (hla : ∀ x, la' = some x → la = some x ∨ W.heap.size ≤ x.block) (hy : yl' = yl ∨ W.heap.size ≤ yl') (hnw : ∀ x, wa' = some x → x.block ≠ yl') (hw : Below B w W) (hB : B ≤ W.heap.size) :
    Hid (P4 Dev Log B g gl d1 L1 F G gr kb kc wa' wc' yl' la' lc' d2' L2' W') ∧ Hid (Below B w W') ∧ Hid (∀ k, Pf F G gr kb wa' yl' la' k → Pf F G gr kb wa yl la k ∨ W.heap.size ≤ k) := by
  have hsz := ho.size
  have hrq : ∀ k, Rq gr kb wa' yl' la' k → (Rq gr kb wa yl la k ∨ W.heap.size ≤ k) ∧ k < W'.heap.size := by
    intro k hk
    rcases hk with rfl | rfl | ⟨x, e, rfl⟩ | rfl | ⟨x, e, rfl⟩
    · exact ⟨.inl (.inl rfl), by have := h.q.r.lt; omega⟩
    · exact ⟨.inl (.inr (.inl rfl)), by have := (h.q.o k (.inr (.inl rfl))).2; omega⟩
    · rcases hwa x e with h1 | h1
      · exact ⟨.inl (.inr (.inr (.inl ⟨x, h1, rfl⟩))), by have := (h.q.o x.block (.inr (.inr (.inl ⟨x, h1, rfl⟩)))).2; omega⟩
      · exact ⟨.inr h1.1, h1.2⟩
    · rcases hy with rfl | h1
      · exact ⟨.inl (.inr (.inr (.inr (.inl rfl)))), hl.lt⟩
      · exact ⟨.inr h1, hl.lt⟩
    · rcases hla x e with h1 | h1
      · exact ⟨.inl (.inr (.inr (.inr (.inr ⟨x, h1, rfl⟩)))), hl.la_lt x e⟩
      · exact ⟨.inr h1, hl.la_lt x e⟩
  have hpp : ∀ k, (k = yl ∨ Fp gr kb k) → Rq gr kb wa yl la k := by
    intro k hk
    rcases hk with rfl | rfl | rfl
    · exact .inr (.inr (.inr (.inl rfl)))
    · exact .inl rfl
    · exact .inr (.inl rfl)
  have hgr : gr < W.heap.size := h.q.r.lt
  have hkb : kb < W.heap.size := (h.q.o kb (.inr (.inl rfl))).2
  have hbb : Below B w W' := hw.trans (only_bel ho hB (fun k hk hp => by have := (h.q.o k (hpp k hp)).1; omega))
  refine ⟨⟨⟨V.keep h.p.d ho (fun k hk hp => (h.ap k (hpp k hp)).1 hk), U.keep h.p.l ho (fun k hk hp => (h.ap k (hpp k hp)).2 hk), h.p.of, h.p.og, h.p.ap⟩, ⟨hd, hl, fun k hk => ?_, ?_, fun x e => ?_, hnw⟩, fun k hk => ?_⟩, hbb, fun k hk => ?_⟩
  · obtain ⟨h1 | h1, h2⟩ := hrq k hk
    · exact ⟨(h.q.o k h1).1, h2⟩
    · exact ⟨by omega, h2⟩
  · rcases hy with rfl | h1
    · exact h.q.ne
    · exact ⟨by omega, by omega⟩
  · rcases hla x e with h1 | h1
    · exact h.q.nl x h1
    · exact ⟨by omega, by omega⟩
  · rcases (hrq k hk).1 with h1 | h1
    · exact h.ap k h1
    · exact ⟨fun hf => by have := h.lt V U k (.inl (.inl hf)); omega, fun hg => by have := h.lt V U k (.inl (.inr hg)); omega⟩
  · rcases hk with hk | hk
    · exact .inl (.inl hk)
    · rcases (hrq k hk).1 with h1 | h1
      · exact .inl (.inr h1)
      · exact .inr h1
/-- behind a call of the reference's log -/
theorem P4.log2 {r : Lm.Lg × Sm.Dv × Int} {w W' : World} {e : Ending} (h : P4 Dev Log B g gl d1 L1 F G gr kb kc wa wc yl la lc d2 L2 W) (hr : RxR yl gr kb kc wa la r W e W') (hw : Below B w W) (hB : B ≤ W.heap.size) :
    ∃ wa' wc' la' lc', Hid (P4 Dev Log B g gl d1 L1 F G gr kb kc wa' wc' yl la' lc' r.2.1 r.1 W') ∧ Hid (Below B w W') ∧ Hid (∀ k, Pf F G gr kb wa' yl la' k → Pf F G gr kb wa yl la k ∨ W.heap.size ≤ k) := by
  obtain ⟨_, ho, wa', wc', la', lc', hd, hwa, hl, hla⟩ := hr
  refine ⟨wa', wc', la', lc', h.two V U ho hd hwa hl (fun x e => ?_) (.inl rfl) (fun x e => ?_) hw hB⟩
  · rcases hla x e with h1 | h1
    · exact .inl h1
    · exact .inr h1.1
  · rcases hwa x e with h1 | h1
    · exact h.q.nw x h1
    · have := h.q.y.lt; omega
/-- behind a call of the reference's device -/
theorem P4.dev2 {wa' : Option Addr} {wc' : Nat} {d2' : Sm.Dv} {w W' : World} (h : P4 Dev Log B g gl d1 L1 F G gr kb kc wa wc yl la lc d2 L2 W) (ho : Only (Fp gr kb) W W') (hd : Dr gr kb kc wa' wc' d2' W') (hwa : ∀ x, wa' = some x → wa = some x ∨ (W.heap.size ≤ x.block ∧ x.block < W'.heap.size)) (hw : Below B w W) (hB : B ≤ W.heap.size) :
    Hid (P4 Dev Log B g gl d1 L1 F G gr kb kc wa' wc' yl la lc d2' L2 W') ∧ Hid (Below B w W') ∧ Hid (∀ k, Pf F G gr kb wa' yl la k → Pf F G gr kb wa yl la k ∨ W.heap.size ≤ k) := by
  refine h.two V U (ho.mono (fun k _ e => .inr e)) hd hwa (h.q.y.keepO ho (fun e => ?_) (fun x e e2 => ?_)) (fun x e => .inl e) (.inl rfl) (fun x e => ?_) hw hB
  · rcases e with e | e
    · exact h.q.ne.1 e
    · exact h.q.ne.2 e
  · rcases e2 with e2 | e2
    · exact (h.q.nl x e).1 e2
    · exact (h.q.nl x e).2 e2
  · rcases hwa x e with h1 | h1
    · exact h.q.nw x h1
    · have := h.q.y.lt; omega
/-- behind the reference's Open -/
theorem P4.open2 {fr : Int} {L : Lm.Lg} {w W' : World} {e : Ending} (h : P4 Dev Log B g gl d1 L1 F G gr kb kc wa wc yl la lc d2 L2 W) (hr : OpR gr kb kc wa d2 fr W e W') (he : (Lm.open_ d2 fr).1 = some L) (hw : Below B w W) (hB : B ≤ W.heap.size) :
    ∃ wa' wc' yl' la' lc', e = .returned (.tuple #[.pointer (some ⟨yl', 0, none⟩), .int .i64 0]) ∧ Hid (P4 Dev Log B g gl d1 L1 F G gr kb kc wa' wc' yl' la' lc' (Lm.open_ d2 fr).2.1 L W') ∧ Hid (Below B w W') ∧ Hid (∀ k, Pf F G gr kb wa' yl' la' k → Pf F G gr kb wa yl la k ∨ W.heap.size ≤ k) := by
  obtain ⟨ho, wa', wc', hd, hwa, hm⟩ := hr
  rw [he] at hm
  obtain ⟨yl', la', lc', he2, hl, hy, hla, hnw⟩ := hm
  exact ⟨wa', wc', yl', la', lc', he2, h.two V U (ho.mono (fun k _ e => .inr e)) hd hwa hl (fun x e => .inr (hla x e)) (.inr hy) hnw hw hB⟩
theorem P4.open2No {fr : Int} {w W' : World} {e : Ending} (h : P4 Dev Log B g gl d1 L1 F G gr kb kc wa wc yl la lc d2 L2 W) (hr : OpR gr kb kc wa d2 fr W e W') (he : (Lm.open_ d2 fr).1 = none) (hw : Below B w W) (hB : B ≤ W.heap.size) :
    e = .returned (.tuple #[.pointer none, .int .i64 (Lm.open_ d2 fr).2.2]) ∧ ∃ wa' wc', Hid (P4 Dev Log B g gl d1 L1 F G gr kb kc wa' wc' yl la lc (Lm.open_ d2 fr).2.1 L2 W') ∧ Hid (Below B w W') ∧ Hid (∀ k, Pf F G gr kb wa' yl la k → Pf F G gr kb wa yl la k ∨ W.heap.size ≤ k) := by
  obtain ⟨ho, wa', wc', hd, hwa, hm⟩ := hr
  rw [he] at hm
  exact ⟨hm, wa', wc', h.dev2 V U ho hd hwa hw hB⟩
end
theorem own_keep7 {w w' : World} {B n : Nat} {e : TypeId} {v : Value} {xs : List Value} {p : Nat → Prop} (h : w.ownsRow B e 1 v n xs) (ho : Only p w w') (hp : ∀ x, v.ownBlock = some x → ¬ p x) : w'.ownsRow B e 1 v n xs := by
  obtain ⟨h1, h2⟩ := h
  refine ⟨h1, ?_⟩
  rcases h2 with h2 | ⟨b, cap, cur, rfl, hB, hg, rest⟩
  · exact .inl h2
  · exact .inr ⟨b, cap, cur, rfl, hB, by rw [ho.block b (heap_lt hg) (hp b rfl)]; exact hg, rest⟩
/-- a row of bytes of one's own, apart from P -/
structure Ow7 (B : Nat) (P : Nat → Prop) (v : Value) (n : Nat) (l : List UInt8) (W : World) : Prop where
  own : W.ownsRow B 5 1 v n (yc l)
  ap : ∀ k, v.ownBlock = some k → ¬ P k
theorem Ow7.step {B : Nat} {P P' p : Nat → Prop} {v : Value} {n : Nat} {l : List UInt8} {W W' : World} (h : Ow7 B P v n l W) (ho : Only p W W') (hp : ∀ k, p k → P k) (ha : ∀ k, P' k → P k ∨ W.heap.size ≤ k) : Ow7 B P' v n l W' :=
  ⟨own_keep7 h.own ho (fun k e hk => h.ap k e (hp k hk)), fun k e hk => by
    rcases ha k hk with h4 | h4
    · exact h.ap k e h4
    · have := (h.own.lt k e).2; omega⟩
/-- the same, whatever it holds -/
structure Rw7 (B : Nat) (P : Nat → Prop) (v : Value) (n : Nat) (W : World) : Prop where
  own : ∃ (E : TypeId) (xs : List Value), W.ownsRow B E 1 v n xs ∧ ∀ u ∈ xs, ∃ y : Int, u = .int .u8 y
  ap : ∀ k, v.ownBlock = some k → ¬ P k
theorem Ow7.rw {B : Nat} {P : Nat → Prop} {v : Value} {n : Nat} {l : List UInt8} {W : World} (h : Ow7 B P v n l W) : Rw7 B P v n W :=
  ⟨⟨_, yc l, h.own, fun u hu => by obtain ⟨b, _, rfl⟩ := List.mem_map.1 hu; exact ⟨_, rfl⟩⟩, h.ap⟩
theorem Rw7.cell {B : Nat} {P : Nat → Prop} {a : Option Addr} {n c : Nat} {W : World} (h : Rw7 B P (.slice a n c) n W) {j : Nat} (hj : j < n) : ∃ (b : Nat) (y : Int), a = some ⟨b, 0, none⟩ ∧ n ≤ c ∧ W.cell? ⟨b, j, none⟩ = some (.int .u8 y) ∧ (∀ o, W.frozen? ⟨b, o, none⟩ = false) ∧ b < W.heap.size ∧ B ≤ b := by
  obtain ⟨⟨_, xs, ho, hi⟩, _⟩ := h
  have hx : xs.length = n := by have := ho.1; omega
  have ho2 := ho
  rcases ho2.2 with ⟨e, _⟩ | ⟨b, cap, cur, e, hB, hg, hnc, _⟩
  · injection e with _ e2 _; omega
  · injection e with e1 e2 e3
    subst e1
    obtain ⟨y, hy⟩ := hi (xs[j]'(by omega)) (List.getElem_mem _)
    have hc := ho.cells (g := b) rfl j (.int .u8 y) (by rw [List.getElem?_eq_getElem (by omega), hy])
    rw [add_pl, Nat.zero_add] at hc
    exact ⟨b, y, rfl, by omega, hc, fun o => Lib.frozen_of_heap hg o, heap_lt hg, hB⟩
theorem Rw7.set {B : Nat} {P : Nat → Prop} {b n c : Nat} {W : World} (h : Rw7 B P (.slice (some ⟨b, 0, none⟩) n c) n W) (j : Nat) (y : Int) : Rw7 B P (.slice (some ⟨b, 0, none⟩) n c) n (W.setCell ⟨b, j, none⟩ (.int .u8 y)) := by
  obtain ⟨⟨_, xs, ho, hi⟩, ha⟩ := h
  refine ⟨⟨_, _, (ho.stored j _).1, fun u hu => ?_⟩, ha⟩
  rcases List.mem_or_eq_of_mem_set hu with h1 | h1
  · exact hi u h1
  · exact ⟨y, h1⟩
theorem info1b7 : (Try.prog.info? 5).map (fun i => (i.zero, i.size, i.bytes)) = some (some (.int .u8 0), 1, 1) := by kernel_rfl
theorem own_nil7 (w : World) (n : Nat) (hn : n = w.heap.size) : (w.alloc (.cells #[] 5)).ownsRow n 5 1 (.slice (some ⟨n, 0, none⟩) 0 0) 0 [] := by
  subst hn; exact ⟨rfl, .inr ⟨_, 0, #[], rfl, Nat.le_refl _, heap_alloc_new w _, Nat.le_refl _, by unfold maxLen; decide, rfl, rfl⟩⟩
theorem it_far {w : World} {a : Option Addr} {n c : Nat} {l : List Int} (h : It (.slice a n c) l w) : 0 < l.length → ∀ x, a = some x → x.block < w.heap.size := by
  intro h0 x e
  rcases h with ⟨_, _, _, e2⟩ | ⟨g, off, cap, e2, _, hg, _⟩
  · rw [e2] at h0; simp at h0
  · injection e2 with e3 _ _
    rw [e] at e3
    injection e3 with e3
    subst e3
    exact hg
theorem own_max7 {w : World} {B : Nat} {e : TypeId} {size n : Nat} {v : Value} {xs : List Value} (h : w.ownsRow B e size v n xs) : (n : Int) ≤ 9223372036854775807 := by
  have h1 : n ≤ maxLen := by
    rcases h.2 with ⟨_, e⟩ | ⟨_, cap, _, _, _, _, hc, hm, _⟩
    · omega
    · omega
  unfold maxLen at h1
  omega
theorem Rw7.max {B : Nat} {P : Nat → Prop} {v : Value} {n : Nat} {W : World} (h : Rw7 B P v n W) : (n : Int) ≤ 9223372036854775807 := by
  obtain ⟨⟨_, _, ho, _⟩, _⟩ := h
  exact own_max7 ho
end Go.Proofs.Ytofbignggadkiaa
/- Layer 7: what stands during an act of LogPlays: the four objects, the bytes of one's own, the act. -/
namespace Go.Proofs.Ytofbignggadkiaa
open Go.RowKit

structure St7 (Dev : Nat → Sm.Dv → (Nat → Prop) → World → Prop) (Log : Nat → Nat → Lm.Lg → (Nat → Prop) → World → Prop) (w : World) (gO gB : Nat) (oc : Array Value) (v : Value) (nb : Nat) (sb : List UInt8) (g gl : Nat) (d1 : Sm.Dv) (L1 : Lm.Lg) (F G : Nat → Prop) (gr kb kc : Nat) (wa : Option Addr) (wc yl : Nat) (la : Option Addr) (lc : Nat) (d2 : Sm.Dv) (L2 : Lm.Lg) (W : World) : Prop where
  p : P4 Dev Log w.heap.size g gl d1 L1 F G gr kb kc wa wc yl la lc d2 L2 W
  b : Below w.heap.size w W
  o : Ow7 gB (Pf F G gr kb wa yl la) v nb sb W
  c : W.heap[gO]? = some (.cells oc 46 (0, 0))
  n : ¬ Pf F G gr kb wa yl la gO
section
variable {Dev : Nat → Sm.Dv → (Nat → Prop) → World → Prop} {Log : Nat → Nat → Lm.Lg → (Nat → Prop) → World → Prop} (V : SecCon Dev) (U : LogCon Dev Log)
variable {w : World} {gO gB : Nat} {oc : Array Value} {v : Value} {nb : Nat} {sb : List UInt8} {g gl gr kb kc wc yl lc : Nat} {wa la : Option Addr} {d1 d2 : Sm.Dv} {L1 L2 : Lm.Lg} {F G : Nat → Prop} {W : World}
theorem St7.hB (h : St7 Dev Log w gO gB oc v nb sb g gl d1 L1 F G gr kb kc wa wc yl la lc d2 L2 W) : w.heap.size ≤ W.heap.size := h.b.size
theorem St7.step {gl' wc' yl' lc' : Nat} {wa' la' : Option Addr} {d1' d2' : Sm.Dv} {L1' L2' : Lm.Lg} {F' G' : Nat → Prop} {W' : World} {p : Nat → Prop} (h : St7 Dev Log w gO gB oc v nb sb g gl d1 L1 F G gr kb kc wa wc yl la lc d2 L2 W) (ho : Only p W W') (hp : ∀ k, p k → Pf F G gr kb wa yl la k)
    (hp4 : P4 Dev Log w.heap.size g gl' d1' L1' F' G' gr kb kc wa' wc' yl' la' lc' d2' L2' W') (hb : Below w.heap.size w W') (hf : ∀ k, Pf F' G' gr kb wa' yl' la' k → Pf F G gr kb wa yl la k ∨ W.heap.size ≤ k) :
    St7 Dev Log w gO gB oc v nb sb g gl' d1' L1' F' G' gr kb kc wa' wc' yl' la' lc' d2' L2' W' :=
  ⟨hp4, hb, h.o.step ho hp hf, by rw [ho.block gO (heap_lt h.c) (fun e => h.n (hp gO e))]; exact h.c, fun e => by
    rcases hf gO e with e | e
    · exact h.n e
    · have := heap_lt h.c; omega⟩
theorem St7.one {gl' : Nat} {d1' : Sm.Dv} {L1' : Lm.Lg} {F' G' : Nat → Prop} {W' : World} (h : St7 Dev Log w gO gB oc v nb sb g gl d1 L1 F G gr kb kc wa wc yl la lc d2 L2 W) (hl : Hid (Ld Dev Log w.heap.size g gl' d1' L1' F' G' W')) (hb : Hid (Below w.heap.size w W')) (hc : Hid (Ch F G F' G' W W')) :
    Hid (St7 Dev Log w gO gB oc v nb sb g gl' d1' L1' F' G' gr kb kc wa wc yl la lc d2 L2 W') := by
  obtain ⟨hp, hf⟩ := h.p.one hl.out hc.out
  exact h.step hc.out.1 (fun k hk => .inl hk) hp.out hb.out hf.out
theorem pf_y {k : Nat} (hk : k = yl ∨ Fp gr kb k) : Pf F G gr kb wa yl la k := by
  rcases hk with rfl | rfl | rfl
  · exact .inr (.inr (.inr (.inr (.inl rfl))))
  · exact .inr (.inl rfl)
  · exact .inr (.inr (.inl rfl))
include V U
theorem St7.below {W' : World} (h : St7 Dev Log w gO gB oc v nb sb g gl d1 L1 F G gr kb kc wa wc yl la lc d2 L2 W) (hb : Below W.heap.size W W') : St7 Dev Log w gO gB oc v nb sb g gl d1 L1 F G gr kb kc wa wc yl la lc d2 L2 W' :=
  ⟨h.p.below V U hb, h.b.trans (hb.mono h.b.size), ⟨own_keep h.o.own hb, h.o.ap⟩, by rw [hb.block gO (heap_lt h.c)]; exact h.c, h.n⟩
theorem St7.log2 {r : Lm.Lg × Sm.Dv × Int} {W' : World} {e : Ending} (h : St7 Dev Log w gO gB oc v nb sb g gl d1 L1 F G gr kb kc wa wc yl la lc d2 L2 W) (hr : RxR yl gr kb kc wa la r W e W') :
    e = .returned (.int .i64 r.2.2) ∧ ∃ wa' wc' la' lc', Hid (St7 Dev Log w gO gB oc v nb sb g gl d1 L1 F G gr kb kc wa' wc' yl la' lc' r.2.1 r.1 W') := by
  obtain ⟨wa', wc', la', lc', hp, hb, hf⟩ := h.p.log2 V U hr h.b h.hB
  exact ⟨hr.1, wa', wc', la', lc', h.step hr.2.1 (fun k hk => pf_y hk) hp.out hb.out hf.out⟩
theorem St7.dev2 {wa' : Option Addr} {wc' : Nat} {d2' : Sm.Dv} {W' : World} (h : St7 Dev Log w gO gB oc v nb sb g gl d1 L1 F G gr kb kc wa wc yl la lc d2 L2 W) (ho : Only (Fp gr kb) W W') (hd : Dr gr kb kc wa' wc' d2' W') (hwa : ∀ x, wa' = some x → wa = some x ∨ (W.heap.size ≤ x.block ∧ x.block < W'.heap.size)) :
    Hid (St7 Dev Log w gO gB oc v nb sb g gl d1 L1 F G gr kb kc wa' wc' yl la lc d2' L2 W') := by
  obtain ⟨hp, hb, hf⟩ := h.p.dev2 V U ho hd hwa h.b h.hB
  exact h.step ho (fun k hk => pf_y (.inr hk)) hp.out hb.out hf.out
theorem St7.open2 {fr : Int} {L : Lm.Lg} {W' : World} {e : Ending} (h : St7 Dev Log w gO gB oc v nb sb g gl d1 L1 F G gr kb kc wa wc yl la lc d2 L2 W) (hr : OpR gr kb kc wa d2 fr W e W') (he : (Lm.open_ d2 fr).1 = some L) :
    ∃ yl', e = .returned (.tuple #[.pointer (some ⟨yl', 0, none⟩), .int .i64 0]) ∧ ∃ wa' wc' la' lc', Hid (St7 Dev Log w gO gB oc v nb sb g gl d1 L1 F G gr kb kc wa' wc' yl' la' lc' (Lm.open_ d2 fr).2.1 L W') := by
  obtain ⟨wa', wc', yl', la', lc', he2, hp, hb, hf⟩ := h.p.open2 V U hr he h.b h.hB
  exact ⟨yl', he2, wa', wc', la', lc', h.step hr.1 (fun k hk => pf_y (.inr hk)) hp.out hb.out hf.out⟩
theorem St7.open2No {fr : Int} {W' : World} {e : Ending} (h : St7 Dev Log w gO gB oc v nb sb g gl d1 L1 F G gr kb kc wa wc yl la lc d2 L2 W) (hr : OpR gr kb kc wa d2 fr W e W') (he : (Lm.open_ d2 fr).1 = none) :
    e = .returned (.tuple #[.pointer none, .int .i64 (Lm.open_ d2 fr).2.2]) ∧ ∃ wa' wc', Hid (St7 Dev Log w gO gB oc v nb sb g gl d1 L1 F G gr kb kc wa' wc' yl la lc (Lm.open_ d2 fr).2.1 L2 W') := by
  obtain ⟨he2, wa', wc', hp, hb, hf⟩ := h.p.open2No V U hr he h.b h.hB
  exact ⟨he2, wa', wc', h.step hr.1 (fun k hk => pf_y (.inr hk)) hp.out hb.out hf.out⟩
/-- the start: both have been opened -/
theorem p4_start {B : Nat} {d0 : Sm.Dv} {W' : World} {wa' : Option Addr} {wc' : Nat} (hp : Ld Dev Log B g gl d1 L1 F G W) (hr : Dr gr kb kc none 0 d0 W) (hg : B ≤ gr ∧ B ≤ kb) (hap : ∀ k, Fp gr kb k → ¬ F k ∧ ¬ G k) (ho : Only (Fp gr kb) W W') (hd : Dr gr kb kc wa' wc' d2 W')
    (hwa : ∀ x, wa' = some x → none = some x ∨ (W.heap.size ≤ x.block ∧ x.block < W'.heap.size)) (hl : Rl yl gr la lc L2 W') (hy : W.heap.size ≤ yl) (hla : ∀ x, la = some x → W.heap.size ≤ x.block) (hnw : ∀ x, wa' = some x → x.block ≠ yl) (_hB : B ≤ W.heap.size) :
    P4 Dev Log B g gl d1 L1 F G gr kb kc wa' wc' yl la lc d2 L2 W' := by
  have hkb : kb < W.heap.size := (hr.kr.lt kb rfl).2
  have hgr := hr.lt
  have hsz := ho.size
  have hw : ∀ x, wa' = some x → W.heap.size ≤ x.block ∧ x.block < W'.heap.size := fun x e => by
    rcases hwa x e with h | h
    · cases h
    · exact h
  have hlt := hp.lt V U
  have hrq : ∀ k, Rq gr kb wa' yl la k → Fp gr kb k ∨ (W.heap.size ≤ k ∧ k < W'.heap.size) := by
    intro k hk
    rcases hk with rfl | rfl | ⟨x, e, rfl⟩ | rfl | ⟨x, e, rfl⟩
    · exact .inl (.inl rfl)
    · exact .inl (.inr rfl)
    · exact .inr (hw x e)
    · exact .inr ⟨hy, hl.lt⟩
    · exact .inr ⟨hla x e, hl.la_lt x e⟩
  refine ⟨⟨V.keep hp.d ho (fun k hk hq => (hap k hq).1 hk), U.keep hp.l ho (fun k hk hq => (hap k hq).2 hk), hp.of, hp.og, hp.ap⟩, ⟨hd, hl, fun k hk => ?_, ⟨by omega, by omega⟩, fun x e => by have := hla x e; exact ⟨by omega, by omega⟩, hnw⟩, fun k hk => ?_⟩
  · rcases hrq k hk with (rfl | rfl) | h
    · exact ⟨hg.1, by omega⟩
    · exact ⟨hg.2, by omega⟩
    · exact ⟨by omega, h.2⟩
  · rcases hrq k hk with h | h
    · exact hap k h
    · exact ⟨fun hf => by have := hlt k (.inl hf); omega, fun hf => by have := hlt k (.inr hf); omega⟩
end
end Go.Proofs.Ytofbignggadkiaa
