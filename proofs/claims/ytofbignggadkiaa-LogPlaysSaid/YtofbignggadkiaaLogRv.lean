/- The reference's log in memory; its next. -/
import Derived.Test.YtofbignggadkiaaLogRef3
import Derived.Test.YtofbignggadkiaaLogDev
import Derived.Test.YtofbignggadkiaaLogBnd
import Derived.Test.YtofbignggadkiaaSecDid
import Derived.Deep.RegionHeld3
import Derived.BigRegion
import Derived.Test.YtofbignggadkiaaLogRef4
namespace Go.Proofs.Ytofbignggadkiaa
open Go.RowKit

/-- the reference's log in block gl, its list of batches at la, on the device in block gr -/
structure Rl (gl gr : Nat) (la : Option Addr) (lc : Nat) (L : Lm.Lg) (W : World) : Prop where
  c0 : W.cell? ⟨gl, 0, none⟩ = some (.pointer (some ⟨gr, 0, none⟩))
  c1 : W.cell? ⟨gl, 1, none⟩ = some (.int .i64 (L.frames : Int))
  c2 : W.cell? ⟨gl, 2, none⟩ = some (.int .i64 (L.h.n : Int))
  c3 : W.cell? ⟨gl, 3, none⟩ = some (.int .i64 (L.h.epoch : Int))
  c4 : W.cell? ⟨gl, 4, none⟩ = some (.int .i64 (L.h.base : Int))
  c5 : W.cell? ⟨gl, 5, none⟩ = some (.string (st L.h.body))
  c6 : W.cell? ⟨gl, 6, none⟩ = some (.slice la L.l.length lc)
  c7 : W.cell? ⟨gl, 7, none⟩ = some (.int .i64 (L.at_ : Int))
  c8 : W.cell? ⟨gl, 8, none⟩ = some (.bool L.down)
  fz : ∀ o, W.frozen? ⟨gl, o, none⟩ = false
  lt : gl < W.heap.size
  ls : W.ownsRow 0 9 1 (.slice la L.l.length lc) L.l.length (sc L.l)
  ne : ∀ x, la = some x → x.block ≠ gl
theorem Rl.la_lt {gl gr lc : Nat} {la : Option Addr} {L : Lm.Lg} {W : World} (h : Rl gl gr la lc L W) : ∀ x, la = some x → x.block < W.heap.size := fun x e => (h.ls.lt x.block (by rw [e]; rfl)).2
theorem Rl.keepO {gl gr lc : Nat} {la : Option Addr} {L : Lm.Lg} {W W' : World} {p : Nat → Prop} (h : Rl gl gr la lc L W) (ho : Only p W W') (hg : ¬ p gl) (hl : ∀ x, la = some x → ¬ p x.block) : Rl gl gr la lc L W' := by
  have hb := ho.block gl h.lt hg
  have hc : ∀ o, W'.cell? ⟨gl, o, none⟩ = W.cell? ⟨gl, o, none⟩ := fun o => by simp [World.cell?, hb]
  have hf : ∀ o, W'.frozen? ⟨gl, o, none⟩ = W.frozen? ⟨gl, o, none⟩ := fun o => by simp [World.frozen?, hb]
  refine ⟨(hc 0).trans h.c0, (hc 1).trans h.c1, (hc 2).trans h.c2, (hc 3).trans h.c3, (hc 4).trans h.c4, (hc 5).trans h.c5, (hc 6).trans h.c6, (hc 7).trans h.c7, (hc 8).trans h.c8, fun o => (hf o).trans (h.fz o), by have := h.lt; have := ho.size; omega, ?_, h.ne⟩
  obtain ⟨h1, h2⟩ := h.ls
  refine ⟨h1, ?_⟩
  rcases h2 with h2 | ⟨b, cap, cur, hv, hB, hg2, rest⟩
  · exact .inl h2
  · injection hv with e1 e2 e3
    exact .inr ⟨b, cap, cur, by rw [e1, e3], hB, by rw [ho.block b (heap_lt hg2) (hl _ e1)]; exact hg2, rest⟩
theorem Rl.below {gl gr lc : Nat} {la : Option Addr} {L : Lm.Lg} {W W' : World} (h : Rl gl gr la lc L W) (hb : Below W.heap.size W W') : Rl gl gr la lc L W' :=
  h.keepO (only_of hb) (by have := h.lt; omega) (fun x e => by have := h.la_lt x e; omega)
/-- the head of the reference's log is set -/
theorem Rl.setHead {gl gr lc : Nat} {la : Option Addr} {L : Lm.Lg} {W : World} (h : Rl gl gr la lc L W) (hh : Lm.Hd) :
    Rl gl gr la lc { L with h := hh } ((((W.setCell ⟨gl, 2, none⟩ (.int .i64 (hh.n : Int))).setCell ⟨gl, 3, none⟩ (.int .i64 (hh.epoch : Int))).setCell ⟨gl, 4, none⟩ (.int .i64 (hh.base : Int))).setCell ⟨gl, 5, none⟩ (.string (st hh.body))) := by
  have k : ∀ j v, j ≠ 2 → j ≠ 3 → j ≠ 4 → j ≠ 5 → W.cell? ⟨gl, j, none⟩ = some v → ((((W.setCell ⟨gl, 2, none⟩ (.int .i64 (hh.n : Int))).setCell ⟨gl, 3, none⟩ (.int .i64 (hh.epoch : Int))).setCell ⟨gl, 4, none⟩ (.int .i64 (hh.base : Int))).setCell ⟨gl, 5, none⟩ (.string (st hh.body))).cell? ⟨gl, j, none⟩ = some v := fun j v h2 h3 h4 h5 hv => by
    rw [cell_keep _ _ _ _ _ (Ne.symm h5), cell_keep _ _ _ _ _ (Ne.symm h4), cell_keep _ _ _ _ _ (Ne.symm h3), cell_keep _ _ _ _ _ (Ne.symm h2), hv]
  have hne : (Value.slice la L.l.length lc).ownBlock ≠ some gl := fun e => by
    cases la with
    | none => cases e
    | some a => injection e with e; exact h.ne a rfl e
  refine ⟨k 0 _ (by decide) (by decide) (by decide) (by decide) h.c0, k 1 _ (by decide) (by decide) (by decide) (by decide) h.c1, ?_, ?_, ?_, ?_, k 6 _ (by decide) (by decide) (by decide) (by decide) h.c6, k 7 _ (by decide) (by decide) (by decide) (by decide) h.c7, k 8 _ (by decide) (by decide) (by decide) (by decide) h.c8, fun o => by simp only [World.frozen?_setCell]; exact h.fz o, by simpa using h.lt, own_set (own_set (own_set (own_set h.ls _ hne) _ hne) _ hne) _ hne, h.ne⟩
  · rw [cell_keep _ _ _ _ _ (by decide), cell_keep _ _ _ _ _ (by decide), cell_keep _ _ _ _ _ (by decide)]; exact World.cell?_setCell_same _ _ _ h.c2
  · rw [cell_keep _ _ _ _ _ (by decide), cell_keep _ _ _ _ _ (by decide)]; exact World.cell?_setCell_same _ _ _ ((cell_keep _ _ _ _ _ (by decide)).trans h.c3)
  · rw [cell_keep _ _ _ _ _ (by decide)]; exact World.cell?_setCell_same _ _ _ ((cell_keep _ _ _ _ _ (by decide)).trans ((cell_keep _ _ _ _ _ (by decide)).trans h.c4))
  · exact World.cell?_setCell_same _ _ _ ((cell_keep _ _ _ _ _ (by decide)).trans ((cell_keep _ _ _ _ _ (by decide)).trans ((cell_keep _ _ _ _ _ (by decide)).trans h.c5)))
end Go.Proofs.Ytofbignggadkiaa
/- Layer 7: the parts of a batch with the word whether each is the last one, frames written till one fails; what changes, in two steps. -/
namespace Go.Proofs.Ytofbignggadkiaa
open Go.RowKit

theorem Only.trans' {p q : Nat → Prop} {a b c : World} (h : Only p a b) (k : Only q b c) (hq : ∀ j, q j → p j ∨ a.heap.size ≤ j) : Only p a c :=
  ⟨k.os.trans h.os, k.tape.trans h.tape, k.output.trans h.output, Nat.le_trans h.size k.size, fun j hj hp => (k.block j (Nat.lt_of_lt_of_le hj h.size) (fun e => by
    rcases hq j e with x | x
    · exact hp x
    · omega)).trans (h.block j hj hp)⟩
theorem only_cell (w : World) (g o : Nat) (v : Value) : Only (fun k => k = g) w (w.setCell ⟨g, o, none⟩ v) := Only.setCell (p := fun k => k = g) (Only.refl _ w) (q := ⟨g, o, none⟩) (.inl rfl) _
namespace Lm
theorem cut_more : ∀ (n m : Nat) (b : List UInt8), b.length ≤ n → b.length ≤ m → cut n b = cut m b
  | 0, 0, _, _, _ => rfl
  | 0, m + 1, b, h, _ => by
    have : ¬ 46 < b.length := by omega
    simp [cut, this]
  | n + 1, 0, b, _, h => by
    have : ¬ 46 < b.length := by omega
    simp [cut, this]
  | n + 1, m + 1, b, h1, h2 => by
    unfold cut
    by_cases hb : 46 < b.length
    · rw [if_pos hb, if_pos hb, cut_more n m (b.drop 46) (by rw [List.length_drop]; omega) (by rw [List.length_drop]; omega)]
    · rw [if_neg hb, if_neg hb]
theorem parts_long {b : List UInt8} (h : 46 < b.length) : parts b = b.take 46 :: parts (b.drop 46) := by
  unfold parts
  obtain ⟨n, hn⟩ : ∃ n, b.length = n + 1 := ⟨b.length - 1, by omega⟩
  rw [hn, cut, if_pos h, cut_more n (b.drop 46).length _ (by rw [List.length_drop]; omega) (Nat.le_refl _)]
theorem parts_short {b : List UInt8} (h : b.length ≤ 46) : parts b = [b] := by
  unfold parts
  cases hb : b.length with
  | zero => rfl
  | succ n => rw [cut, if_neg (by omega)]
/-- each part with the word whether it is the last one -/
def tg : List (List UInt8) → List (List UInt8 × Bool)
  | [] => []
  | p :: r => (p, r.isEmpty) :: tg r
theorem tg_len : ∀ l, (tg l).length = l.length
  | [] => rfl
  | _ :: r => by simp [tg, tg_len r]
theorem tg_long {b : List UInt8} (h : 46 < b.length) : tg (parts b) = (b.take 46, false) :: tg (parts (b.drop 46)) := by
  rw [parts_long h, tg]
  have := parts_ne (b.drop 46)
  cases hp : parts (b.drop 46) with
  | nil => exact absurd hp this
  | cons x r => rfl
theorem tg_short {b : List UInt8} (h : b.length ≤ 46) : tg (parts b) = [(b, true)] := by rw [parts_short h]; rfl
/-- frames are written till one fails -/
def wr (ep : Nat) : List (List UInt8 × Bool) → Nat → Sm.Dv → Sm.Dv × Int
  | [], _, d => (d, 0)
  | p :: r, k, d =>
    if (Sm.write d ((2 + k : Nat) : Int) (fsec ep k p.2 p.1)).2 ≠ 0 then Sm.write d ((2 + k : Nat) : Int) (fsec ep k p.2 p.1)
    else wr ep r (k + 1) (Sm.write d ((2 + k : Nat) : Int) (fsec ep k p.2 p.1)).1
theorem wr_put (ep : Nat) : ∀ (ps : List (List UInt8)) (k : Nat) (d : Sm.Dv), wr ep (tg ps) k d = put ep ps k d
  | [], _, _ => rfl
  | p :: r, k, d => by simp only [tg, wr, put, wr_put ep r]
theorem wr_snoc (ep : Nat) (x : List UInt8 × Bool) : ∀ (l : List (List UInt8 × Bool)) (k : Nat) (d : Sm.Dv), (wr ep l k d).2 = 0 → wr ep (l ++ [x]) k d = Sm.write (wr ep l k d).1 ((2 + (k + l.length) : Nat) : Int) (fsec ep (k + l.length) x.2 x.1)
  | [], k, d, _ => by
    simp only [List.nil_append, wr, List.length_nil, Nat.add_zero]
    by_cases h : (Sm.write d ((2 + k : Nat) : Int) (fsec ep k x.2 x.1)).2 = 0
    · rw [if_neg (fun c => c h)]; exact Prod.ext rfl h.symm
    · rw [if_pos h]
  | p :: r, k, d, h => by
    simp only [List.cons_append, wr] at h ⊢
    by_cases h1 : (Sm.write d ((2 + k : Nat) : Int) (fsec ep k p.2 p.1)).2 = 0
    · rw [if_neg (fun c => c h1)] at h ⊢
      rw [if_neg (fun c => c h1), wr_snoc ep x r (k + 1) _ h, List.length_cons, show k + 1 + r.length = k + (r.length + 1) by omega]
    · rw [if_pos h1] at h; exact absurd h h1
theorem wr_stop (ep : Nat) : ∀ (l m : List (List UInt8 × Bool)) (k : Nat) (d : Sm.Dv), (wr ep l k d).2 ≠ 0 → wr ep (l ++ m) k d = wr ep l k d
  | [], _, _, _, h => absurd rfl h
  | p :: r, m, k, d, h => by
    simp only [List.cons_append, wr] at h ⊢
    by_cases h1 : (Sm.write d ((2 + k : Nat) : Int) (fsec ep k p.2 p.1)).2 = 0
    · rw [if_neg (fun c => c h1)] at h ⊢
      rw [if_neg (fun c => c h1), wr_stop ep r m _ _ h]
    · rw [if_pos h1, if_pos h1]
end Lm
end Go.Proofs.Ytofbignggadkiaa
/- The reference's next: a head with an epoch more is written and flushed. -/
namespace Go.Proofs.Ytofbignggadkiaa
open Go.RowKit

/-- what is needed of a device that is written -/
structure Dw (d : Sm.Dv) : Prop where
  ok : Sm.Ok d
  w : d.ws.length ≤ 900
  c0 : 0 ≤ d.calls
  c1 : d.calls ≤ 900000
  l0 : -1 ≤ d.left
  l1 : d.left ≤ 9223372036854775807
theorem Dl.dw {d : Sm.Dv} (h : Dl d) (ho : Sm.Ok d) : Dw d := ⟨ho, by have := h.w; omega, h.c0, by have := h.c1; omega, h.l0, h.l1⟩
/-- what stands where the reference's next looks -/
def Sn (gl gr p : Nat) (n e b : Int) (S : ByteArray) (w' : World) : Prop :=
  w'.cell? ⟨gl, 0, none⟩ = some (.pointer (some ⟨gr, 0, none⟩)) ∧ w'.cell? ⟨p, 0, none⟩ = some (.int .i64 n) ∧ w'.cell? ⟨p, 1, none⟩ = some (.int .i64 e) ∧ w'.cell? ⟨p, 2, none⟩ = some (.int .i64 b) ∧ w'.cell? ⟨p, 3, none⟩ = some (.string S)
/-- what the reference's next leaves -/
def NxR (gl gr kb kc : Nat) (wa la : Option Addr) (lc : Nat) (L : Lm.Lg) (d : Sm.Dv) (hN : Lm.Hd) (w : World) (e : Ending) (w' : World) : Prop :=
  e = .returned (.int .i64 (Lm.next hN d).2) ∧ Only (fun k => k = gl ∨ Fp gr kb k) w w' ∧ ∃ wa' wc', Dr gr kb kc wa' wc' (Lm.next hN d).1 w' ∧ (∀ x, wa' = some x → wa = some x ∨ (w.heap.size ≤ x.block ∧ x.block < w'.heap.size)) ∧ Rl gl gr la lc (if (Lm.next hN d).2 = 0 then { L with h := hN } else L) w'
set_option maxHeartbeats 4000000 in
set_option maxRecDepth 100000 in
theorem ref7_nextN {gl gr kb kc wc lc : Nat} {wa la : Option Addr} {L : Lm.Lg} {d : Sm.Dv} {w : World} (b : List UInt8) (h : Rl gl gr la lc L w) (hd : Dr gr kb kc wa wc d w) (hne : gl ≠ gr ∧ gl ≠ kb) (hnl : ∀ x, la = some x → x.block ≠ gr ∧ x.block ≠ kb) (hnw : ∀ x, wa = some x → x.block ≠ gl) (hD : Dw d)
    (hn : (L.h.n : Int) ≤ 4611686018427388904) (he : (L.h.epoch : Int) ≤ 4294967295) (hb : b.length ≤ 32) :
    Calls Try.prog 36 #[.pointer (some ⟨gl, 0, none⟩), .int .i64 (-1), .string (st b)] w fun e w' => NxR gl gr kb kc wa la lc L d ⟨L.h.n + 1, L.h.epoch + 1, L.h.epoch + 1, b⟩ w e w' := by
  have c0 := h.c0; have c2 := h.c2; have c3 := h.c3
  have hlt := h.lt
  obtain ⟨hN, hhN⟩ : ∃ hN : Lm.Hd, hN = ⟨L.h.n + 1, L.h.epoch + 1, L.h.epoch + 1, b⟩ := ⟨_, rfl⟩
  rw [← hhN]
  obtain ⟨nI, hnI⟩ : ∃ nI : Int, nI = (L.h.n : Int) := ⟨_, rfl⟩
  obtain ⟨eI, heI⟩ : ∃ eI : Int, eI = (L.h.epoch : Int) := ⟨_, rfl⟩
  rw [← hnI] at c2; rw [← heI] at c3
  obtain ⟨n1, hn1⟩ : ∃ n1 : Int, n1 = nI + 1 := ⟨_, rfl⟩
  obtain ⟨e1, he1⟩ : ∃ e1 : Int, e1 = eI + 1 := ⟨_, rfl⟩
  have hw1 : IntKind.i64.wrap (nI + 1) = n1 := by rw [IntKind.wrap_i64]; omega
  have hw2 : IntKind.i64.wrap (eI + 1) = e1 := by rw [IntKind.wrap_i64]; omega
  obtain ⟨S, hS⟩ : ∃ S, S = st b := ⟨_, rfl⟩
  have hex : e1 ≤ 4294967296 := by omega
  have HHN := Lib.hid hhN; have HNI := Lib.hid hnI; have HEI := Lib.hid heI; have HN1 := Lib.hid hn1; have HE1 := Lib.hid he1; have H := Lib.hid h; have HD := Lib.hid hd; have HNE := Lib.hid hne; have HNL := Lib.hid hnl; have HNW := Lib.hid hnw; have HDW := Lib.hid hD; have HNB := Lib.hid hn; have HB32 := Lib.hid hb; have HS := Lib.hid hS
  rw [← hS]
  clear h hd hne hnl hnw hD hhN hnI heI hn1 he1 hn he hb hS 
  go_enter Try.func36, Try.ntmps36
  go_upto_region 1 with (fail)
  go_region
  obtain ⟨p, hp⟩ : ∃ p, p = w.heap.size := ⟨_, rfl⟩
  have HP := Lib.hid hp
  have hglp : gl < p := by omega
  go_upto_region 4 with (fail)
  obtain ⟨w2, hw2'⟩ : ∃ w2, w2 = (w.alloc (.cells #[.int .i64 n1, .int .i64 e1, .int .i64 e1, .string S] 55)).drew := ⟨_, rfl⟩
  have hb2 : Below w.heap.size w w2 := by rw [hw2']; exact ((Below.refl _ w).alloc (Nat.le_refl _) _).trans ((below_drew7 _).mono (by simp))
  have hq2 : w2.heap[p]? = some (.cells #[.int .i64 n1, .int .i64 e1, .int .i64 e1, .string S] 55 (0, 0)) := by
    rw [hw2', hp]; exact heap_alloc_new w _
  rw [← hw2', ← hp]
  have HB2 := Lib.hid hb2; have HQ2 := Lib.hid hq2
  have g0 : w2.cell? ⟨gl, 0, none⟩ = some (.pointer (some ⟨gr, 0, none⟩)) := (hb2.cell (p := ⟨gl, 0, none⟩) hlt).trans c0
  have q0 : w2.cell? ⟨p, 0, none⟩ = some (.int .i64 n1) := by rw [Lib.cell_of_heap hq2]; rfl
  have q1 : w2.cell? ⟨p, 1, none⟩ = some (.int .i64 e1) := by rw [Lib.cell_of_heap hq2]; rfl
  have q2 : w2.cell? ⟨p, 2, none⟩ = some (.int .i64 e1) := by rw [Lib.cell_of_heap hq2]; rfl
  have q3 : w2.cell? ⟨p, 3, none⟩ = some (.string S) := by rw [Lib.cell_of_heap hq2]; rfl
  have hpl := heap_lt hq2
  clear hw2' hp hb2 hq2 c0 c2 c3 hw1 hw2
  by_cases hover : 4294967295 < e1
  case pos =>
    have hop : Hid (Lm.next hN d = (d, 70)) := by
      show _ = _; unfold Lm.next; rw [if_pos (by rw [HHN.out]; show 4294967295 < L.h.epoch + 1; have := HE1.out; have := HEI.out; omega)]
    go_wp2
    go_ret
    unfold NxR
    rw [hop.out, if_neg (by show ¬ (70 : Int) = 0; decide)]
    exact ⟨rfl, (only_of HB2.out).mono (fun k hk e => absurd hk (by omega)), wa, wc, HD.out.keep HB2.out, fun x e => .inl e, H.out.below HB2.out⟩
  case neg =>
  obtain ⟨M, hM⟩ : ∃ M : Int, M = ((hN.n % 2 : Nat) : Int) := ⟨_, rfl⟩
  have hn1N : n1 = (hN.n : Int) := by rw [HHN.out]; show n1 = ((L.h.n + 1 : Nat) : Int); have := HN1.out; have := HNI.out; omega
  have hn10 : 0 ≤ n1 := by omega
  have hmt : n1.tmod 2 = M := by rw [hM, hn1N, Int.tmod_eq_emod_of_nonneg (by omega)]; omega
  have hwm : IntKind.i64.wrap M = M := by rw [IntKind.wrap_i64]; omega
  have hbl : hN.body.length ≤ 32 := by rw [HHN.out]; exact HB32.out
  obtain ⟨T, hT⟩ : ∃ T, T = st (Lm.hsec hN) := ⟨_, rfl⟩
  have HSE : Hid (∀ w, Calls Try.prog 53 #[.agg #[.int .i64 n1, .int .i64 e1, .int .i64 e1, .string S]] w fun e w' => e = .returned (.string T) ∧ Below w.heap.size w w') := fun w => by
    have hr := ref7_sector hN w (by rw [HHN.out]; show ((L.h.n + 1 : Nat) : Int) ≤ _; have := HNB.out; omega) (by rw [HHN.out]; show ((L.h.epoch + 1 : Nat) : Int) ≤ _; have := HE1.out; have := HEI.out; omega) (by rw [HHN.out]; show ((L.h.epoch + 1 : Nat) : Int) ≤ _; have := HE1.out; have := HEI.out; omega) hbl
    rw [← hn1N, show (hN.epoch : Int) = e1 by rw [HHN.out]; show ((L.h.epoch + 1 : Nat) : Int) = e1; have := HE1.out; have := HEI.out; omega, show (hN.base : Int) = e1 by rw [HHN.out]; show ((L.h.epoch + 1 : Nat) : Int) = e1; have := HE1.out; have := HEI.out; omega, show st hN.body = S by rw [HHN.out]; exact HS.out.symm] at hr
    rw [hT]
    exact hr
  have hnx : Lm.next hN d = if (Sm.write d M (Lm.hsec hN)).2 ≠ 0 then Sm.write d M (Lm.hsec hN) else Sm.flush (Sm.write d M (Lm.hsec hN)).1 := by
    unfold Lm.next; rw [if_neg (by rw [HHN.out]; show ¬ 4294967295 < L.h.epoch + 1; have := HE1.out; have := HEI.out; omega), ← hM]
  have gw := grow_write HDW.out.ok HDW.out.l0 HDW.out.l1 M (Lm.hsec hN)
  obtain ⟨d1, hd1⟩ : ∃ d1, d1 = (Sm.write d M (Lm.hsec hN)).1 := ⟨_, rfl⟩
  obtain ⟨k1, hk1⟩ : ∃ k1, k1 = (Sm.write d M (Lm.hsec hN)).2 := ⟨_, rfl⟩
  have hsl := Lm.hsec_length hbl
  have HWR : Hid (∀ w, Dr gr kb kc wa wc d w → Calls Try.prog 21 #[.pointer (some ⟨gr, 0, none⟩), .int .i64 M, .string T] w fun e w' => e = .returned (.int .i64 k1) ∧ Only (fun k => k = gr) w w' ∧ ∃ wa' wc', Dr gr kb kc wa' wc' d1 w' ∧ ∀ x, wa' = some x → wa = some x ∨ (w.heap.size ≤ x.block ∧ x.block < w'.heap.size)) := fun w hdr => by
    have := ref6_write gr kb kc wc wa d M (Lm.hsec hN) w hdr (by have := HDW.out.w; omega) (by omega) ⟨HDW.out.c0, by have := HDW.out.c1; omega⟩ ⟨HDW.out.l0, HDW.out.l1⟩
    rw [hd1, hk1, hT]; exact this
  obtain ⟨d2, hd2⟩ : ∃ d2, d2 = (Sm.flush d1).1 := ⟨_, rfl⟩
  obtain ⟨k2, hk2⟩ : ∃ k2, k2 = (Sm.flush d1).2 := ⟨_, rfl⟩
  have HFL : Hid (∀ w wa wc, Dr gr kb kc wa wc d1 w → Calls Try.prog 41 #[.pointer (some ⟨gr, 0, none⟩)] w fun e w' => e = .returned (.int .i64 k2) ∧ Only (Fp gr kb) w w' ∧ ∃ wa' wc', Dr gr kb kc wa' wc' d2 w' ∧ (wa' = wa ∨ wa' = none)) := fun w wa wc hdr => by
    rw [← hd1] at gw
    have := ref6_flush gr kb kc wc wa d1 w hdr gw.ok (by have := gw.w; have := HDW.out.w; omega) ⟨by have := gw.c0; have := HDW.out.c0; omega, by have := gw.c1; have := HDW.out.c1; omega⟩ ⟨gw.l0, gw.l1⟩
    rw [hd2, hk2]; exact this
  have H1 : Hid (k1 ≠ 0 → Lm.next hN d = (d1, k1)) := fun hne => by rw [hnx, ← hk1, if_pos hne, hd1, hk1]
  have H2 : Hid (k1 = 0 → Lm.next hN d = (d2, k2)) := fun h0 => by rw [hnx, ← hk1, if_neg (by rw [h0]; exact fun h => h rfl), ← hd1, hd2, hk2]
  clear hM hn1N hbl hT hnx gw hd1 hk1 hsl hd2 hk2
  have SN : Hid (∀ w', (∀ o, w'.cell? ⟨gl, o, none⟩ = w2.cell? ⟨gl, o, none⟩) → (∀ o, w'.cell? ⟨p, o, none⟩ = w2.cell? ⟨p, o, none⟩) → Sn gl gr p n1 e1 e1 S w') := fun w' h1 h2 => ⟨(h1 0).trans g0, (h2 0).trans q0, (h2 1).trans q1, (h2 2).trans q2, (h2 3).trans q3⟩
  have hgr : gr < w2.heap.size := (HD.out.keep HB2.out).lt
  have hpr : p ≠ gr := by have := HD.out.lt; have := HP.out; omega
  go_upto_region 6 with (fail)
  clear g0 q0 q1 q2 q3
  refine wp_region_noPanic ?_
  have S0 := Lib.hid (SN.out w2.drew (fun _ => rfl) (fun _ => rfl))
  refine wp_region_held_drew (S := Sn gl gr p n1 e1 e1 S) (by kernel_rfl) S0.out (fun _ => ?_)
  refine wpAnyH_take (i := 0) (v := ?vn1) rfl (by kernel_rfl) (by kernel_rfl) (by kernel_rfl) (fun _ _ _ h => h) (Or.inl ⟨by rfl, ?hyn1⟩) S0.out ?restn1
  case hyn1 => (intro w' hSw; obtain ⟨_, _, _, _, _⟩ := hSw; go_simp; with_reducible rfl)
  try simp only [Act.put, List.getElem_toArray, List.getElem_cons_zero, List.setIfInBounds_toArray, List.set_cons_zero, List.set_cons_succ]
  refine wpAnyH_take (i := 1) (v := ?vn2) rfl (by kernel_rfl) (by kernel_rfl) (by kernel_rfl) (fun _ _ _ h => h) (Or.inl ⟨by rfl, ?hyn2⟩) S0.out ?restn2
  case hyn2 => (intro w' hSw; obtain ⟨_, _, _, _, _⟩ := hSw; go_simp; with_reducible rfl)
  try simp only [Act.put, List.getElem_toArray, List.getElem_cons_succ, List.getElem_cons_zero, List.setIfInBounds_toArray, List.set_cons_zero, List.set_cons_succ]
  refine wpAnyH_take (i := 2) (v := ?vn3) rfl (by kernel_rfl) (by kernel_rfl) (by kernel_rfl) (fun _ _ _ h => h) (Or.inl ⟨by rfl, ?hyn3⟩) S0.out ?restn3
  case hyn3 => (intro w' hSw; obtain ⟨_, _, _, _, _⟩ := hSw; go_simp; with_reducible rfl)
  try simp only [Act.put, List.getElem_toArray, List.getElem_cons_succ, List.getElem_cons_zero, List.setIfInBounds_toArray, List.set_cons_zero, List.set_cons_succ]
  refine wpAnyH_take (i := 3) (v := ?vn4) rfl (by kernel_rfl) (by kernel_rfl) (by kernel_rfl) (fun _ _ _ h => h) (Or.inl ⟨by rfl, ?hyn4⟩) S0.out ?restn4
  case hyn4 => (intro w' hSw; obtain ⟨_, _, _, _, _⟩ := hSw; go_simp; with_reducible rfl)
  try simp only [Act.put, List.getElem_toArray, List.getElem_cons_succ, List.getElem_cons_zero, List.setIfInBounds_toArray, List.set_cons_zero, List.set_cons_succ]
  refine wpAnyH_take (i := 4) (v := ?vn5) rfl (by kernel_rfl) (by kernel_rfl) (by kernel_rfl) (fun _ _ _ h => h) (Or.inl ⟨by rfl, ?hyn5⟩) S0.out ?restn5
  case hyn5 => (intro w' hSw; obtain ⟨_, _, _, _, _⟩ := hSw; go_simp; with_reducible rfl)
  try simp only [Act.put, List.getElem_toArray, List.getElem_cons_succ, List.getElem_cons_zero, List.setIfInBounds_toArray, List.set_cons_zero, List.set_cons_succ]
  refine wpAnyH_take (i := 5) (v := ?vn6) rfl (by kernel_rfl) (by kernel_rfl) (by kernel_rfl) (fun _ _ _ h => h) (Or.inl ⟨by rfl, ?hyn6⟩) S0.out ?restn6
  case hyn6 => (intro w' hSw; obtain ⟨_, _, _, _, _⟩ := hSw; go_simp; with_reducible rfl)
  try simp only [Act.put, List.getElem_toArray, List.getElem_cons_succ, List.getElem_cons_zero, List.setIfInBounds_toArray, List.set_cons_zero, List.set_cons_succ]
  refine wpAnyH_take (i := 6) (v := ?vn7) rfl (by kernel_rfl) (by kernel_rfl) (by kernel_rfl) (fun _ _ _ h => h) (Or.inl ⟨by rfl, ?hyn7⟩) S0.out ?restn7
  case hyn7 => (intro w' hSw; obtain ⟨_, _, _, _, _⟩ := hSw; go_simp; with_reducible rfl)
  try simp only [Act.put, List.getElem_toArray, List.getElem_cons_succ, List.getElem_cons_zero, List.setIfInBounds_toArray, List.set_cons_zero, List.set_cons_succ]
  refine wpAnyH_take (i := 7) (v := ?vn8) rfl (by kernel_rfl) (by kernel_rfl) (by kernel_rfl) (fun _ _ _ h => h) (Or.inl ⟨by rfl, ?hyn8⟩) S0.out ?restn8
  case hyn8 => (intro w' hSw; obtain ⟨_, _, _, _, _⟩ := hSw; go_simp; with_reducible rfl)
  try simp only [Act.put, List.getElem_toArray, List.getElem_cons_succ, List.getElem_cons_zero, List.setIfInBounds_toArray, List.set_cons_zero, List.set_cons_succ]
  refine wpAnyH_ready (rs := [8]) (by kernel_rfl) (by simp) ?_
  refine AllReadyH.cons rfl (fun K hK => ?_) AllReadyH.nil
  go_simp
  go_wp2_with (go_at_call 53; refine (HSE.out _).mono ?_; rintro e w3 ⟨rfl, hb3⟩)
  have HB3 : Hid (Below w2.heap.size w2 w3) := (below_drew7 w2).trans hb3
  have S1 := Lib.hid (SN.out w3 (fun o => HB3.out.cell (p := ⟨gl, o, none⟩) (by show gl < _; omega)) (fun o => HB3.out.cell (p := ⟨p, o, none⟩) hpl))
  clear hb3
  refine hK.out _ _ S1.out (fun _ => ?_)
  clear hK K
  try simp only [Act.put, List.getElem_toArray, List.getElem_cons_succ, List.getElem_cons_zero, List.setIfInBounds_toArray, List.set_cons_zero, List.set_cons_succ]
  refine wpAnyH_ready (rs := [9]) (by kernel_rfl) (by simp) ?_
  refine AllReadyH.cons rfl (fun K hK => ?_) AllReadyH.nil
  go_simp
  go_wp2_with (go_at_call 21; refine (HWR.out _ ((HD.out.keep HB2.out).keep HB3.out)).mono ?_; rintro e w4 ⟨rfl, ho4, wa4, wc4, hd4, hwa4⟩)
  have HO4 := Lib.hid ho4; have HD4 := Lib.hid hd4; have HWA4 := Lib.hid hwa4
  have S2 := Lib.hid (SN.out w4 (fun o => (cell_only ho4 (q := ⟨gl, o, none⟩) (by show gl < _; have := HB3.out.size; omega) (fun e => HNE.out.1 e)).trans (HB3.out.cell (p := ⟨gl, o, none⟩) (by show gl < _; omega))) (fun o => (cell_only ho4 (q := ⟨p, o, none⟩) (by show p < _; have := HB3.out.size; omega) (fun e => hpr e)).trans (HB3.out.cell (p := ⟨p, o, none⟩) hpl)))
  clear ho4 hd4 hwa4
  refine hK.out _ _ S2.out (fun _ => ?_)
  clear hK K
  try simp only [Act.put, List.getElem_toArray, List.getElem_cons_succ, List.getElem_cons_zero, List.setIfInBounds_toArray, List.set_cons_zero, List.set_cons_succ]
  refine wpAnyH_take (i := 10) (v := ?vn9) rfl (by kernel_rfl) (by kernel_rfl) (by kernel_rfl) (fun _ _ _ h => h) (Or.inl ⟨by rfl, ?hyn9⟩) S2.out ?restn9
  case hyn9 => (intro w' hSw; obtain ⟨_, _, _, _, _⟩ := hSw; go_simp; with_reducible rfl)
  try simp only [Act.put, List.getElem_toArray, List.getElem_cons_succ, List.getElem_cons_zero, List.setIfInBounds_toArray, List.set_cons_zero, List.set_cons_succ]
  refine wpAnyH_done (by kernel_rfl) ?_ _
  refine NoPanic.normal ?_
  have HO24 : Hid (Only (fun k => k = gl ∨ Fp gr kb k) w w4) := (((only_of HB2.out).mono (q := fun k => k = gl ∨ Fp gr kb k) (fun k hk e => absurd hk (by omega))).trans' (only_of HB3.out) (fun k hk => .inr (by have := HB2.out.size; omega))).trans' HO4.out (fun k hk => .inl (.inr (.inl hk)))
  have HR4 : Hid (Rl gl gr la lc L w4) := ((H.out.below HB2.out).below HB3.out).keepO HO4.out (fun e => HNE.out.1 e) (fun x e => (HNL.out x e).1)
  have HWX4 : Hid (∀ x, wa4 = some x → wa = some x ∨ (w.heap.size ≤ x.block ∧ x.block < w4.heap.size)) := fun x e => by
    rcases HWA4.out x e with h | h
    · exact .inl h
    · have := HB2.out.size; have := HB3.out.size; exact .inr (by omega)
  obtain ⟨t0, t1, t2, t3, t4⟩ := S2.out
  have hgl4 := HR4.out.lt
  have hp4 : p < w4.heap.size := by have := HB3.out.size; have := HO4.out.size; omega
  clear S0 S1 S2 SN HSE HWR
  by_cases hz1 : k1 = 0
  case neg =>
    have hop := Lib.hid (H1.out hz1)
    have z1 : (k1 == 0) = false := by rw [beq_eq_false_iff_ne]; exact hz1
    clear H1 H2
    go_wp2
    go_ret
    unfold NxR
    rw [hop.out, if_neg hz1]
    exact ⟨rfl, HO24.out, wa4, wc4, HD4.out, HWX4.out, HR4.out⟩
  case pos =>
    have hop := Lib.hid (H2.out hz1)
    subst hz1
    clear H1 H2
    go_wp2_with fail
    refine (HFL.out _ _ _ HD4.out).mono ?_
    rintro e w5 ⟨rfl, ho5, wa5, wc5, hd5, hwa5⟩
    have hnf : ¬ Fp gr kb gl := fun h => by
      rcases h with h | h
      · exact HNE.out.1 h
      · exact HNE.out.2 h
    have HR5 : Hid (Rl gl gr la lc L w5) := HR4.out.keepO ho5 hnf (fun x e hf => by
      rcases hf with h | h
      · exact (HNL.out x e).1 h
      · exact (HNL.out x e).2 h)
    have HO25 : Hid (Only (fun k => k = gl ∨ Fp gr kb k) w w5) := HO24.out.trans' ho5 (fun k hk => .inl (.inr hk))
    have HWX5 : Hid (∀ x, wa5 = some x → wa = some x ∨ (w.heap.size ≤ x.block ∧ x.block < w5.heap.size)) := fun x e => by
      rcases hwa5 with rfl | rfl
      · rcases HWX4.out x e with h | h
        · exact .inl h
        · have := ho5.size; exact .inr (by omega)
      · cases e
    have HD5 := Lib.hid hd5
    have hnp : ¬ Fp gr kb p := fun h => by
      have := (HD.out.kr.lt kb rfl).2
      have := HP.out
      rcases h with h | h
      · exact hpr h
      · omega
    have p0 : w5.cell? ⟨p, 0, none⟩ = some (.int .i64 n1) := (cell_only ho5 (q := ⟨p, 0, none⟩) hp4 hnp).trans t1
    have p1 : w5.cell? ⟨p, 1, none⟩ = some (.int .i64 e1) := (cell_only ho5 (q := ⟨p, 1, none⟩) hp4 hnp).trans t2
    have p2 : w5.cell? ⟨p, 2, none⟩ = some (.int .i64 e1) := (cell_only ho5 (q := ⟨p, 2, none⟩) hp4 hnp).trans t3
    have p3 : w5.cell? ⟨p, 3, none⟩ = some (.string S) := (cell_only ho5 (q := ⟨p, 3, none⟩) hp4 hnp).trans t4
    clear ho5 hd5 hwa5 t0 t1 t2 t3 t4 hp4
    by_cases hz2 : k2 = 0
    case neg =>
      have z1 : (k2 == 0) = false := by rw [beq_eq_false_iff_ne]; exact hz2
      go_wp2
      go_ret
      unfold NxR
      rw [hop.out, if_neg hz2]
      exact ⟨rfl, HO25.out, wa5, wc5, HD5.out, HWX5.out, HR5.out⟩
    case pos =>
      subst hz2
      have fz5 := HR5.out.fz; have hgl5 := HR5.out.lt
      have x2 := HR5.out.c2; have x3 := HR5.out.c3; have x4 := HR5.out.c4; have x5 := HR5.out.c5
      go_wp2
      go_ret
      unfold NxR
      rw [hop.out, if_pos rfl]
      have hset := HR5.out.setHead hN
      rw [show (hN.n : Int) = n1 by rw [HHN.out]; show ((L.h.n + 1 : Nat) : Int) = n1; have := HN1.out; have := HNI.out; omega, show (hN.epoch : Int) = e1 by rw [HHN.out]; show ((L.h.epoch + 1 : Nat) : Int) = e1; have := HE1.out; have := HEI.out; omega, show (hN.base : Int) = e1 by rw [HHN.out]; show ((L.h.epoch + 1 : Nat) : Int) = e1; have := HE1.out; have := HEI.out; omega, show st hN.body = S by rw [HHN.out]; exact HS.out.symm] at hset
      have hoc := (((only_cell w5 gl 2 (.int .i64 n1)).trans (only_cell _ gl 3 (.int .i64 e1))).trans (only_cell _ gl 4 (.int .i64 e1))).trans (only_cell _ gl 5 (.string S))
      refine ⟨rfl, HO25.out.trans (hoc.mono (fun k _ e => .inl e)), wa5, wc5, HD5.out.keepO hoc (fun e => HNE.out.1 e.symm) (fun e => HNE.out.2 e.symm) (fun x e e2 => ?_), fun x e => ?_, hset⟩
      · rcases HWX5.out x e with h | h
        · exact HNW.out x h e2
        · have := H.out.lt; omega
      · have := HWX5.out x e; simpa using this
set_option maxHeartbeats 4000000 in
set_option maxRecDepth 100000 in
theorem ref7_nextB {gl gr kb kc wc lc : Nat} {wa la : Option Addr} {L : Lm.Lg} {d : Sm.Dv} {w : World} (B : Nat) (b : List UInt8) (h : Rl gl gr la lc L w) (hd : Dr gr kb kc wa wc d w) (hne : gl ≠ gr ∧ gl ≠ kb) (hnl : ∀ x, la = some x → x.block ≠ gr ∧ x.block ≠ kb) (hnw : ∀ x, wa = some x → x.block ≠ gl) (hD : Dw d)
    (hn : (L.h.n : Int) ≤ 4611686018427388904) (he : (L.h.epoch : Int) ≤ 4294967295) (hB : (B : Int) ≤ 4294967295) (hb : b.length ≤ 32) :
    Calls Try.prog 36 #[.pointer (some ⟨gl, 0, none⟩), .int .i64 (B : Int), .string (st b)] w fun e w' => NxR gl gr kb kc wa la lc L d ⟨L.h.n + 1, L.h.epoch + 1, B, b⟩ w e w' := by
  have c0 := h.c0; have c2 := h.c2; have c3 := h.c3
  have hlt := h.lt
  obtain ⟨hN, hhN⟩ : ∃ hN : Lm.Hd, hN = ⟨L.h.n + 1, L.h.epoch + 1, B, b⟩ := ⟨_, rfl⟩
  rw [← hhN]
  obtain ⟨nI, hnI⟩ : ∃ nI : Int, nI = (L.h.n : Int) := ⟨_, rfl⟩
  obtain ⟨eI, heI⟩ : ∃ eI : Int, eI = (L.h.epoch : Int) := ⟨_, rfl⟩
  rw [← hnI] at c2; rw [← heI] at c3
  obtain ⟨n1, hn1⟩ : ∃ n1 : Int, n1 = nI + 1 := ⟨_, rfl⟩
  obtain ⟨e1, he1⟩ : ∃ e1 : Int, e1 = eI + 1 := ⟨_, rfl⟩
  have hw1 : IntKind.i64.wrap (nI + 1) = n1 := by rw [IntKind.wrap_i64]; omega
  have hw2 : IntKind.i64.wrap (eI + 1) = e1 := by rw [IntKind.wrap_i64]; omega
  obtain ⟨S, hS⟩ : ∃ S, S = st b := ⟨_, rfl⟩
  have hex : e1 ≤ 4294967296 := by omega
  have HHN := Lib.hid hhN; have HNI := Lib.hid hnI; have HEI := Lib.hid heI; have HN1 := Lib.hid hn1; have HE1 := Lib.hid he1; have H := Lib.hid h; have HD := Lib.hid hd; have HNE := Lib.hid hne; have HNL := Lib.hid hnl; have HNW := Lib.hid hnw; have HDW := Lib.hid hD; have HNB := Lib.hid hn; have HB32 := Lib.hid hb; have HS := Lib.hid hS
  have HBB := Lib.hid hB
  rw [← hS]
  clear h hd hne hnl hnw hD hhN hnI heI hn1 he1 hn he hb hS hB
  go_enter Try.func36, Try.ntmps36
  go_upto_region 1 with (fail)
  go_region
  obtain ⟨p, hp⟩ : ∃ p, p = w.heap.size := ⟨_, rfl⟩
  have HP := Lib.hid hp
  have hglp : gl < p := by omega
  go_upto_region 4 with (fail)
  obtain ⟨w2, hw2'⟩ : ∃ w2, w2 = (w.alloc (.cells #[.int .i64 n1, .int .i64 e1, .int .i64 (B : Int), .string S] 55)).drew := ⟨_, rfl⟩
  have hb2 : Below w.heap.size w w2 := by rw [hw2']; exact ((Below.refl _ w).alloc (Nat.le_refl _) _).trans ((below_drew7 _).mono (by simp))
  have hq2 : w2.heap[p]? = some (.cells #[.int .i64 n1, .int .i64 e1, .int .i64 (B : Int), .string S] 55 (0, 0)) := by
    rw [hw2', hp]; exact heap_alloc_new w _
  rw [← hw2', ← hp]
  have HB2 := Lib.hid hb2; have HQ2 := Lib.hid hq2
  have g0 : w2.cell? ⟨gl, 0, none⟩ = some (.pointer (some ⟨gr, 0, none⟩)) := (hb2.cell (p := ⟨gl, 0, none⟩) hlt).trans c0
  have q0 : w2.cell? ⟨p, 0, none⟩ = some (.int .i64 n1) := by rw [Lib.cell_of_heap hq2]; rfl
  have q1 : w2.cell? ⟨p, 1, none⟩ = some (.int .i64 e1) := by rw [Lib.cell_of_heap hq2]; rfl
  have q2 : w2.cell? ⟨p, 2, none⟩ = some (.int .i64 (B : Int)) := by rw [Lib.cell_of_heap hq2]; rfl
  have q3 : w2.cell? ⟨p, 3, none⟩ = some (.string S) := by rw [Lib.cell_of_heap hq2]; rfl
  have hpl := heap_lt hq2
  clear hw2' hp hb2 hq2 c0 c2 c3 hw1 hw2
  by_cases hover : 4294967295 < e1
  case pos =>
    have hop : Hid (Lm.next hN d = (d, 70)) := by
      show _ = _; unfold Lm.next; rw [if_pos (by rw [HHN.out]; show 4294967295 < L.h.epoch + 1; have := HE1.out; have := HEI.out; omega)]
    go_wp2
    go_ret
    unfold NxR
    rw [hop.out, if_neg (by show ¬ (70 : Int) = 0; decide)]
    exact ⟨rfl, (only_of HB2.out).mono (fun k hk e => absurd hk (by omega)), wa, wc, HD.out.keep HB2.out, fun x e => .inl e, H.out.below HB2.out⟩
  case neg =>
  obtain ⟨M, hM⟩ : ∃ M : Int, M = ((hN.n % 2 : Nat) : Int) := ⟨_, rfl⟩
  have hn1N : n1 = (hN.n : Int) := by rw [HHN.out]; show n1 = ((L.h.n + 1 : Nat) : Int); have := HN1.out; have := HNI.out; omega
  have hn10 : 0 ≤ n1 := by omega
  have hmt : n1.tmod 2 = M := by rw [hM, hn1N, Int.tmod_eq_emod_of_nonneg (by omega)]; omega
  have hwm : IntKind.i64.wrap M = M := by rw [IntKind.wrap_i64]; omega
  have hbl : hN.body.length ≤ 32 := by rw [HHN.out]; exact HB32.out
  obtain ⟨T, hT⟩ : ∃ T, T = st (Lm.hsec hN) := ⟨_, rfl⟩
  have HSE : Hid (∀ w, Calls Try.prog 53 #[.agg #[.int .i64 n1, .int .i64 e1, .int .i64 (B : Int), .string S]] w fun e w' => e = .returned (.string T) ∧ Below w.heap.size w w') := fun w => by
    have hr := ref7_sector hN w (by rw [HHN.out]; show ((L.h.n + 1 : Nat) : Int) ≤ _; have := HNB.out; omega) (by rw [HHN.out]; show ((L.h.epoch + 1 : Nat) : Int) ≤ _; have := HE1.out; have := HEI.out; omega) (by rw [HHN.out]; exact HBB.out) hbl
    rw [← hn1N, show (hN.epoch : Int) = e1 by rw [HHN.out]; show ((L.h.epoch + 1 : Nat) : Int) = e1; have := HE1.out; have := HEI.out; omega, show (hN.base : Int) = (B : Int) by rw [HHN.out], show st hN.body = S by rw [HHN.out]; exact HS.out.symm] at hr
    rw [hT]
    exact hr
  have hnx : Lm.next hN d = if (Sm.write d M (Lm.hsec hN)).2 ≠ 0 then Sm.write d M (Lm.hsec hN) else Sm.flush (Sm.write d M (Lm.hsec hN)).1 := by
    unfold Lm.next; rw [if_neg (by rw [HHN.out]; show ¬ 4294967295 < L.h.epoch + 1; have := HE1.out; have := HEI.out; omega), ← hM]
  have gw := grow_write HDW.out.ok HDW.out.l0 HDW.out.l1 M (Lm.hsec hN)
  obtain ⟨d1, hd1⟩ : ∃ d1, d1 = (Sm.write d M (Lm.hsec hN)).1 := ⟨_, rfl⟩
  obtain ⟨k1, hk1⟩ : ∃ k1, k1 = (Sm.write d M (Lm.hsec hN)).2 := ⟨_, rfl⟩
  have hsl := Lm.hsec_length hbl
  have HWR : Hid (∀ w, Dr gr kb kc wa wc d w → Calls Try.prog 21 #[.pointer (some ⟨gr, 0, none⟩), .int .i64 M, .string T] w fun e w' => e = .returned (.int .i64 k1) ∧ Only (fun k => k = gr) w w' ∧ ∃ wa' wc', Dr gr kb kc wa' wc' d1 w' ∧ ∀ x, wa' = some x → wa = some x ∨ (w.heap.size ≤ x.block ∧ x.block < w'.heap.size)) := fun w hdr => by
    have := ref6_write gr kb kc wc wa d M (Lm.hsec hN) w hdr (by have := HDW.out.w; omega) (by omega) ⟨HDW.out.c0, by have := HDW.out.c1; omega⟩ ⟨HDW.out.l0, HDW.out.l1⟩
    rw [hd1, hk1, hT]; exact this
  obtain ⟨d2, hd2⟩ : ∃ d2, d2 = (Sm.flush d1).1 := ⟨_, rfl⟩
  obtain ⟨k2, hk2⟩ : ∃ k2, k2 = (Sm.flush d1).2 := ⟨_, rfl⟩
  have HFL : Hid (∀ w wa wc, Dr gr kb kc wa wc d1 w → Calls Try.prog 41 #[.pointer (some ⟨gr, 0, none⟩)] w fun e w' => e = .returned (.int .i64 k2) ∧ Only (Fp gr kb) w w' ∧ ∃ wa' wc', Dr gr kb kc wa' wc' d2 w' ∧ (wa' = wa ∨ wa' = none)) := fun w wa wc hdr => by
    rw [← hd1] at gw
    have := ref6_flush gr kb kc wc wa d1 w hdr gw.ok (by have := gw.w; have := HDW.out.w; omega) ⟨by have := gw.c0; have := HDW.out.c0; omega, by have := gw.c1; have := HDW.out.c1; omega⟩ ⟨gw.l0, gw.l1⟩
    rw [hd2, hk2]; exact this
  have H1 : Hid (k1 ≠ 0 → Lm.next hN d = (d1, k1)) := fun hne => by rw [hnx, ← hk1, if_pos hne, hd1, hk1]
  have H2 : Hid (k1 = 0 → Lm.next hN d = (d2, k2)) := fun h0 => by rw [hnx, ← hk1, if_neg (by rw [h0]; exact fun h => h rfl), ← hd1, hd2, hk2]
  clear hM hn1N hbl hT hnx gw hd1 hk1 hsl hd2 hk2
  have SN : Hid (∀ w', (∀ o, w'.cell? ⟨gl, o, none⟩ = w2.cell? ⟨gl, o, none⟩) → (∀ o, w'.cell? ⟨p, o, none⟩ = w2.cell? ⟨p, o, none⟩) → Sn gl gr p n1 e1 (B : Int) S w') := fun w' h1 h2 => ⟨(h1 0).trans g0, (h2 0).trans q0, (h2 1).trans q1, (h2 2).trans q2, (h2 3).trans q3⟩
  have hgr : gr < w2.heap.size := (HD.out.keep HB2.out).lt
  have hpr : p ≠ gr := by have := HD.out.lt; have := HP.out; omega
  go_upto_region 6 with (fail)
  clear g0 q0 q1 q2 q3
  refine wp_region_noPanic ?_
  have S0 := Lib.hid (SN.out w2.drew (fun _ => rfl) (fun _ => rfl))
  refine wp_region_held_drew (S := Sn gl gr p n1 e1 (B : Int) S) (by kernel_rfl) S0.out (fun _ => ?_)
  refine wpAnyH_take (i := 0) (v := ?vb10) rfl (by kernel_rfl) (by kernel_rfl) (by kernel_rfl) (fun _ _ _ h => h) (Or.inl ⟨by rfl, ?hyb10⟩) S0.out ?restb10
  case hyb10 => (intro w' hSw; obtain ⟨_, _, _, _, _⟩ := hSw; go_simp; with_reducible rfl)
  try simp only [Act.put, List.getElem_toArray, List.getElem_cons_zero, List.setIfInBounds_toArray, List.set_cons_zero, List.set_cons_succ]
  refine wpAnyH_take (i := 1) (v := ?vb11) rfl (by kernel_rfl) (by kernel_rfl) (by kernel_rfl) (fun _ _ _ h => h) (Or.inl ⟨by rfl, ?hyb11⟩) S0.out ?restb11
  case hyb11 => (intro w' hSw; obtain ⟨_, _, _, _, _⟩ := hSw; go_simp; with_reducible rfl)
  try simp only [Act.put, List.getElem_toArray, List.getElem_cons_succ, List.getElem_cons_zero, List.setIfInBounds_toArray, List.set_cons_zero, List.set_cons_succ]
  refine wpAnyH_take (i := 2) (v := ?vb12) rfl (by kernel_rfl) (by kernel_rfl) (by kernel_rfl) (fun _ _ _ h => h) (Or.inl ⟨by rfl, ?hyb12⟩) S0.out ?restb12
  case hyb12 => (intro w' hSw; obtain ⟨_, _, _, _, _⟩ := hSw; go_simp; with_reducible rfl)
  try simp only [Act.put, List.getElem_toArray, List.getElem_cons_succ, List.getElem_cons_zero, List.setIfInBounds_toArray, List.set_cons_zero, List.set_cons_succ]
  refine wpAnyH_take (i := 3) (v := ?vb13) rfl (by kernel_rfl) (by kernel_rfl) (by kernel_rfl) (fun _ _ _ h => h) (Or.inl ⟨by rfl, ?hyb13⟩) S0.out ?restb13
  case hyb13 => (intro w' hSw; obtain ⟨_, _, _, _, _⟩ := hSw; go_simp; with_reducible rfl)
  try simp only [Act.put, List.getElem_toArray, List.getElem_cons_succ, List.getElem_cons_zero, List.setIfInBounds_toArray, List.set_cons_zero, List.set_cons_succ]
  refine wpAnyH_take (i := 4) (v := ?vb14) rfl (by kernel_rfl) (by kernel_rfl) (by kernel_rfl) (fun _ _ _ h => h) (Or.inl ⟨by rfl, ?hyb14⟩) S0.out ?restb14
  case hyb14 => (intro w' hSw; obtain ⟨_, _, _, _, _⟩ := hSw; go_simp; with_reducible rfl)
  try simp only [Act.put, List.getElem_toArray, List.getElem_cons_succ, List.getElem_cons_zero, List.setIfInBounds_toArray, List.set_cons_zero, List.set_cons_succ]
  refine wpAnyH_take (i := 5) (v := ?vb15) rfl (by kernel_rfl) (by kernel_rfl) (by kernel_rfl) (fun _ _ _ h => h) (Or.inl ⟨by rfl, ?hyb15⟩) S0.out ?restb15
  case hyb15 => (intro w' hSw; obtain ⟨_, _, _, _, _⟩ := hSw; go_simp; with_reducible rfl)
  try simp only [Act.put, List.getElem_toArray, List.getElem_cons_succ, List.getElem_cons_zero, List.setIfInBounds_toArray, List.set_cons_zero, List.set_cons_succ]
  refine wpAnyH_take (i := 6) (v := ?vb16) rfl (by kernel_rfl) (by kernel_rfl) (by kernel_rfl) (fun _ _ _ h => h) (Or.inl ⟨by rfl, ?hyb16⟩) S0.out ?restb16
  case hyb16 => (intro w' hSw; obtain ⟨_, _, _, _, _⟩ := hSw; go_simp; with_reducible rfl)
  try simp only [Act.put, List.getElem_toArray, List.getElem_cons_succ, List.getElem_cons_zero, List.setIfInBounds_toArray, List.set_cons_zero, List.set_cons_succ]
  refine wpAnyH_take (i := 7) (v := ?vb17) rfl (by kernel_rfl) (by kernel_rfl) (by kernel_rfl) (fun _ _ _ h => h) (Or.inl ⟨by rfl, ?hyb17⟩) S0.out ?restb17
  case hyb17 => (intro w' hSw; obtain ⟨_, _, _, _, _⟩ := hSw; go_simp; with_reducible rfl)
  try simp only [Act.put, List.getElem_toArray, List.getElem_cons_succ, List.getElem_cons_zero, List.setIfInBounds_toArray, List.set_cons_zero, List.set_cons_succ]
  refine wpAnyH_ready (rs := [8]) (by kernel_rfl) (by simp) ?_
  refine AllReadyH.cons rfl (fun K hK => ?_) AllReadyH.nil
  go_simp
  go_wp2_with (go_at_call 53; refine (HSE.out _).mono ?_; rintro e w3 ⟨rfl, hb3⟩)
  have HB3 : Hid (Below w2.heap.size w2 w3) := (below_drew7 w2).trans hb3
  have S1 := Lib.hid (SN.out w3 (fun o => HB3.out.cell (p := ⟨gl, o, none⟩) (by show gl < _; omega)) (fun o => HB3.out.cell (p := ⟨p, o, none⟩) hpl))
  clear hb3
  refine hK.out _ _ S1.out (fun _ => ?_)
  clear hK K
  try simp only [Act.put, List.getElem_toArray, List.getElem_cons_succ, List.getElem_cons_zero, List.setIfInBounds_toArray, List.set_cons_zero, List.set_cons_succ]
  refine wpAnyH_ready (rs := [9]) (by kernel_rfl) (by simp) ?_
  refine AllReadyH.cons rfl (fun K hK => ?_) AllReadyH.nil
  go_simp
  go_wp2_with (go_at_call 21; refine (HWR.out _ ((HD.out.keep HB2.out).keep HB3.out)).mono ?_; rintro e w4 ⟨rfl, ho4, wa4, wc4, hd4, hwa4⟩)
  have HO4 := Lib.hid ho4; have HD4 := Lib.hid hd4; have HWA4 := Lib.hid hwa4
  have S2 := Lib.hid (SN.out w4 (fun o => (cell_only ho4 (q := ⟨gl, o, none⟩) (by show gl < _; have := HB3.out.size; omega) (fun e => HNE.out.1 e)).trans (HB3.out.cell (p := ⟨gl, o, none⟩) (by show gl < _; omega))) (fun o => (cell_only ho4 (q := ⟨p, o, none⟩) (by show p < _; have := HB3.out.size; omega) (fun e => hpr e)).trans (HB3.out.cell (p := ⟨p, o, none⟩) hpl)))
  clear ho4 hd4 hwa4
  refine hK.out _ _ S2.out (fun _ => ?_)
  clear hK K
  try simp only [Act.put, List.getElem_toArray, List.getElem_cons_succ, List.getElem_cons_zero, List.setIfInBounds_toArray, List.set_cons_zero, List.set_cons_succ]
  refine wpAnyH_take (i := 10) (v := ?vb18) rfl (by kernel_rfl) (by kernel_rfl) (by kernel_rfl) (fun _ _ _ h => h) (Or.inl ⟨by rfl, ?hyb18⟩) S2.out ?restb18
  case hyb18 => (intro w' hSw; obtain ⟨_, _, _, _, _⟩ := hSw; go_simp; with_reducible rfl)
  try simp only [Act.put, List.getElem_toArray, List.getElem_cons_succ, List.getElem_cons_zero, List.setIfInBounds_toArray, List.set_cons_zero, List.set_cons_succ]
  refine wpAnyH_done (by kernel_rfl) ?_ _
  refine NoPanic.normal ?_
  have HO24 : Hid (Only (fun k => k = gl ∨ Fp gr kb k) w w4) := (((only_of HB2.out).mono (q := fun k => k = gl ∨ Fp gr kb k) (fun k hk e => absurd hk (by omega))).trans' (only_of HB3.out) (fun k hk => .inr (by have := HB2.out.size; omega))).trans' HO4.out (fun k hk => .inl (.inr (.inl hk)))
  have HR4 : Hid (Rl gl gr la lc L w4) := ((H.out.below HB2.out).below HB3.out).keepO HO4.out (fun e => HNE.out.1 e) (fun x e => (HNL.out x e).1)
  have HWX4 : Hid (∀ x, wa4 = some x → wa = some x ∨ (w.heap.size ≤ x.block ∧ x.block < w4.heap.size)) := fun x e => by
    rcases HWA4.out x e with h | h
    · exact .inl h
    · have := HB2.out.size; have := HB3.out.size; exact .inr (by omega)
  obtain ⟨t0, t1, t2, t3, t4⟩ := S2.out
  have hgl4 := HR4.out.lt
  have hp4 : p < w4.heap.size := by have := HB3.out.size; have := HO4.out.size; omega
  clear S0 S1 S2 SN HSE HWR
  by_cases hz1 : k1 = 0
  case neg =>
    have hop := Lib.hid (H1.out hz1)
    have z1 : (k1 == 0) = false := by rw [beq_eq_false_iff_ne]; exact hz1
    clear H1 H2
    go_wp2
    go_ret
    unfold NxR
    rw [hop.out, if_neg hz1]
    exact ⟨rfl, HO24.out, wa4, wc4, HD4.out, HWX4.out, HR4.out⟩
  case pos =>
    have hop := Lib.hid (H2.out hz1)
    subst hz1
    clear H1 H2
    go_wp2_with fail
    refine (HFL.out _ _ _ HD4.out).mono ?_
    rintro e w5 ⟨rfl, ho5, wa5, wc5, hd5, hwa5⟩
    have hnf : ¬ Fp gr kb gl := fun h => by
      rcases h with h | h
      · exact HNE.out.1 h
      · exact HNE.out.2 h
    have HR5 : Hid (Rl gl gr la lc L w5) := HR4.out.keepO ho5 hnf (fun x e hf => by
      rcases hf with h | h
      · exact (HNL.out x e).1 h
      · exact (HNL.out x e).2 h)
    have HO25 : Hid (Only (fun k => k = gl ∨ Fp gr kb k) w w5) := HO24.out.trans' ho5 (fun k hk => .inl (.inr hk))
    have HWX5 : Hid (∀ x, wa5 = some x → wa = some x ∨ (w.heap.size ≤ x.block ∧ x.block < w5.heap.size)) := fun x e => by
      rcases hwa5 with rfl | rfl
      · rcases HWX4.out x e with h | h
        · exact .inl h
        · have := ho5.size; exact .inr (by omega)
      · cases e
    have HD5 := Lib.hid hd5
    have hnp : ¬ Fp gr kb p := fun h => by
      have := (HD.out.kr.lt kb rfl).2
      have := HP.out
      rcases h with h | h
      · exact hpr h
      · omega
    have p0 : w5.cell? ⟨p, 0, none⟩ = some (.int .i64 n1) := (cell_only ho5 (q := ⟨p, 0, none⟩) hp4 hnp).trans t1
    have p1 : w5.cell? ⟨p, 1, none⟩ = some (.int .i64 e1) := (cell_only ho5 (q := ⟨p, 1, none⟩) hp4 hnp).trans t2
    have p2 : w5.cell? ⟨p, 2, none⟩ = some (.int .i64 (B : Int)) := (cell_only ho5 (q := ⟨p, 2, none⟩) hp4 hnp).trans t3
    have p3 : w5.cell? ⟨p, 3, none⟩ = some (.string S) := (cell_only ho5 (q := ⟨p, 3, none⟩) hp4 hnp).trans t4
    clear ho5 hd5 hwa5 t0 t1 t2 t3 t4 hp4
    by_cases hz2 : k2 = 0
    case neg =>
      have z1 : (k2 == 0) = false := by rw [beq_eq_false_iff_ne]; exact hz2
      go_wp2
      go_ret
      unfold NxR
      rw [hop.out, if_neg hz2]
      exact ⟨rfl, HO25.out, wa5, wc5, HD5.out, HWX5.out, HR5.out⟩
    case pos =>
      subst hz2
      have fz5 := HR5.out.fz; have hgl5 := HR5.out.lt
      have x2 := HR5.out.c2; have x3 := HR5.out.c3; have x4 := HR5.out.c4; have x5 := HR5.out.c5
      go_wp2
      go_ret
      unfold NxR
      rw [hop.out, if_pos rfl]
      have hset := HR5.out.setHead hN
      rw [show (hN.n : Int) = n1 by rw [HHN.out]; show ((L.h.n + 1 : Nat) : Int) = n1; have := HN1.out; have := HNI.out; omega, show (hN.epoch : Int) = e1 by rw [HHN.out]; show ((L.h.epoch + 1 : Nat) : Int) = e1; have := HE1.out; have := HEI.out; omega, show (hN.base : Int) = (B : Int) by rw [HHN.out], show st hN.body = S by rw [HHN.out]; exact HS.out.symm] at hset
      have hoc := (((only_cell w5 gl 2 (.int .i64 n1)).trans (only_cell _ gl 3 (.int .i64 e1))).trans (only_cell _ gl 4 (.int .i64 (B : Int)))).trans (only_cell _ gl 5 (.string S))
      refine ⟨rfl, HO25.out.trans (hoc.mono (fun k _ e => .inl e)), wa5, wc5, HD5.out.keepO hoc (fun e => HNE.out.1 e.symm) (fun e => HNE.out.2 e.symm) (fun x e e2 => ?_), fun x e => ?_, hset⟩
      · rcases HWX5.out x e with h | h
        · exact HNW.out x h e2
        · have := H.out.lt; omega
      · have := HWX5.out x e; simpa using this
end Go.Proofs.Ytofbignggadkiaa
/- The reference's Reset. -/
namespace Go.Proofs.Ytofbignggadkiaa
open Go.RowKit

/-- what a call of the reference's log leaves -/
def RxR (gl gr kb kc : Nat) (wa la : Option Addr) (r : Lm.Lg × Sm.Dv × Int) (w : World) (e : Ending) (w' : World) : Prop :=
  e = .returned (.int .i64 r.2.2) ∧ Only (fun k => k = gl ∨ Fp gr kb k) w w' ∧ ∃ wa' wc' la' lc', Dr gr kb kc wa' wc' r.2.1 w' ∧ (∀ x, wa' = some x → wa = some x ∨ (w.heap.size ≤ x.block ∧ x.block < w'.heap.size)) ∧ Rl gl gr la' lc' r.1 w' ∧ ∀ x, la' = some x → la = some x ∨ (w.heap.size ≤ x.block ∧ x.block < w'.heap.size)
namespace Sm
theorem check_70 (d : Dv) (i : Int) (n : Nat) : check d i n ≠ 70 := by
  unfold check
  split
  · decide
  split <;> decide
theorem write_70 (d : Dv) (i : Int) (b : List UInt8) : (write d i b).2 ≠ 70 := by
  unfold write
  split
  · show ¬ (0 : Int) = 70; decide
  · exact check_70 _ _ _
theorem flush_70 (d : Dv) : (flush d).2 ≠ 70 := by
  unfold flush
  split
  · show ¬ (0 : Int) = 70; decide
  · exact check_70 _ _ _
end Sm
theorem Lm.next_70 {h : Lm.Hd} {d : Sm.Dv} (e : (Lm.next h d).2 = 70) : 4294967295 < h.epoch := by
  unfold Lm.next at e
  split at e
  · assumption
  split at e
  · exact absurd e (Sm.write_70 _ _ _)
  · exact absurd e (Sm.flush_70 _)
/-- the list and the place are set anew -/
theorem Rl.setNil {gl gr lc : Nat} {la : Option Addr} {L : Lm.Lg} {W : World} (h : Rl gl gr la lc L W) : Rl gl gr none 0 { L with l := [], at_ := 0 } ((W.setCell ⟨gl, 6, none⟩ (.slice none 0 0)).setCell ⟨gl, 7, none⟩ (.int .i64 0)) := by
  have k : ∀ j v, j ≠ 6 → j ≠ 7 → W.cell? ⟨gl, j, none⟩ = some v → ((W.setCell ⟨gl, 6, none⟩ (.slice none 0 0)).setCell ⟨gl, 7, none⟩ (.int .i64 0)).cell? ⟨gl, j, none⟩ = some v := fun j v h2 h3 hv => by
    rw [cell_keep _ _ _ _ _ (Ne.symm h3), cell_keep _ _ _ _ _ (Ne.symm h2), hv]
  refine ⟨k 0 _ (by decide) (by decide) h.c0, k 1 _ (by decide) (by decide) h.c1, k 2 _ (by decide) (by decide) h.c2, k 3 _ (by decide) (by decide) h.c3, k 4 _ (by decide) (by decide) h.c4, k 5 _ (by decide) (by decide) h.c5, ?_, ?_, k 8 _ (by decide) (by decide) h.c8, fun o => by simp only [World.frozen?_setCell]; exact h.fz o, by simpa using h.lt, World.ownsRow_nil _ _ _ _, fun x e => by cases e⟩
  · rw [cell_keep _ _ _ _ _ (by decide)]; exact World.cell?_setCell_same _ _ _ h.c6
  · exact World.cell?_setCell_same _ _ _ ((cell_keep _ _ _ _ _ (by decide)).trans h.c7)
theorem Rl.setDown {gl gr lc : Nat} {la : Option Addr} {L : Lm.Lg} {W : World} (h : Rl gl gr la lc L W) (x : Bool) : Rl gl gr la lc { L with down := x } (W.setCell ⟨gl, 8, none⟩ (.bool x)) := by
  have k : ∀ j v, j ≠ 8 → W.cell? ⟨gl, j, none⟩ = some v → (W.setCell ⟨gl, 8, none⟩ (.bool x)).cell? ⟨gl, j, none⟩ = some v := fun j v h2 hv => by
    rw [cell_keep _ _ _ _ _ (Ne.symm h2), hv]
  have hne : (Value.slice la L.l.length lc).ownBlock ≠ some gl := fun e => by
    cases la with
    | none => cases e
    | some a => injection e with e; exact h.ne a rfl e
  exact ⟨k 0 _ (by decide) h.c0, k 1 _ (by decide) h.c1, k 2 _ (by decide) h.c2, k 3 _ (by decide) h.c3, k 4 _ (by decide) h.c4, k 5 _ (by decide) h.c5, k 6 _ (by decide) h.c6, k 7 _ (by decide) h.c7, World.cell?_setCell_same _ _ _ h.c8, fun o => by simp only [World.frozen?_setCell]; exact h.fz o, by simpa using h.lt, own_set h.ls _ hne, h.ne⟩
set_option maxHeartbeats 2000000 in
set_option maxRecDepth 100000 in
theorem ref7_reset {gl gr kb kc wc lc : Nat} {wa la : Option Addr} {L : Lm.Lg} {d : Sm.Dv} {w : World} (b : List UInt8) (h : Rl gl gr la lc L w) (hd : Dr gr kb kc wa wc d w) (hne : gl ≠ gr ∧ gl ≠ kb) (hnl : ∀ x, la = some x → x.block ≠ gr ∧ x.block ≠ kb) (hnw : ∀ x, wa = some x → x.block ≠ gl) (hD : Dw d)
    (hn : (L.h.n : Int) ≤ 4611686018427388904) (he : (L.h.epoch : Int) ≤ 4294967295) (hbig : b.length ≤ 70000) :
    Calls Try.prog 17 #[.pointer (some ⟨gl, 0, none⟩), .string (st b)] w fun e w' => RxR gl gr kb kc wa la (Lm.reset L d b) w e w' := by
  have c8 := h.c8
  have hlt := h.lt
  have hss : (st b).size = b.length := st_size b
  obtain ⟨R, hR⟩ : ∃ R, R = Lm.reset L d b := ⟨_, rfl⟩
  rw [← hR]
  have HSELF : Hid (∀ code, R = (L, d, code) → RxR gl gr kb kc wa la R w (.returned (.int .i64 code)) w) := fun code e => by
    rw [e]; exact ⟨rfl, Only.refl _ _, wa, wc, la, lc, hd, fun x e => .inl e, h, fun x e => .inl e⟩
  obtain ⟨S, hS⟩ : ∃ S, S = st b := ⟨_, rfl⟩
  by_cases hdn : L.down = true
  case pos =>
    have hop := Lib.hid (HSELF.out 60 (by rw [hR]; unfold Lm.reset; rw [if_pos hdn]))
    rw [hdn] at c8
    rw [← hS] at hss ⊢
    clear h hd hne hnl hnw hD hn he hR hS hdn
    go_enter Try.func17, Try.ntmps17
    go_wp2
    go_ret
    exact hop.out
  case neg =>
  replace hdn : L.down = false := by simpa using hdn
  rw [hdn] at c8
  by_cases h32 : (32 : Int) < (b.length : Int)
  case pos =>
    have hop := Lib.hid (HSELF.out 2 (by rw [hR]; unfold Lm.reset; rw [hdn, if_neg (by decide), if_pos (by omega)]))
    rw [← hS] at hss ⊢
    obtain ⟨m, hm⟩ : ∃ m, m = b.length := ⟨_, rfl⟩
    rw [← hm] at hss h32 hbig
    clear h hd hne hnl hnw hD hn he hR hS hdn hm
    go_enter Try.func17, Try.ntmps17
    go_wp2
    go_ret
    exact hop.out
  case neg =>
  have HNX := Lib.hid (ref7_nextN b h hd hne hnl hnw hD hn he (by omega))
  obtain ⟨X, hX⟩ : ∃ X, X = Lm.next ⟨L.h.n + 1, L.h.epoch + 1, L.h.epoch + 1, b⟩ d := ⟨_, rfl⟩
  have hfr : Lm.next (Lm.fresh L b) d = X := hX.symm
  have H70 : Hid (X.2 = 70 → R = (L, d, 70) ∧ X.1 = d) := fun e => by
    have h7 := Lm.next_70 (hX ▸ e)
    have : X = (d, 70) := by rw [hX]; unfold Lm.next; rw [if_pos h7]
    exact ⟨by rw [hR]; unfold Lm.reset; rw [hdn, if_neg (by decide), if_neg (by omega), if_pos ⟨by rw [hfr, e], h7⟩], by rw [this]⟩
  have HER : Hid (X.2 ≠ 0 → X.2 ≠ 70 → R = ({ L with down := true }, X.1, X.2)) := fun e e2 => by
    rw [hR]; unfold Lm.reset; rw [hdn, if_neg (by decide), if_neg (by omega), if_neg (fun h => e2 (hfr ▸ h.1)), if_pos (by rw [hfr]; exact e), hfr]
  have HOK : Hid (X.2 = 0 → R = ({ L with h := Lm.fresh L b, l := [], at_ := 0 }, X.1, 0)) := fun e => by
    rw [hR]; unfold Lm.reset; rw [hdn, if_neg (by decide), if_neg (by omega), if_neg (fun h => by rw [hfr, e] at h; exact absurd h.1 (by decide)), if_neg (by rw [hfr, e]; exact fun h => h rfl), hfr]
  have HNE := Lib.hid hne; have HNL := Lib.hid hnl; have HNW := Lib.hid hnw; have HD := Lib.hid hd
  unfold NxR at HNX
  rw [← hX] at HNX
  obtain ⟨xc, hxc⟩ : ∃ xc, xc = X.2 := ⟨_, rfl⟩
  rw [← hxc] at HNX H70 HER HOK
  obtain ⟨m, hm⟩ : ∃ m, m = b.length := ⟨_, rfl⟩
  rw [← hS] at hss HNX ⊢
  rw [← hm] at hss h32 hbig
  have HLT := Lib.hid hlt
  have HDN := Lib.hid hdn
  clear h hd hne hnl hnw hD hn he hR hS hdn hX hfr hxc hm HSELF
  go_enter Try.func17, Try.ntmps17
  go_wp2_with fail
  refine HNX.out.mono ?_
  rintro e w1 ⟨rfl, ho, wa1, wc1, hd1, hwa1, hl1⟩
  have HO := Lib.hid ho; have HD1 := Lib.hid hd1; have HWA := Lib.hid hwa1
  clear ho hd1 hwa1 c8 hlt
  by_cases hz : xc = 0
  case pos =>
    subst hz
    rw [if_pos rfl] at hl1
    have HL1 := Lib.hid hl1
    have c6 := hl1.c6; have c7 := hl1.c7; have fz := hl1.fz; have hlt1 := hl1.lt
    obtain ⟨N6, hN6⟩ : ∃ N6, N6 = L.l.length := ⟨_, rfl⟩
    obtain ⟨A7, hA7⟩ : ∃ A7 : Int, A7 = (L.at_ : Int) := ⟨_, rfl⟩
    replace c6 : w1.cell? ⟨gl, 6, none⟩ = some (.slice la N6 lc) := by rw [hN6]; exact c6
    replace c7 : w1.cell? ⟨gl, 7, none⟩ = some (.int .i64 A7) := by rw [hA7]; exact c7
    have hop := Lib.hid (HOK.out rfl)
    clear hl1 hN6 hA7
    go_wp2
    go_ret
    rw [hop.out]
    have hoc := (only_cell w1 gl 6 (.slice none 0 0)).trans (only_cell _ gl 7 (.int .i64 0))
    refine ⟨rfl, HO.out.trans (hoc.mono (fun k _ e => .inl e)), wa1, wc1, none, 0, HD1.out.keepO hoc (fun e => HNE.out.1 e.symm) (fun e => HNE.out.2 e.symm) (fun x e e2 => ?_), fun x e => ?_, HL1.out.setNil, fun x e => by cases e⟩
    · rcases HWA.out x e with h | h
      · exact HNW.out x h e2
      · have := HLT.out; omega
    · have := HWA.out x e; simpa using this
  case neg =>
    rw [if_neg hz] at hl1
    have HL1 := Lib.hid hl1
    have c8 := hl1.c8; have fz := hl1.fz; have hlt1 := hl1.lt
    rw [HDN.out] at c8
    clear hl1
    by_cases h7 : xc = 70
    case pos =>
      subst h7
      obtain ⟨hr, hx⟩ := H70.out rfl
      have HR := Lib.hid hr; have HX := Lib.hid hx
      clear hr hx
      go_wp2
      go_ret
      rw [HR.out]
      have hoc := only_cell w1 gl 8 (.bool false)
      have hset := HL1.out.setDown false
      refine ⟨rfl, HO.out.trans (hoc.mono (fun k _ e => .inl e)), wa1, wc1, la, lc, ?_, fun x e => ?_, ?_, fun x e => .inl e⟩
      · rw [← HX.out]
        refine HD1.out.keepO hoc (fun e => HNE.out.1 e.symm) (fun e => HNE.out.2 e.symm) (fun x e e2 => ?_)
        rcases HWA.out x e with h | h
        · exact HNW.out x h e2
        · have := HLT.out; omega
      · have := HWA.out x e; simpa using this
      · rw [show ({ L with down := false } : Lm.Lg) = L by rw [← HDN.out]] at hset; exact hset
    case neg =>
      have hop := Lib.hid (HER.out hz h7)
      have z7 : (xc != 70) = true := by simp [h7]
      go_wp2
      go_ret
      rw [hop.out]
      have hoc := only_cell w1 gl 8 (.bool true)
      have hset := HL1.out.setDown true
      refine ⟨rfl, HO.out.trans (hoc.mono (fun k _ e => .inl e)), wa1, wc1, la, lc, HD1.out.keepO hoc (fun e => HNE.out.1 e.symm) (fun e => HNE.out.2 e.symm) (fun x e e2 => ?_), fun x e => ?_, hset, fun x e => .inl e⟩
      · rcases HWA.out x e with h | h
        · exact HNW.out x h e2
        · have := HLT.out; omega
      · have := HWA.out x e; simpa using this
end Go.Proofs.Ytofbignggadkiaa
