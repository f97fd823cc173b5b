/- Layer 8: rows and nodes in memory, apart from the blocks ex. -/
import Derived.Test.YtdchapcpimhjaaaSecBase
import Derived.Test.YtdchapcpimhjaaaTreR
namespace Go.Proofs.Ytdchapcpimhjaaa
open Go.RowKit

theorem only_of8 {p : Nat → Prop} {w w' : World} (h : Below w.heap.size w w') : Only p w w' := ⟨h.os, h.tape, h.output, h.size, fun k hk _ => h.block k hk⟩
theorem below_dn8 (w : World) (k : Nat) : Below w.heap.size w (w.drewN k) := ⟨rfl, rfl, rfl, Nat.le_refl _, fun _ _ => rfl⟩
theorem below_dr8 (w : World) : Below w.heap.size w w.drew := ⟨rfl, rfl, rfl, Nat.le_refl _, fun _ _ => rfl⟩
theorem one_b8 (w : World) (x : Obj) : Below w.heap.size w (w.alloc x) := (Below.refl _ _).alloc (Nat.le_refl _) _
theorem bstr_toList (l : List UInt8) : (bstr l).toList = l := by
  rw [Go.ByteArray.toList_eq]; rfl
theorem cell_only8 {p : Nat → Prop} {w w' : World} (h : Only p w w') {q : Addr} (hq : q.block < w.heap.size) (hp : ¬ p q.block) : w'.cell? q = w.cell? q := by
  have hb := h.block q.block hq hp
  obtain ⟨b, o, s⟩ := q
  simp only at hb
  simp [World.cell?, hb]
def ixOf : Value → Int
  | .int _ n => n
  | _ => 0
def ptr (p : Nat) : Value := .pointer (some ⟨p, 0, none⟩)
def sk (ks : List Tm.K) : List Value := ks.map fun k => Value.string (bstr k)
def iv (l : List Int) : List Value := l.map fun i => Value.int .i64 i
def pv (l : List Nat) : List Value := l.map ptr
/-- A ROW THAT IS NOT WRITTEN ANY MORE, apart from ex -/
structure Rv (ex : Nat → Prop) (a : Option Addr) (n c : Nat) (vs : List Value) (W : World) : Prop where
  ln : n = vs.length
  row : 0 < n → ∃ g off, a = some ⟨g, off, none⟩ ∧ n ≤ c ∧ g < W.heap.size ∧ ¬ ex g ∧ ∀ j, j < n → W.cell? ⟨g, off + j, none⟩ = some (vs.getD j (.int .i64 0))
theorem Rv.keep {ex : Nat → Prop} {a : Option Addr} {n c : Nat} {vs : List Value} {W W' : World} (h : Rv ex a n c vs W) (ho : Only ex W W') : Rv ex a n c vs W' :=
  ⟨h.ln, fun h0 => by
    obtain ⟨g, off, e, hc, hg, hx, hcell⟩ := h.row h0
    exact ⟨g, off, e, hc, by have := ho.size; omega, hx, fun j hj => (cell_only8 ho (q := ⟨g, off + j, none⟩) hg hx).trans (hcell j hj)⟩⟩
theorem Rv.below {ex : Nat → Prop} {a : Option Addr} {n c : Nat} {vs : List Value} {W W' : World} (h : Rv ex a n c vs W) (hb : Below W.heap.size W W') : Rv ex a n c vs W' := h.keep (only_of8 hb)
theorem Rv.mono {ex ex' : Nat → Prop} {a : Option Addr} {n c : Nat} {vs : List Value} {W : World} (h : Rv ex a n c vs W) (hx : ∀ k, k < W.heap.size → ex' k → ex k) : Rv ex' a n c vs W :=
  ⟨h.ln, fun h0 => by
    obtain ⟨g, off, e, hc, hg, hxg, hcell⟩ := h.row h0
    exact ⟨g, off, e, hc, hg, fun e2 => hxg (hx g hg e2), hcell⟩⟩
theorem Rv.nil (ex : Nat → Prop) (a : Option Addr) (c : Nat) (W : World) : Rv ex a 0 c [] W := ⟨rfl, fun h => absurd h (Nat.lt_irrefl 0)⟩
theorem Rv.at {ex : Nat → Prop} {a : Option Addr} {n c : Nat} {vs : List Value} {W : World} (h : Rv ex a n c vs W) (h0 : 0 < n) : ∃ g off, a = some ⟨g, off, none⟩ ∧ n ≤ c ∧ g < W.heap.size ∧ ∀ j, j < n → W.cell? ⟨g, off + j, none⟩ = some (vs.getD j (.int .i64 0)) := by
  obtain ⟨g, off, e, hc, hg, _, hcell⟩ := h.row h0
  exact ⟨g, off, e, hc, hg, hcell⟩
/-- a part of a row -/
theorem Rv.take {ex : Nat → Prop} {a : Option Addr} {n c : Nat} {vs : List Value} {W : World} (h : Rv ex a n c vs W) (m : Nat) (hm : m ≤ n) (c' : Nat) (hc' : n ≤ c → m ≤ c') : Rv ex a m c' (vs.take m) W :=
  ⟨by rw [List.length_take, ← h.ln]; omega, fun h0 => by
    obtain ⟨g, off, e, hc, hg, hx, hcell⟩ := h.row (by omega)
    refine ⟨g, off, e, hc' hc, hg, hx, fun j hj => ?_⟩
    rw [hcell j (by omega)]
    simp [List.getD, hj]⟩
theorem Rv.drop {ex : Nat → Prop} {g off n c : Nat} {vs : List Value} {W : World} (h : Rv ex (some ⟨g, off, none⟩) n c vs W) (m : Nat) (_hm : m ≤ n) : Rv ex (some ⟨g, off + m, none⟩) (n - m) (c - m) (vs.drop m) W :=
  ⟨by rw [List.length_drop, ← h.ln], fun h0 => by
    obtain ⟨g', off', e, hc, hg, hx, hcell⟩ := h.row (by omega)
    injection e with e
    injection e with e1 e2 _
    subst e1 e2
    refine ⟨g, off + m, rfl, by omega, hg, hx, fun j hj => ?_⟩
    rw [show off + m + j = off + (m + j) by omega, hcell (m + j) (by omega)]
    simp [List.getD, List.getElem?_drop]⟩
theorem Rv.src {ex : Nat → Prop} {a : Option Addr} {n c : Nat} {vs : List Value} {W : World} {T e : TypeId} (h : Rv ex a n c vs W) (hT : Try.prog.underlying T = some (.slice e)) (h1 : ∀ u ∈ vs, u.oneCell' = true) : Src Try.prog 1 T (.slice a n c) n vs W := by
  rcases Nat.eq_zero_or_pos n with h0 | h0
  · have hn := h.ln
    rw [h0] at hn
    have hv : vs = [] := List.eq_nil_of_length_eq_zero hn.symm
    subst h0 hv
    cases a with
    | none => exact Src.ofNil W hT c
    | some a => exact Src.ofSlice W hT a 0 c [] rfl (fun j u h => by simp at h) (fun u h => by simp at h)
  · obtain ⟨g, off, rfl, hc, hg, hcell⟩ := h.at h0
    have hn := h.ln
    refine Src.ofSlice W hT ⟨g, off, none⟩ n c vs (by omega) (fun j u hj => ?_) h1
    have hjn : j < n := by rw [hn]; exact (List.getElem?_eq_some_iff.1 hj).1
    have hadd : (⟨g, off, none⟩ : Addr).add j = ⟨g, off + j, none⟩ := by unfold Addr.add; split <;> simp_all
    rw [hadd, hcell j hjn]
    simp [List.getD, hj]
theorem sk_one (l : List Tm.K) : ∀ u ∈ sk l, u.oneCell' = true := by intro u hu; obtain ⟨b, _, rfl⟩ := List.mem_map.1 hu; rfl
theorem iv_one (l : List Int) : ∀ u ∈ iv l, u.oneCell' = true := by intro u hu; obtain ⟨b, _, rfl⟩ := List.mem_map.1 hu; rfl
theorem pv_one (l : List Nat) : ∀ u ∈ pv l, u.oneCell' = true := by intro u hu; obtain ⟨b, _, rfl⟩ := List.mem_map.1 hu; rfl
theorem sk_get (l : List Tm.K) {j : Nat} (hj : j < l.length) : (sk l).getD j (.int .i64 0) = .string (bstr (l.getD j [])) := by simp [sk, List.getD, List.getElem?_eq_getElem hj]
theorem iv_get (l : List Int) {j : Nat} (hj : j < l.length) : (iv l).getD j (.int .i64 0) = .int .i64 (l.getD j 0) := by simp [iv, List.getD, List.getElem?_eq_getElem hj]
theorem pv_get (l : List Nat) {j : Nat} (hj : j < l.length) : (pv l).getD j (.int .i64 0) = ptr (l.getD j 0) := by simp [pv, List.getD, List.getElem?_eq_getElem hj]
/-- a row of one's own is such a row -/
theorem Rv.of_own {ex : Nat → Prop} {W : World} {B : Nat} {E : TypeId} {a : Option Addr} {n c : Nat} {vs : List Value} (h : W.ownsRow B E 1 (.slice a n c) n vs) (hx : ∀ k, B ≤ k → ¬ ex k) : Rv ex a n c vs W := by
  obtain ⟨h1, h2⟩ := h
  refine ⟨by omega, fun h0 => ?_⟩
  rcases h2 with ⟨_, e⟩ | ⟨g, cap, cur, e, hB, hg, hnc, hm, hs, ht⟩
  · omega
  · injection e with e1 e2 e3
    subst e1 e3
    refine ⟨g, 0, rfl, hnc, (Array.getElem?_eq_some_iff.1 hg).1, hx g hB, fun j hj => ?_⟩
    have hb : vs[j]? = some (vs.getD j (.int .i64 0)) := by simp [List.getD, List.getElem?_eq_getElem (show j < vs.length by omega)]
    rw [← ht, List.getElem?_take] at hb
    rw [Lib.cell_of_heap hg, Nat.zero_add]
    split at hb
    · rw [ht] at hb; simpa using hb
    · cases hb
/-- a node's four cells -/
def Nb (p : Nat) (ka : Option Addr) (kn kc : Nat) (va : Option Addr) (vn vc : Nat) (ba : Option Addr) (bn bc sz : Nat) (W : World) : Prop :=
  W.heap[p]? = some (.cells #[.slice ka kn kc, .slice va vn vc, .slice ba bn bc, .int .i64 (sz : Int)] 90 (0, 0))
/-- nil, or a row of its own -/
def Fm (a : Option Addr) (n c : Nat) : Prop := (a = none ∧ n = 0 ∧ c = 0) ∨ ∃ g off, a = some ⟨g, off, none⟩
/-- capacities are small -/
def Cp (kc vc bc : Nat) : Prop := kc ≤ 64 ∧ vc ≤ 64 ∧ bc ≤ 64
/-- A NODE, h levels above the leaves, and all below it, apart from ex -/
def Tn (ex : Nat → Prop) : Nat → Nat → Tm.T → World → Prop
  | 0, p, t, W => ∃ l, t = .leaf l ∧ ¬ ex p ∧ ∃ ka kc va vc ba bc, Nb p ka l.length kc va l.length vc ba 0 bc l.length W ∧ Rv ex ka l.length kc (sk (l.map (·.1))) W ∧ Rv ex va l.length vc (iv (l.map (·.2))) W ∧ Cp kc vc bc ∧ Fm ka l.length kc ∧ Fm va l.length vc
  | h + 1, p, t, W => ∃ ks ps, t = .inner ks ∧ ¬ ex p ∧ ps.length = ks.length ∧ (∃ ka kc va vc ba bc, Nb p ka ks.length kc va 0 vc ba ks.length bc (Tm.flats h ks).length W ∧ Rv ex ka ks.length kc (sk (ks.map (Tm.fk h))) W ∧ Rv ex ba ks.length bc (pv ps) W ∧ Cp kc vc bc) ∧
      ∀ j, j < ks.length → Tn ex h (ps.getD j 0) (ks.getD j (.leaf [])) W
theorem Nb.lt {p : Nat} {ka va ba : Option Addr} {kn kc vn vc bn bc sz : Nat} {W : World} (h : Nb p ka kn kc va vn vc ba bn bc sz W) : p < W.heap.size := heap_lt h
theorem Nb.keep {ex : Nat → Prop} {p : Nat} {ka va ba : Option Addr} {kn kc vn vc bn bc sz : Nat} {W W' : World} (h : Nb p ka kn kc va vn vc ba bn bc sz W) (ho : Only ex W W') (hx : ¬ ex p) : Nb p ka kn kc va vn vc ba bn bc sz W' := by
  unfold Nb; rw [ho.block p h.lt hx]; exact h
theorem Tn.keep {ex : Nat → Prop} : ∀ {h p : Nat} {t : Tm.T} {W W' : World}, Tn ex h p t W → Only ex W W' → Tn ex h p t W'
  | 0, _, _, _, _, ht, ho => by
    obtain ⟨l, e, hx, ka, kc, va, vc, ba, bc, hn, hk, hv, hcp⟩ := ht
    exact ⟨l, e, hx, ka, kc, va, vc, ba, bc, hn.keep ho hx, hk.keep ho, hv.keep ho, hcp⟩
  | h + 1, _, _, _, _, ht, ho => by
    obtain ⟨ks, ps, e, hx, hl, ⟨ka, kc, va, vc, ba, bc, hn, hk, hv, hcp⟩, hj⟩ := ht
    exact ⟨ks, ps, e, hx, hl, ⟨ka, kc, va, vc, ba, bc, hn.keep ho hx, hk.keep ho, hv.keep ho, hcp⟩, fun j hj2 => (hj j hj2).keep ho⟩
theorem Tn.below {ex : Nat → Prop} {h p : Nat} {t : Tm.T} {W W' : World} (ht : Tn ex h p t W) (hb : Below W.heap.size W W') : Tn ex h p t W' := ht.keep (only_of8 hb)
theorem Tn.lt {ex : Nat → Prop} : ∀ {h p : Nat} {t : Tm.T} {W : World}, Tn ex h p t W → p < W.heap.size ∧ ¬ ex p
  | 0, _, _, _, ht => by obtain ⟨l, e, hx, ka, kc, va, vc, ba, bc, hn, _⟩ := ht; exact ⟨hn.lt, hx⟩
  | _ + 1, _, _, _, ht => by obtain ⟨ks, ps, e, hx, hl, ⟨ka, kc, va, vc, ba, bc, hn, _⟩, _⟩ := ht; exact ⟨hn.lt, hx⟩
theorem Tn.mono {ex ex' : Nat → Prop} : ∀ {h p : Nat} {t : Tm.T} {W : World}, Tn ex h p t W → (∀ k, k < W.heap.size → ex' k → ex k) → Tn ex' h p t W
  | 0, _, _, _, ht, hx' => by
    obtain ⟨l, e, hx, ka, kc, va, vc, ba, bc, hn, hk, hv, hcp⟩ := ht
    exact ⟨l, e, fun e2 => hx (hx' _ hn.lt e2), ka, kc, va, vc, ba, bc, hn, hk.mono hx', hv.mono hx', hcp⟩
  | h + 1, _, _, _, ht, hx' => by
    obtain ⟨ks, ps, e, hx, hl, ⟨ka, kc, va, vc, ba, bc, hn, hk, hv, hcp⟩, hj⟩ := ht
    exact ⟨ks, ps, e, fun e2 => hx (hx' _ hn.lt e2), hl, ⟨ka, kc, va, vc, ba, bc, hn, hk.mono hx', hv.mono hx', hcp⟩, fun j hj2 => (hj j hj2).mono hx'⟩
/-- what every node has: its keys and how many pairs there are below it -/
theorem Tn.node {ex : Nat → Prop} : ∀ {h p : Nat} {t : Tm.T} {W : World}, Tn ex h p t W → ∃ ka kc va vn vc ba bn bc, Nb p ka (Tm.keys h t).length kc va vn vc ba bn bc (Tm.flat h t).length W ∧ Rv ex ka (Tm.keys h t).length kc (sk (Tm.keys h t)) W ∧ (bn = t.ks.length) ∧ (0 < h ∨ bn = 0) ∧ Cp kc vc bc
  | 0, _, _, _, ht => by
    obtain ⟨l, rfl, hx, ka, kc, va, vc, ba, bc, hn, hk, hv, hcp⟩ := ht
    have e : (Tm.keys 0 (.leaf l)).length = l.length := List.length_map _
    refine ⟨ka, kc, va, l.length, vc, ba, 0, bc, ?_, ?_, rfl, .inr rfl, hcp.1⟩
    · rw [e]; exact hn
    · rw [e]; exact hk
  | h + 1, _, _, _, ht => by
    obtain ⟨ks, ps, rfl, hx, hl, ⟨ka, kc, va, vc, ba, bc, hn, hk, hv, hcp⟩, hj⟩ := ht
    have e : (Tm.keys (h + 1) (.inner ks)).length = ks.length := List.length_map _
    refine ⟨ka, kc, va, 0, vc, ba, ks.length, bc, ?_, ?_, rfl, .inl (Nat.succ_pos _), hcp⟩
    · rw [e]; exact hn
    · rw [e]; exact hk
end Go.Proofs.Ytdchapcpimhjaaa
