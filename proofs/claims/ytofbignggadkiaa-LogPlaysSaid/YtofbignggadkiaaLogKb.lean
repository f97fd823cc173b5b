/- Package log: a batch is put behind the others in memory; the other fields of a log are set. -/
import Derived.Test.YtofbignggadkiaaLogKy
namespace Go.Proofs.Ytofbignggadkiaa
open Go.RowKit

theorem info39k : (Try.prog.info? 39).map (fun i => (i.zero, i.size, i.bytes)) = some (some (.slice none 0 0), 1, 24) := by kernel_rfl
theorem getD_app_l {l : List (List UInt8)} {b : List UInt8} {j : Nat} (h : j < l.length) : (l ++ [b]).getD j [] = l.getD j [] := by
  simp [List.getD, List.getElem?_append_left h]
theorem getD_app_r {l : List (List UInt8)} {b : List UInt8} : (l ++ [b]).getD l.length [] = b := by
  simp [List.getD]
theorem Lk.push {gl g : Nat} {ha : Option Addr} {hc : Nat} {ba : Option Addr} {bc : Nat} {vs : List Value} {Y : Nat → Prop} {L : Lm.Lg} {W w1 : World} (h : Lk gl g ha hc ba bc vs Y L W) (a : Option Addr) (c : Nat) (b : List UInt8) (hy : Yt (.slice a b.length c) b W)
    (hx : 0 < b.length → ∀ x, a = some x → x.block < W.heap.size ∧ x.block ≠ gl ∧ ∀ y, ba = some y → y.block ≠ x.block) {v' : Value} (hown : w1.ownsRow 0 39 1 v' (L.l.length + 1) (vs ++ [.slice a b.length c])) (hgrow : W.grownBy w1 (Value.slice ba L.l.length bc).ownBlock)
    (hv : v'.ownBlock = (Value.slice ba L.l.length bc).ownBlock ∨ v'.ownBlock = some W.heap.size) :
    ∃ ba' bc', v' = .slice ba' (L.l.length + 1) bc' ∧ Lk gl g ha hc ba' bc' (vs ++ [.slice a b.length c]) (Yh Y b.length a) { L with l := L.l ++ [b] } (w1.setCell ⟨gl, 6, none⟩ v') ∧ (∀ x, ba' = some x → (∃ y, ba = some y ∧ y.block = x.block) ∨ x.block = W.heap.size) := by
  have hvl : vs.length = L.l.length := by have := h.bo.1; omega
  have hob : ∀ k, (Value.slice ba L.l.length bc).ownBlock = some k ↔ ∃ x, ba = some x ∧ x.block = k := by
    intro k
    cases ba with
    | none => simp [Value.ownBlock]
    | some x => simp [Value.ownBlock]
  have hO : Only (fun k => ∃ x, ba = some x ∧ x.block = k) W w1 := (Only.refl _ W).grown hgrow (fun k e => .inl ((hob k).1 e))
  have hgl := h.lt gl (.inl rfl)
  have hglb : ¬ ∃ x, ba = some x ∧ x.block = gl := fun ⟨x, e, e2⟩ => (h.yb x e).1 e2
  have hcc : ∀ o, w1.cell? ⟨gl, o, none⟩ = W.cell? ⟨gl, o, none⟩ := fun o => cell_only hO (q := ⟨gl, o, none⟩) hgl hglb
  obtain ⟨_, h2⟩ := hown
  rcases h2 with ⟨_, h0⟩ | ⟨b2, cap, cur, rfl, hB, hg2, hcap, hmax, hsz, htk⟩
  · cases h0
  have hb2 : (∃ y, ba = some y ∧ y.block = b2) ∨ b2 = W.heap.size := by
    rcases hv with e | e
    · exact .inl ((hob b2).1 (by rw [← e]; rfl))
    · exact .inr (by simpa [Value.ownBlock] using e)
  have hb2g : b2 ≠ gl := by
    rcases hb2 with ⟨y, e, e2⟩ | e
    · exact fun e3 => hglb ⟨y, e, e2.trans e3⟩
    · omega
  have hoc := only_cell w1 gl 6 (.slice (some ⟨b2, 0, none⟩) (L.l.length + 1) cap)
  refine ⟨some ⟨b2, 0, none⟩, cap, rfl, ?_, fun x e => by injection e with e; subst e; exact hb2⟩
  have keepY : ∀ (a1 : Option Addr) (c1 : Nat) (l1 : List UInt8), Yt (.slice a1 l1.length c1) l1 W → (0 < l1.length → ∀ x, a1 = some x → x.block ≠ gl ∧ ∀ y, ba = some y → y.block ≠ x.block) → Yt (.slice a1 l1.length c1) l1 (w1.setCell ⟨gl, 6, none⟩ (.slice (some ⟨b2, 0, none⟩) (L.l.length + 1) cap)) := fun a1 c1 l1 hy1 hz =>
    (hy1.keepO hO (fun h0 x e ⟨y, e1, e2⟩ => (hz h0 x e).2 y e1 e2)).keepO hoc (fun h0 x e hp => (hz h0 x e).1 hp)
  have hYl : ∀ x : Addr, Y x.block → x.block ≠ gl ∧ ∀ y, ba = some y → y.block ≠ x.block := fun x hk => ⟨fun e => h.yg (e ▸ hk), fun y e e2 => (h.yb y e).2 (e2 ▸ hk)⟩
  refine ⟨cs_off ((hcc 0).trans h.c0) (by decide), cs_off ((hcc 1).trans h.c1) (by decide), cs_off ((hcc 2).trans h.c2) (by decide), cs_off ((hcc 3).trans h.c3) (by decide), cs_off ((hcc 4).trans h.c4) (by decide), cs_off ((hcc 5).trans h.c5) (by decide), ?_, cs_off ((hcc 7).trans h.c7) (by decide), cs_off ((hcc 8).trans h.c8) (by decide),
    fun o => ?_, fun k hk => ?_, keepY _ _ _ h.hy (fun h0 x e => hYl x (h.hY h0 x e)), fun h0 x e => .inl (h.hY h0 x e), ⟨?_, .inr ⟨b2, cap, cur, ?_, Nat.zero_le _, ?_, ?_, hmax, hsz, ?_⟩⟩, fun j hj => ?_, fun hk => ?_, fun x e => ?_⟩
  · rw [List.length_append, List.length_singleton]; exact cs_same ((hcc 6).trans h.c6)
  · rw [World.frozen?_setCell]
    have := hO.block gl hgl hglb
    rw [show w1.frozen? ⟨gl, o, none⟩ = W.frozen? ⟨gl, o, none⟩ by simp [World.frozen?, this]]; exact h.fz o
  · have hs := hO.size
    have hsz2 : (w1.setCell ⟨gl, 6, none⟩ (.slice (some ⟨b2, 0, none⟩) (L.l.length + 1) cap)).heap.size = w1.heap.size := by simp [World.setCell]
    rw [hsz2]
    rcases hk with rfl | ⟨x, e, rfl⟩ | hk | ⟨h0, x, e, rfl⟩
    · omega
    · injection e with e; subst e; exact heap_lt hg2
    · have := h.lt k (.inr (.inr hk)); omega
    · have := (hx h0 x e).1; omega
  · rw [List.length_append, List.length_append, hvl, List.length_singleton, List.length_singleton, Nat.mul_one]
  · rw [List.length_append]; try rfl
  · rw [hoc.block b2 (heap_lt hg2) hb2g]; exact hg2
  · rw [List.length_append]; exact hcap
  · rw [List.length_append]; exact htk
  · rw [List.length_append, List.length_singleton] at hj
    by_cases hjl : j < L.l.length
    · obtain ⟨a1, c1, e1, e2, e3⟩ := h.bv j hjl
      refine ⟨a1, c1, ?_, ?_⟩
      · show (vs ++ _)[j]? = _
        rw [List.getElem?_append_left (by omega)]; simp only [getD_app_l hjl]; exact e1
      · simp only [getD_app_l hjl]
        exact ⟨keepY _ _ _ e2 (fun h0 x e => hYl x (e3 h0 x e)), fun h0 x e => .inl (e3 h0 x e)⟩
    · have hje : j = L.l.length := by omega
      subst hje
      refine ⟨a, c, ?_, ?_⟩
      · show (vs ++ _)[_]? = _
        rw [List.getElem?_append_right (by omega), hvl, Nat.sub_self]; simp only [getD_app_r]; rfl
      · simp only [getD_app_r]
        exact ⟨keepY _ _ _ hy (fun h0 x e => (hx h0 x e).2), fun h0 x e => .inr ⟨h0, x, e, rfl⟩⟩
  · rcases hk with hk | ⟨h0, x, e, hk⟩
    · exact h.yg hk
    · exact (hx h0 x e).2.1 hk
  · injection e with e
    subst e
    refine ⟨hb2g, fun hk => ?_⟩
    rcases hb2 with ⟨y, e1, e2⟩ | e
    · rcases hk with hk | ⟨h0, z, e, hk⟩
      · exact (h.yb y e1).2 (by rw [e2]; exact hk)
      · exact (hx h0 z e).2.2 y e1 (e2.trans hk.symm)
    · rcases hk with hk | ⟨h0, z, e', hk⟩
      · have := h.lt b2 (.inr (.inr hk)); omega
      · have := (hx h0 z e').1; simp only at hk; omega
/-- one number or one truth of the log is set -/
theorem Lk.setAt {gl g : Nat} {ha : Option Addr} {hc : Nat} {ba : Option Addr} {bc : Nat} {vs : List Value} {Y : Nat → Prop} {L : Lm.Lg} {W : World} (h : Lk gl g ha hc ba bc vs Y L W) (x : Nat) : Lk gl g ha hc ba bc vs Y { L with at_ := x } (W.setCell ⟨gl, 7, none⟩ (.int .i64 (x : Int))) := by
  obtain ⟨h1, h2, h3, h4⟩ := h.only (only_cell W gl 7 (.int .i64 (x : Int)))
  exact ⟨cs_off h.c0 (by decide), cs_off h.c1 (by decide), cs_off h.c2 (by decide), cs_off h.c3 (by decide), cs_off h.c4 (by decide), cs_off h.c5 (by decide), cs_off h.c6 (by decide), cs_same h.c7, cs_off h.c8 (by decide), fun o => by rw [World.frozen?_setCell]; exact h.fz o, h1, h2, h.hY, h3, h4, h.yg, h.yb⟩
theorem Lk.setDown {gl g : Nat} {ha : Option Addr} {hc : Nat} {ba : Option Addr} {bc : Nat} {vs : List Value} {Y : Nat → Prop} {L : Lm.Lg} {W : World} (h : Lk gl g ha hc ba bc vs Y L W) (x : Bool) : Lk gl g ha hc ba bc vs Y { L with down := x } (W.setCell ⟨gl, 8, none⟩ (.bool x)) := by
  obtain ⟨h1, h2, h3, h4⟩ := h.only (only_cell W gl 8 (.bool x))
  exact ⟨cs_off h.c0 (by decide), cs_off h.c1 (by decide), cs_off h.c2 (by decide), cs_off h.c3 (by decide), cs_off h.c4 (by decide), cs_off h.c5 (by decide), cs_off h.c6 (by decide), cs_off h.c7 (by decide), cs_same h.c8, fun o => by rw [World.frozen?_setCell]; exact h.fz o, h1, h2, h.hY, h3, h4, h.yg, h.yb⟩
theorem Lk.setNil {gl g : Nat} {ha : Option Addr} {hc : Nat} {ba : Option Addr} {bc : Nat} {vs : List Value} {Y : Nat → Prop} {L : Lm.Lg} {W : World} (h : Lk gl g ha hc ba bc vs Y L W) : Lk gl g ha hc none 0 [] Y { L with l := [] } (W.setCell ⟨gl, 6, none⟩ (.slice none 0 0)) := by
  obtain ⟨h1, h2, h3, h4⟩ := h.only (only_cell W gl 6 (.slice none 0 0))
  exact ⟨cs_off h.c0 (by decide), cs_off h.c1 (by decide), cs_off h.c2 (by decide), cs_off h.c3 (by decide), cs_off h.c4 (by decide), cs_off h.c5 (by decide), cs_same h.c6, cs_off h.c7 (by decide), cs_off h.c8 (by decide), fun o => by rw [World.frozen?_setCell]; exact h.fz o,
    fun k hk => by rcases hk with rfl | ⟨x, e, _⟩ | hk; exact h1 _ (.inl rfl); cases e; exact h1 _ (.inr (.inr hk)), h2, h.hY, ⟨rfl, .inl ⟨rfl, rfl⟩⟩, fun j hj => absurd hj (by simp), h.yg, fun x e => by cases e⟩
end Go.Proofs.Ytofbignggadkiaa
