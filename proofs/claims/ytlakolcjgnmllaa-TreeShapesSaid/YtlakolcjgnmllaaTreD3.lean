/- Package tree: Delete; what a nil tree answers. -/
import Derived.Test.YtlakolcjgnmllaaTreD2
namespace Go.Proofs.Ytlakolcjgnmllaa
open Go.RowKit

/-- a key that is not there -/
theorem tre_delete_no {ex : Nat → Prop} {v : Value} {h lo : Nat} {t : Tm.T} {k : Tm.K} {W : World} (hp : Tp ex v h t W) (hlo : h = 0 ∨ 1 ≤ lo) (hw : Tm.Wf h lo t) (ha : Tm.Asc (Tm.flat h t)) (hk : Tm.has (Tm.flat h t) k = false) :
    Calls Try.prog 12 #[v, .string (bstr k)] W fun e w' => e = .returned (.bool false) ∧ Below W.heap.size W w' := by
  have HG := Lib.hid (tre_get (k := k) hp hlo hw ha)
  rw [Tm.get_none _ _ hk] at HG
  generalize bstr k = S at *
  clear hp hlo hw ha hk
  go_enter Try.func12, Try.ntmps12
  go_wp2_with fail
  refine HG.out.mono ?_
  rintro e w1 ⟨rfl, hb⟩
  have HB := Lib.hid hb
  clear hb
  go_wp2
  go_ret
  exact ⟨rfl, HB.out⟩
theorem tre_put_nil {W : World} (S : ByteArray) (v : Int) : Calls Try.prog 10 #[.pointer none, .string S, .int .i64 v] W fun e w' => e = .returned (.bool false) ∧ W = w' := by
  go_enter Try.func10, Try.ntmps10
  go_wp2
  go_ret
  exact ⟨rfl, rfl⟩
theorem tre_copy_nil {W : World} : Calls Try.prog 13 #[.pointer none] W fun e w' => e = .returned (.pointer none) ∧ W = w' := by
  go_enter Try.func13, Try.ntmps13
  go_wp2
  go_ret
  exact ⟨rfl, rfl⟩
/-- the root that is left, and where its kids lie -/
theorem Tn.kidn {ex : Nat → Prop} {h p : Nat} {t : Tm.T} {W : World} (ht : Tn ex h p t W) : ∃ ba bc, W.cell? ⟨p, 2, none⟩ = some (.slice ba t.ks.length bc) := by
  obtain ⟨ka, kc, va, vn, vc, ba, bn, bc, hn, _, hb, _⟩ := ht.node
  subst hb
  exact ⟨ba, bc, by rw [Lib.cell_of_heap hn]; rfl⟩
set_option maxHeartbeats 1000000 in
set_option maxRecDepth 100000 in
theorem tre_delete_yes {ex : Nat → Prop} {t : Nat} {x : Nat × Tm.T} {k : Tm.K} {W : World} (h : Tr ex t (some x) W) (hk : Tm.has (Tm.rfl_ (some x)) k = true) (hs : (Tm.rfl_ (some x)).length ≤ 300000) (hex : ∀ k, W.heap.size ≤ k → ¬ ex k) :
    Calls Try.prog 12 #[.pointer (some ⟨t, 0, none⟩), .string (bstr k)] W fun e w' => e = .returned (.bool true) ∧ Tr ex t (Tm.cut1 x.1 (Tm.wo x.1 x.2 k)) w' ∧ Only (fun k => k = t) W w' := by
  obtain ⟨hh, tr⟩ := x
  have hrw := h.ok
  obtain ⟨hw, ha⟩ := h.ok
  have hrd := Tm.rdel_ok h.ok k
  rw [show Tm.rdel (some (hh, tr)) k = Tm.cut1 hh (Tm.wo hh tr k) by unfold Tm.rdel; rw [if_pos hk]; rfl] at hrd
  have HG := Lib.hid (tre_get (k := k) (tre_top h hex) (lo := Tm.lo_ hh) (by unfold Tm.lo_; show hh = 0 ∨ _; split <;> omega) hw ha)
  have hg2 : (Tm.get (Tm.flat (Tm.top (some (hh, tr))).1 (Tm.top (some (hh, tr))).2) k).2 = true := by rw [Tm.get_has]; exact hk
  obtain ⟨gi, hgi⟩ : ∃ gi, gi = (Tm.get (Tm.flat (Tm.top (some (hh, tr))).1 (Tm.top (some (hh, tr))).2) k).1 := ⟨_, rfl⟩
  rw [hg2, ← hgi] at HG
  obtain ⟨p, hp, hT⟩ := h.yes _ rfl
  have hex1 : ∀ W', Below W.heap.size W W' → ∀ k, W'.heap.size ≤ k → ¬ ex k := fun W' hb k hk => hex k (by have := hb.size; omega)
  obtain ⟨z0, hz0⟩ : ∃ z0, z0 = Tm.wo hh tr k := ⟨_, rfl⟩
  have HWO : Hid (∀ w, Below W.heap.size W w → Calls Try.prog 30 #[.pointer (some ⟨p, 0, none⟩), .string (bstr k)] w fun e w' => ∃ z, e = .returned (.pointer (some ⟨z, 0, none⟩)) ∧ Hid (Tn ex hh z z0 w') ∧ Below w.heap.size w w') := fun w hb => by
    rw [hz0]
    exact tre_without (hT.below hb) (lo := Tm.lo_ hh) (by unfold Tm.lo_; split <;> omega) hw ha hk (by have : (Tm.flat hh tr).length ≤ 300000 := hs; omega) (hex1 w hb)
  rw [← hz0] at hrd ⊢
  have hpt : W.heap[t]? = some (.cells #[.pointer (some ⟨p, 0, none⟩)] 60 (0, 0)) := hp
  have htl := h.lt
  have HPT : Hid (∀ w, Below W.heap.size W w → w.cell? ⟨t, 0, none⟩ = some (.pointer (some ⟨p, 0, none⟩)) ∧ w.frozen? ⟨t, 0, none⟩ = false) := fun w hb => by
    have e := (hb.block t htl).trans hpt
    exact ⟨by rw [Lib.cell_of_heap e]; rfl, Lib.frozen_of_heap e 0⟩
  have HWR : Hid (∀ w z, Below W.heap.size W w → Tn ex hh z z0 w → z0.ks.length ≠ 1 → Tr ex t (Tm.cut1 hh z0) (w.setCell ⟨t, 0, none⟩ (.pointer (some ⟨z, 0, none⟩))) ∧ Only (fun k => k = t) W (w.setCell ⟨t, 0, none⟩ (.pointer (some ⟨z, 0, none⟩)))) := fun w z hb hz hne => by
    have e : Tm.cut1 hh z0 = some (hh, z0) := by unfold Tm.cut1; rw [if_neg hne]
    obtain ⟨h1, h2⟩ := (h.below hb).written (x := (hh, z0)) (by rw [← e]; exact hrd.1) hz
    rw [e]
    exact ⟨h1, (only_of8 hb).trans h2⟩
  have HWK : Hid (∀ w z, Below W.heap.size W w → Tn ex hh z z0 w → z0.ks.length = 1 → ∃ bg boff bc y, w.cell? ⟨z, 2, none⟩ = some (.slice (some ⟨bg, boff, none⟩) 1 bc) ∧ 1 ≤ bc ∧ w.cell? ⟨bg, boff, none⟩ = some (.pointer (some ⟨y, 0, none⟩)) ∧ Hid (Tr ex t (Tm.cut1 hh z0) (w.setCell ⟨t, 0, none⟩ (.pointer (some ⟨y, 0, none⟩))) ∧ Only (fun k => k = t) W (w.setCell ⟨t, 0, none⟩ (.pointer (some ⟨y, 0, none⟩))))) := fun w z hb hz hone => by
    have e : Tm.cut1 hh z0 = some (hh - 1, Tm.kid z0 0) := by unfold Tm.cut1; rw [if_pos hone]
    match hh, z0, hz, hone, e, hrd with
    | 0, .leaf l, _, hone, _, _ => cases hone
    | 0, .inner ks, hz, _, _, _ => obtain ⟨l, e, _⟩ := hz; cases e
    | h' + 1, .leaf l, hz, _, _, _ => obtain ⟨l, ps, e, _⟩ := hz; cases e
    | h' + 1, .inner ks, hz, hone, e, hrd =>
      have hone : ks.length = 1 := hone
      obtain ⟨ba, bc, p2, -, -, hkid⟩ := hz.kids
      obtain ⟨bg, boff, y, rfl, hbg, hbc, hy, hyT⟩ := hkid 0 (by omega)
      rw [hone] at p2 hbc
      rw [Nat.add_zero] at hy
      obtain ⟨h1, h2⟩ := (h.below hb).written (x := (h', Tm.kid (.inner ks) 0)) (by
        have := hrd.1
        rw [e] at this
        exact this) hyT
      exact ⟨bg, boff, bc, y, p2, hbc, hy, by rw [e]; exact h1, (only_of8 hb).trans h2⟩
  generalize bstr k = S at *
  clear h hw ha hrd hrw hg2 hgi hp hT hex hex1 hz0 hpt htl hk hs
  go_enter Try.func12, Try.ntmps12
  go_wp2_with fail
  refine HG.out.mono ?_
  rintro e w1 ⟨rfl, hb1⟩
  have HB1 := Lib.hid hb1
  have c1 := (HPT.out w1 hb1).1
  clear hb1
  go_wp2_with fail
  refine (HWO.out w1 HB1.out).mono ?_
  rintro e w2 ⟨z, rfl, hz, hb2⟩
  have HB2 := Lib.hid (HB1.out.trans (hb2.mono HB1.out.size))
  clear hb2 c1
  obtain ⟨c2, f2⟩ := HPT.out w2 HB2.out
  by_cases h1 : z0.ks.length = 1
  · obtain ⟨bg, boff, bc, y, p2, hbc, hy, HF⟩ := HWK.out w2 z HB2.out hz.out h1
    clear HWK HWR HWO HPT h1
    go_wp2
    go_ret
    exact ⟨rfl, HF.out⟩
  · obtain ⟨ba, bc, p2⟩ := hz.out.kidn
    have HF := Lib.hid (HWR.out w2 z HB2.out hz.out h1)
    obtain ⟨N, hN⟩ : ∃ N, N = z0.ks.length := ⟨_, rfl⟩
    rw [← hN] at p2 h1
    have h1i : ¬ (N : Int) = 1 := by omega
    clear HWK HWR HWO HPT hN
    go_wp2
    go_ret
    exact ⟨rfl, HF.out⟩
theorem tre_delete {ex : Nat → Prop} {t : Nat} {r : Tm.Rt} {k : Tm.K} {W : World} (h : Tr ex t r W) (hs : (Tm.rfl_ r).length ≤ 300000) (hex : ∀ k, W.heap.size ≤ k → ¬ ex k) :
    Calls Try.prog 12 #[.pointer (some ⟨t, 0, none⟩), .string (bstr k)] W fun e w' => e = .returned (.bool (Tm.has (Tm.rfl_ r) k)) ∧ Tr ex t (Tm.rdel r k) w' ∧ Only (fun k => k = t) W w' := by
  cases hk : Tm.has (Tm.rfl_ r) k with
  | false =>
    refine (tre_delete_no (tre_top h hex) (lo := Tm.lo_ (Tm.top r).1) (by unfold Tm.lo_; split <;> omega) h.ok.1 h.ok.2 hk).mono ?_
    rintro e w' ⟨rfl, hb⟩
    refine ⟨rfl, ?_, only_of8 hb⟩
    unfold Tm.rdel
    rw [hk]
    exact h.below hb
  | true =>
    cases r with
    | none => cases hk
    | some x =>
      unfold Tm.rdel
      rw [hk]
      exact tre_delete_yes h hk hs hex
end Go.Proofs.Ytlakolcjgnmllaa
