/- Package tree: Levels, Rank. -/
import Derived.Test.YtlakolcjgnmllaaTreD3
namespace Go.Proofs.Ytlakolcjgnmllaa
open Go.RowKit

/-- the children of an inner node, each -/
theorem Tn.each {ex : Nat → Prop} {h p : Nat} {ks : List Tm.T} {W : World} (ht : Tn ex (h + 1) p (.inner ks) W) (h0 : 0 < ks.length) : ∃ bg boff bc, W.cell? ⟨p, 2, none⟩ = some (.slice (some ⟨bg, boff, none⟩) ks.length bc) ∧ ks.length ≤ bc ∧ bc ≤ 64 ∧ bg < W.heap.size ∧ p < W.heap.size ∧
    ∀ j, j < ks.length → ∃ y, W.cell? ⟨bg, boff + j, none⟩ = some (.pointer (some ⟨y, 0, none⟩)) ∧ Tn ex h y (ks.getD j (.leaf [])) W := by
  obtain ⟨ks', ps, el, hxp, hpl2, ⟨ka, kc, va, vc, ba, bc, hn, hk, hv, hcp⟩, hj⟩ := ht
  injection el with el
  subst el
  obtain ⟨bg, boff, rfl, hc, hg, hcell⟩ := hv.at h0
  exact ⟨bg, boff, bc, by rw [Lib.cell_of_heap hn]; rfl, hc, hcp.2.2, hg, heap_lt hn, fun j hjl => ⟨ps.getD j 0, by rw [hcell j hjl, pv_get ps (by omega)]; rfl, hj j hjl⟩⟩
set_option maxHeartbeats 4000000 in
set_option maxRecDepth 100000 in
theorem tre_levels {ex : Nat → Prop} {v : Value} {h lo : Nat} {t : Tm.T} {W : World} (hp : Tp ex v h t W) (hlo : h = 0 ∨ 1 ≤ lo) (hw : Tm.Wf h lo t) (ha : Tm.Asc (Tm.flat h t)) (hh : h ≤ 1000) :
    Calls Try.prog 24 #[v] W fun e w' => e = .returned (.int .i64 ((if (Tm.flat h t).length = 0 then 0 else h + 1 : Nat) : Int)) ∧ Below W.heap.size W w' := by
  have HP := Lib.hid (hp W (Below.refl _ W))
  have HI : Hid (∀ p w, Tn ex h p t w → Below W.heap.size W w → Dn ex W (fun n t => 1 + n = h + 1) (.pointer (some ⟨p, 0, none⟩)) w h) := fun p w hT hb => ⟨p, t, rfl, hT, ⟨lo, hlo, hw⟩, ha, by omega, hb⟩
  obtain ⟨L, hL⟩ : ∃ L, L = (Tm.flat h t).length := ⟨_, rfl⟩
  have HSZ : Hid (∀ p w, Tn ex h p t w → w.cell? ⟨p, 3, none⟩ = some (.int .i64 (L : Int))) := fun p w hT => by rw [hL]; exact hT.size
  rw [← hL]
  obtain ⟨R, hR⟩ : ∃ R : Nat, R = if L = 0 then 0 else h + 1 := ⟨_, rfl⟩
  have HR0 : Hid (L = 0 → R = 0) := fun e => by rw [hR, if_pos e]
  have HR1 : Hid (L ≠ 0 → R = h + 1) := fun e => by rw [hR, if_neg e]
  rw [← hR]
  clear hp hlo hw ha hL hR
  go_enter Try.func24, Try.ntmps24
  go_wp2_with fail
  refine HP.out.mono ?_
  rintro e w1 ⟨p, rfl, hT, hb⟩
  have HD := Lib.hid (HI.out p w1 hT.out hb)
  have HB := Lib.hid hb
  have hsz := HSZ.out p w1 hT.out
  clear hb hT HI HP HSZ
  by_cases h0 : L = 0
  · subst h0
    have HE : Hid ((0 : Int) = (R : Int)) := by show _ = _; rw [HR0.out rfl]; rfl
    go_wp2
    go_ret
    exact ⟨congrArg (fun x => Ending.returned (.int .i64 x)) HE.out, HB.out⟩
  · have h0i : ¬ (L : Int) = 0 := by omega
    have HRE : Hid (R = h + 1) := HR1.out h0
    clear h0
    go_wp2_with fail
    rw [show ((L : Int) == 0) = false from beq_eq_false_iff_ne.2 h0i]
    go_loopw [3, 4] (fun nv lv wr => ∃ p l : Nat, nv = .pointer (some ⟨p, 0, none⟩) ∧ lv = .int .i64 (l : Int) ∧ l ≤ h + 1 ∧ Hid (∃ n, Dn ex W (fun n _ => l + n = h + 1) (.pointer (some ⟨p, 0, none⟩)) wr n)) (fun nv lv wr => least (Dn ex W (fun n _ => (ixOf lv).toNat + n = h + 1) nv wr))
    case atStart => exact ⟨p, 1, rfl, rfl, by omega, ⟨h, HD.out⟩⟩
    case round =>
      clear HD hsz
      obtain ⟨q, l, rfl, rfl, hlb, HQ⟩ := hrel
      obtain ⟨n, hn⟩ : ∃ n, n = least (Dn ex W (fun n _ => l + n = h + 1) (.pointer (some ⟨q, 0, none⟩)) wr) := ⟨_, rfl⟩
      have hd := (least_spec HQ.out).1
      rw [← hn] at hd
      obtain ⟨q', u, eq, hT, ⟨lo', hlo', hw'⟩, ha', hX, hb⟩ := hd
      injection eq with eq
      injection eq with eq
      injection eq with eq
      subst eq
      have HN := Lib.hid hn
      have HKID := Lib.hid (tre_hasKids hT)
      have HBW := Lib.hid hb
      have hX : l + n = h + 1 := hX
      cases n with
      | zero =>
        obtain ⟨r, rfl⟩ : ∃ r, u = .leaf r := by
          obtain ⟨r, e, _⟩ := hT
          exact ⟨r, e⟩
        have HK : Hid (Calls Try.prog 31 #[.pointer (some ⟨q, 0, none⟩)] wr fun e w' => e = .returned (.bool false) ∧ wr = w') := HKID.out
        have HE : Hid ((l : Int) = (R : Int)) := by show _ = _; rw [HRE.out]; omega
        clear HKID hT hw' ha' hX hb hn HQ HN hlo'
        go_wp2_with fail
        refine HK.out.mono ?_
        rintro e w2 ⟨rfl, rfl⟩
        go_wp2
        go_ret
        exact ⟨congrArg (fun x => Ending.returned (.int .i64 x)) HE.out, HBW.out⟩
      | succ n =>
        obtain ⟨ks, rfl⟩ : ∃ ks, u = .inner ks := by
          obtain ⟨ks, ps, e, _⟩ := hT
          exact ⟨ks, e⟩
        obtain ⟨h1, h2, h3⟩ := hw'
        have hlo1 : 1 ≤ lo' := by omega
        have h0k : 0 < ks.length := by omega
        obtain ⟨bg, boff, bc, p2, hbc, -, hbg, hpl, hkid⟩ := hT.each h0k
        obtain ⟨y, hycell, hy⟩ := hkid 0 h0k
        have hwu := h3 _ (Tm.getD_mem h0k)
        have hau : Tm.Asc (Tm.flat n (ks.getD 0 (.leaf []))) := by
          have := ha'
          rw [Tm.flat_succ, Tm.flats_split n ks h0k] at this
          exact (Tm.asc_app (Tm.asc_app this).2.1).1
        obtain ⟨l2, hl2⟩ : ∃ l2, l2 = l + 1 := ⟨_, rfl⟩
        have HY : Hid (Dn ex W (fun n _ => l2 + n = h + 1) (.pointer (some ⟨y, 0, none⟩)) wr n) := ⟨y, _, rfl, hy, ⟨4, .inr (by decide), hwu⟩, hau, by omega, hb⟩
        have hkd : decide (0 < (Tm.T.inner ks).ks.length) = true := decide_eq_true (show 0 < ks.length by omega)
        rw [hkd] at HKID
        have HK : Hid (Calls Try.prog 31 #[.pointer (some ⟨q, 0, none⟩)] wr fun e w' => e = .returned (.bool true) ∧ wr = w') := HKID.out
        obtain ⟨N, hN⟩ : ∃ N, N = ks.length := ⟨_, rfl⟩
        rw [← hN] at p2 hbc h0k
        rw [Nat.add_zero] at hycell
        have h0i2 : (0 : Int) < (N : Int) := by omega
        have hl2i : (l : Int) + 1 = (l2 : Int) := by omega
        have hl2b : l2 ≤ h + 1 := by omega
        clear HKID hT h1 h2 h3 ha' hX hb hn hkd hkid hy hwu hN HQ hlo' hlo1 hau hl2
        go_wp2_with fail
        refine HK.out.mono ?_
        rintro e w2 ⟨rfl, rfl⟩
        go_wp2_with fail
        go_roundw
        case rel => exact ⟨y, l2, rfl, rfl, hl2b, ⟨n, HY.out⟩⟩
        case measure =>
          have h1 := (least_spec (P := Dn ex W (fun n _ => l2 + n = h + 1) (.pointer (some ⟨y, 0, none⟩)) wr) ⟨n, HY.out⟩).2 n HY.out
          have h2 := HN.out
          show least _ < least _
          simp only [ixOf, Int.toNat_natCast]
          omega
end Go.Proofs.Ytlakolcjgnmllaa
