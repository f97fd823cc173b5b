/- Package tree: At. -/
import Derived.Test.YtlakolcjgnmllaaTreD5
namespace Go.Proofs.Ytlakolcjgnmllaa
open Go.RowKit

set_option maxRecDepth 100000 in
theorem tre_at_no {ex : Nat → Prop} {v : Value} {h : Nat} {t : Tm.T} {i : Int} {W : World} (hp : Tp ex v h t W) (hi : i < 0 ∨ ((Tm.flat h t).length : Int) ≤ i) :
    Calls Try.prog 26 #[v, .int .i64 i] W fun e w' => e = .returned (.tuple #[.string ⟨#[]⟩, .int .i64 0, .bool false]) ∧ Below W.heap.size W w' := by
  have HP := Lib.hid (hp W (Below.refl _ W))
  obtain ⟨L, hL⟩ : ∃ L, L = (Tm.flat h t).length := ⟨_, rfl⟩
  have HSZ : Hid (∀ p w, Tn ex h p t w → w.cell? ⟨p, 3, none⟩ = some (.int .i64 (L : Int))) := fun p w hT => by rw [hL]; exact hT.size
  rw [← hL] at hi
  clear hp hL
  by_cases h0 : i < 0
  · clear hi
    go_enter Try.func26, Try.ntmps26
    go_wp2_with fail
    refine HP.out.mono ?_
    rintro e w1 ⟨p, rfl, hT, hb⟩
    have HB := Lib.hid hb
    clear hb hT HP HSZ
    go_wp2
    go_ret3
    exact ⟨rfl, HB.out⟩
  · have hL1 : (L : Int) ≤ i := by omega
    clear hi
    go_enter Try.func26, Try.ntmps26
    go_wp2_with fail
    refine HP.out.mono ?_
    rintro e w1 ⟨p, rfl, hT, hb⟩
    have HB := Lib.hid hb
    have hsz := HSZ.out p w1 hT.out
    clear hb hT HP HSZ
    go_wp2
    go_ret3
    exact ⟨rfl, HB.out⟩
set_option maxHeartbeats 4000000 in
set_option maxRecDepth 100000 in
theorem tre_at {ex : Nat → Prop} {v : Value} {h lo : Nat} {t : Tm.T} {m0 : Nat} {E : Tm.E} {W : World} (hp : Tp ex v h t W) (hlo : h = 0 ∨ 1 ≤ lo) (hw : Tm.Wf h lo t) (ha : Tm.Asc (Tm.flat h t)) (hs : (Tm.flat h t).length ≤ 400000) (hE : (Tm.flat h t)[m0]? = some E) :
    Calls Try.prog 26 #[v, .int .i64 (m0 : Int)] W fun e w' => e = .returned (.tuple #[.string (bstr E.1), .int .i64 E.2, .bool true]) ∧ Below W.heap.size W w' := by
  have HP := Lib.hid (hp W (Below.refl _ W))
  have hm0 : m0 < (Tm.flat h t).length := (List.getElem?_eq_some_iff.1 hE).1
  have HI : Hid (∀ p w, Tn ex h p t w → Below W.heap.size W w → Dn ex W (fun n t => (Tm.flat n t)[m0]? = some E ∧ (Tm.flat n t).length ≤ 400000) (.pointer (some ⟨p, 0, none⟩)) w h) := fun p w hT hb => ⟨p, t, rfl, hT, ⟨lo, hlo, hw⟩, ha, ⟨hE, hs⟩, hb⟩
  obtain ⟨S, hS⟩ : ∃ S, S = bstr E.1 := ⟨_, rfl⟩
  obtain ⟨V, hV⟩ : ∃ V, V = E.2 := ⟨_, rfl⟩
  have HSV : Hid (S = bstr E.1 ∧ V = E.2) := ⟨hS, hV⟩
  rw [← hS, ← hV]
  obtain ⟨L, hL⟩ : ∃ L, L = (Tm.flat h t).length := ⟨_, rfl⟩
  have HSZ : Hid (∀ p w, Tn ex h p t w → w.cell? ⟨p, 3, none⟩ = some (.int .i64 (L : Int))) := fun p w hT => by rw [hL]; exact hT.size
  rw [← hL] at hm0
  have hm0i : (m0 : Int) < (L : Int) := by omega
  have hm0b : m0 ≤ 400000 := by omega
  clear hp hlo hw ha hS hV hs hE hL
  go_enter Try.func26, Try.ntmps26
  go_wp2_with fail
  refine HP.out.mono ?_
  rintro e w1 ⟨p, rfl, hT, hb⟩
  have HD := Lib.hid (HI.out p w1 hT.out hb)
  have hsz := HSZ.out p w1 hT.out
  clear hb hT HI HP HSZ
  go_wp2_with fail
  rw [show decide ((m0 : Int) < 0) = false from decide_eq_false (by omega), show decide (L ≤ m0) = false from decide_eq_false (by omega), Bool.or_false]
  go_loopw [1, 7] (fun iv nv wr => ∃ m p : Nat, iv = .int .i64 (m : Int) ∧ nv = .pointer (some ⟨p, 0, none⟩) ∧ Hid (∃ n, Dn ex W (fun n t => (Tm.flat n t)[m]? = some E ∧ (Tm.flat n t).length ≤ 400000) (.pointer (some ⟨p, 0, none⟩)) wr n)) (fun iv nv wr => least (Dn ex W (fun n t => (Tm.flat n t)[(ixOf iv).toNat]? = some E ∧ (Tm.flat n t).length ≤ 400000) nv wr))
  case atStart => exact ⟨m0, p, rfl, rfl, ⟨h, HD.out⟩⟩
  case round =>
    clear HD hsz
    obtain ⟨m, q, rfl, rfl, HQ⟩ := hrel
    obtain ⟨n, hn⟩ : ∃ n, n = least (Dn ex W (fun n t => (Tm.flat n t)[m]? = some E ∧ (Tm.flat n t).length ≤ 400000) (.pointer (some ⟨q, 0, none⟩)) wr) := ⟨_, rfl⟩
    have hd := (least_spec HQ.out).1
    rw [← hn] at hd
    obtain ⟨q', u, eq, hT, ⟨lo', hlo', hw'⟩, ha', ⟨hX, hXl⟩, hb⟩ := hd
    injection eq with eq
    injection eq with eq
    injection eq with eq
    subst eq
    have HN := Lib.hid hn
    have HKID := Lib.hid (tre_hasKids hT)
    have HBW := Lib.hid hb
    cases n with
    | zero =>
      obtain ⟨l, rfl⟩ : ∃ l, u = .leaf l := by
        obtain ⟨l, e, _⟩ := hT
        exact ⟨l, e⟩
      have hc8 : l.length ≤ 8 := hw'.2
      have hxl : l[m]? = some E := hX
      obtain ⟨hml, hmE⟩ := List.getElem?_eq_some_iff.1 hxl
      obtain ⟨l', el, hxp, ka, kc, va, vc, ba, bc, hnb, hk, hv, hcp⟩ := hT
      injection el with el
      subst el
      obtain ⟨kg, koff, rfl, hkc, hkg, hkcell⟩ := hk.at (by omega)
      obtain ⟨vg, voff, rfl, hvc, hvg, hvcell⟩ := hv.at (by omega)
      have hkm := hkcell m hml
      have hvm := hvcell m hml
      rw [sk_get _ (by simpa using hml)] at hkm
      rw [iv_get _ (by simpa using hml)] at hvm
      rw [show (l.map (·.1)).getD m [] = E.1 by simp [List.getD, List.getElem?_eq_getElem hml, hmE], ← HSV.out.1] at hkm
      rw [show (l.map (·.2)).getD m 0 = E.2 by simp [List.getD, List.getElem?_eq_getElem hml, hmE], ← HSV.out.2] at hvm
      have HK : Hid (Calls Try.prog 31 #[.pointer (some ⟨q, 0, none⟩)] wr fun e w' => e = .returned (.bool false) ∧ wr = w') := HKID.out
      obtain ⟨N, hN⟩ : ∃ N, N = l.length := ⟨_, rfl⟩
      have q0 : wr.cell? ⟨q, 0, none⟩ = some (.slice (some ⟨kg, koff, none⟩) N kc) := by rw [Lib.cell_of_heap hnb, hN]; rfl
      have q1 : wr.cell? ⟨q, 1, none⟩ = some (.slice (some ⟨vg, voff, none⟩) N vc) := by rw [Lib.cell_of_heap hnb, hN]; rfl
      have hmi : (m : Int) < (N : Int) := by omega
      have hmn : m < N := by omega
      clear HKID hw' ha' hX hXl hb hn HQ HN hlo' hxl hmE hnb hk hv hcp hkcell hvcell hml hxp hN hc8 hkc hvc
      go_wp2_with fail
      refine HK.out.mono ?_
      rintro e w2 ⟨rfl, rfl⟩
      go_upto_region 11 with (fail)
      go_region
      all_goals
        go_wp2
        go_ret3
        exact ⟨rfl, HBW.out.trans ((below_dr8 _).mono HBW.out.size)⟩
    | succ n =>
      obtain ⟨ks, rfl⟩ : ∃ ks, u = .inner ks := by
        obtain ⟨ks, ps, e, _⟩ := hT
        exact ⟨ks, e⟩
      obtain ⟨h1, h2, h3⟩ := hw'
      have hlo1 : 1 ≤ lo' := by omega
      have hX' : (Tm.flats n ks)[m]? = some E := hX
      have hXl' : (Tm.flats n ks).length ≤ 400000 := hXl
      have hmt : m < (Tm.flats n ks).length := (List.getElem?_eq_some_iff.1 hX').1
      obtain ⟨bg, boff, bc, p2, hbc, hbc64, hbg, hpl, hkid⟩ := hT.each (by omega)
      have hkd : decide (0 < (Tm.T.inner ks).ks.length) = true := decide_eq_true (show 0 < ks.length by omega)
      rw [hkd] at HKID
      have HK : Hid (Calls Try.prog 31 #[.pointer (some ⟨q, 0, none⟩)] wr fun e w' => e = .returned (.bool true) ∧ wr = w') := HKID.out
      obtain ⟨N, hN⟩ : ∃ N, N = ks.length := ⟨_, rfl⟩
      have HJ : Hid (∀ j mm, j < N → (Tm.flats n (ks.take j)).length + mm = m → ∃ y sz, wr.cell? ⟨bg, boff + j, none⟩ = some (.pointer (some ⟨y, 0, none⟩)) ∧ wr.cell? ⟨y, 3, none⟩ = some (.int .i64 ((sz : Nat) : Int)) ∧ sz ≤ 400000 ∧ (sz ≤ mm → j + 1 < N ∧ (Tm.flats n (ks.take (j + 1))).length + (mm - sz) = m) ∧ (mm < sz → Dn ex W (fun n t => (Tm.flat n t)[mm]? = some E ∧ (Tm.flat n t).length ≤ 400000) (.pointer (some ⟨y, 0, none⟩)) wr n)) := fun j mm hj hjm => by
        obtain ⟨y, hyc, hyT⟩ := hkid j (by omega)
        have hsp := Tm.flats_split n ks (show j < ks.length by omega)
        have hk1 := Tm.flats_kid n ks (show j < ks.length by omega)
        have ht1 := Tm.flats_take1 n ks (show j < ks.length by omega)
        refine ⟨y, _, hyc, hyT.size, by omega, fun hle => ⟨?_, by omega⟩, fun hlt => ?_⟩
        · rcases Nat.lt_or_ge (j + 1) N with h' | h'
          · exact h'
          · exfalso
            have : ks.drop (j + 1) = [] := List.drop_eq_nil_of_le (by omega)
            rw [this, show Tm.flats n [] = [] from rfl, List.length_nil] at hk1
            omega
        · refine ⟨y, _, rfl, hyT, ⟨4, .inr (by decide), h3 _ (Tm.getD_mem (by omega))⟩, ?_, ⟨?_, by omega⟩, hb⟩
          · have := ha'
            rw [Tm.flat_succ, hsp] at this
            exact (Tm.asc_app (Tm.asc_app this).2.1).1
          · have := hX'
            rw [hsp, Tm.at_mid _ _ _ (by omega) (by omega)] at this
            rw [show mm = m - (Tm.flats n (ks.take j)).length by omega]
            exact this
      have hN64 : N ≤ 64 := by omega
      have hN0 : 0 < N := by omega
      have hmb : m ≤ 400000 := by omega
      rw [← hN] at p2 hbc
      clear HKID hT h1 h2 h3 ha' hX hXl hX' hXl' hmt hb hn hkd hkid hN HQ hlo' hlo1 hbc64
      go_wp2_with fail
      refine HK.out.mono ?_
      rintro e w2 ⟨rfl, rfl⟩
      go_wp2_with fail
      go_loopw [1, 9] (fun iv kv wx => ∃ mm j : Nat, iv = .int .i64 (mm : Int) ∧ kv = .int .i64 (j : Int) ∧ j < N ∧ mm ≤ m ∧ Hid ((Tm.flats n (ks.take j)).length + mm = m) ∧ wx = wr) (fun _ kv _ => N - (ixOf kv).toNat)
      case atStart => exact ⟨m, 0, rfl, rfl, hN0, Nat.le_refl _, by show _ = _; simp [Tm.flats], rfl⟩
      case round =>
        obtain ⟨mm, j, rfl, rfl, hj, hmm, HM, hww⟩ := hrel
        subst hww
        obtain ⟨y, sz, cj, cs, hszb, hge, hlt⟩ := HJ.out j mm hj HM.out
        have hjI : (j : Int) < (N : Int) := by omega
        by_cases hsm : sz ≤ mm
        · obtain ⟨hj1, hm1⟩ := hge hsm
          have hsI : (sz : Int) ≤ (mm : Int) := by omega
          obtain ⟨m2, hm2⟩ : ∃ m2, m2 = mm - sz := ⟨_, rfl⟩
          have HM2 : Hid ((Tm.flats n (ks.take (j + 1))).length + m2 = m) := by show _ = _; rw [hm2]; exact hm1
          have hm2i : (mm : Int) - (sz : Int) = (m2 : Int) := by omega
          have hm2b : m2 ≤ m := by omega
          clear hge hlt hm1 hm2
          go_wp2_with fail
          go_roundw
          case rel => exact ⟨m2, j + 1, rfl, by go_num, hj1, hm2b, HM2, trivial⟩
          case measure => simp [ixOf]; omega
        · have hsI : ¬ (sz : Int) ≤ (mm : Int) := by omega
          have HD3 := Lib.hid (hlt (by omega))
          clear hge hlt HJ HM hsm
          go_wp2_with fail
          go_roundw
          case rel => exact ⟨mm, y, rfl, rfl, ⟨n, HD3.out⟩⟩
          case measure =>
            have h1 := (least_spec (P := Dn ex W (fun n t => (Tm.flat n t)[mm]? = some E ∧ (Tm.flat n t).length ≤ 400000) (.pointer (some ⟨y, 0, none⟩)) _) ⟨n, HD3.out⟩).2 n HD3.out
            have h2 := HN.out
            show least _ < least _
            simp only [ixOf, Int.toNat_natCast]
            omega
end Go.Proofs.Ytlakolcjgnmllaa
