/- Package tree: Rank. -/
import Derived.Test.YtlakolcjgnmllaaTreD4
namespace Go.Proofs.Ytlakolcjgnmllaa
open Go.RowKit

theorem Tm.flats_take1 (h : Nat) (ks : List Tm.T) {j : Nat} (hj : j < ks.length) : (Tm.flats h (ks.take (j + 1))).length = (Tm.flats h (ks.take j)).length + (Tm.flat h (ks.getD j (.leaf []))).length := by
  rw [List.take_add_one, List.getElem?_eq_getElem hj, Tm.flats_app]
  simp only [Option.toList_some, Tm.flats_one, List.getD, List.getElem?_eq_getElem hj, Option.getD_some, List.length_append]
theorem Tm.flats_take_le (h : Nat) (ks : List Tm.T) (j : Nat) : (Tm.flats h (ks.take j)).length ≤ (Tm.flats h ks).length := by
  have := Tm.flats_len h ks j; omega
set_option maxHeartbeats 4000000 in
set_option maxRecDepth 100000 in
theorem tre_rank {ex : Nat → Prop} {v : Value} {h lo : Nat} {t : Tm.T} {k : Tm.K} {W : World} (hp : Tp ex v h t W) (hlo : h = 0 ∨ 1 ≤ lo) (hw : Tm.Wf h lo t) (ha : Tm.Asc (Tm.flat h t)) (hs : (Tm.flat h t).length ≤ 400000) :
    Calls Try.prog 17 #[v, .string (bstr k)] W fun e w' => e = .returned (.int .i64 (Tm.rank (Tm.flat h t) k : Int)) ∧ Below W.heap.size W w' := by
  have HP := Lib.hid (hp W (Below.refl _ W))
  obtain ⟨R, hR⟩ : ∃ R, R = Tm.rank (Tm.flat h t) k := ⟨_, rfl⟩
  rw [← hR]
  have HI : Hid (∀ p w, Tn ex h p t w → Below W.heap.size W w → Dn ex W (fun n t => 0 + Tm.rank (Tm.flat n t) k = R ∧ 0 + (Tm.flat n t).length ≤ 400000) (.pointer (some ⟨p, 0, none⟩)) w h) := fun p w hT hb => ⟨p, t, rfl, hT, ⟨lo, hlo, hw⟩, ha, ⟨by omega, by omega⟩, hb⟩
  obtain ⟨S, hS⟩ : ∃ S, S = bstr k := ⟨_, rfl⟩
  have HS := Lib.hid hS
  rw [← hS]
  clear hp hlo hw ha hR hS hs
  go_enter Try.func17, Try.ntmps17
  go_wp2_with fail
  refine HP.out.mono ?_
  rintro e w1 ⟨p, rfl, hT, hb⟩
  have HD := Lib.hid (HI.out p w1 hT.out hb)
  clear hb hT HI HP
  go_wp2_with fail
  go_loopw [5, 6] (fun nv rv wr => ∃ p r : Nat, nv = .pointer (some ⟨p, 0, none⟩) ∧ rv = .int .i64 (r : Int) ∧ Hid (∃ n, Dn ex W (fun n t => r + Tm.rank (Tm.flat n t) k = R ∧ r + (Tm.flat n t).length ≤ 400000) (.pointer (some ⟨p, 0, none⟩)) wr n)) (fun nv rv wr => least (Dn ex W (fun n t => (ixOf rv).toNat + Tm.rank (Tm.flat n t) k = R ∧ (ixOf rv).toNat + (Tm.flat n t).length ≤ 400000) nv wr))
  case atStart => exact ⟨p, 0, rfl, rfl, ⟨h, HD.out⟩⟩
  case round =>
    clear HD
    obtain ⟨q, r, rfl, rfl, HQ⟩ := hrel
    obtain ⟨n, hn⟩ : ∃ n, n = least (Dn ex W (fun n t => r + Tm.rank (Tm.flat n t) k = R ∧ r + (Tm.flat n t).length ≤ 400000) (.pointer (some ⟨q, 0, none⟩)) wr) := ⟨_, rfl⟩
    have hd := (least_spec HQ.out).1
    rw [← hn] at hd
    obtain ⟨q', u, eq, hT, ⟨lo', hlo', hw'⟩, ha', ⟨hX, hXl⟩, hb⟩ := hd
    injection eq with eq
    injection eq with eq
    injection eq with eq
    subst eq
    have HN := Lib.hid hn
    have HKID := Lib.hid (tre_hasKids hT)
    have HBW := Lib.hid hb
    cases n with
    | zero =>
      obtain ⟨l, rfl⟩ : ∃ l, u = .leaf l := by
        obtain ⟨l, e, _⟩ := hT
        exact ⟨l, e⟩
      have hc8 : l.length ≤ 8 := hw'.2
      have hak := Tm.keys_asc 0 (.leaf l) trivial ha'
      have HF0 := tre_find k hT (show l.length ≤ 100 by omega) hak
      have hxl : r + Tm.rank l k = R := hX
      rw [(Tm.rank_leaf l k ha').1] at hxl
      have hfl := Tm.fnd_le (l.map (·.1)) k
      rw [List.length_map] at hfl
      obtain ⟨f, hf⟩ : ∃ f, f = Tm.fnd (l.map (·.1)) k := ⟨_, rfl⟩
      obtain ⟨o, ho⟩ : ∃ o, o = Tm.fok (l.map (·.1)) k := ⟨_, rfl⟩
      rw [show Tm.keys 0 (.leaf l) = l.map (·.1) from rfl, ← hf, ← ho, ← HS.out] at HF0
      rw [← hf] at hxl hfl
      have HF : Hid (Calls Try.prog 33 #[.pointer (some ⟨q, 0, none⟩), .string S] wr fun e w' => e = .returned (.tuple #[.int .i64 (f : Int), .bool o]) ∧ Below wr.heap.size wr w') := HF0
      have HK : Hid (Calls Try.prog 31 #[.pointer (some ⟨q, 0, none⟩)] wr fun e w' => e = .returned (.bool false) ∧ wr = w') := HKID.out
      have hrf : (r : Int) + (f : Int) = (R : Int) := by omega
      have hrb : r ≤ 400000 := by omega
      have hfb : f ≤ 8 := by omega
      clear HF0 HKID hT hw' ha' hX hXl hb hn hak hf ho HQ HN hlo' hxl hfl hc8
      go_wp2_with fail
      refine HK.out.mono ?_
      rintro e w2 ⟨rfl, rfl⟩
      go_wp2_with fail
      refine HF.out.mono ?_
      rintro e w3 ⟨rfl, hb3⟩
      have HB3 := Lib.hid (HBW.out.trans (hb3.mono HBW.out.size))
      clear hb3
      go_wp2
      go_ret
      exact ⟨rfl, HB3.out⟩
    | succ n =>
      obtain ⟨ks, rfl⟩ : ∃ ks, u = .inner ks := by
        obtain ⟨ks, ps, e, _⟩ := hT
        exact ⟨ks, e⟩
      obtain ⟨h1, h2, h3⟩ := hw'
      have hlo1 : 1 ≤ lo' := by omega
      have hak := Tm.keys_asc (n + 1) (.inner ks) h3 ha'
      obtain ⟨i, hi⟩ : ∃ i, i = Tm.chd (ks.map (Tm.fk n)) k := ⟨_, rfl⟩
      obtain ⟨hil, hA, hC, hfl⟩ := Tm.split (i := i) k h3 (by omega) ha' hi
      have hgm := Tm.rank_mid (M := Tm.flat n (ks.getD i (.leaf []))) hA hC
      obtain ⟨rr, hrr⟩ : ∃ rr, rr = r + (Tm.flats n (ks.take i)).length := ⟨_, rfl⟩
      have hX2 : rr + Tm.rank (Tm.flat n (ks.getD i (.leaf []))) k = R := by
        have : r + Tm.rank (Tm.flats n ks) k = R := hX
        rw [hfl, hgm] at this
        omega
      have hkl := Tm.flats_kid n ks hil
      have hXl' : r + (Tm.flats n ks).length ≤ 400000 := hXl
      have hX3 : rr + (Tm.flat n (ks.getD i (.leaf []))).length ≤ 400000 := by omega
      have hau : Tm.Asc (Tm.flat n (ks.getD i (.leaf []))) := by
        have := ha'
        rw [Tm.flat_succ, hfl] at this
        exact (Tm.asc_app (Tm.asc_app this).2.1).1
      obtain ⟨bg, boff, bc, p2, hbc, hbc64, hbg, hpl, hkid⟩ := hT.each (by omega)
      obtain ⟨y, hycell, hy⟩ := hkid i hil
      have hwu := h3 _ (Tm.getD_mem hil)
      have HY : Hid (∀ w', Below wr.heap.size wr w' → Dn ex W (fun n t => rr + Tm.rank (Tm.flat n t) k = R ∧ rr + (Tm.flat n t).length ≤ 400000) (.pointer (some ⟨y, 0, none⟩)) w' n) := fun w' hb' => ⟨y, _, rfl, hy.below hb', ⟨4, .inr (by decide), hwu⟩, hau, ⟨hX2, hX3⟩, hb.trans (hb'.mono hb.size)⟩
      have hkd : decide (0 < (Tm.T.inner ks).ks.length) = true := decide_eq_true (show 0 < ks.length by omega)
      rw [hkd] at HKID
      have HK : Hid (Calls Try.prog 31 #[.pointer (some ⟨q, 0, none⟩)] wr fun e w' => e = .returned (.bool true) ∧ wr = w') := HKID.out
      have HC : Hid (Calls Try.prog 32 #[.pointer (some ⟨q, 0, none⟩), .string S] wr fun e w' => e = .returned (.int .i64 (i : Int)) ∧ Below wr.heap.size wr w') := by
        have := tre_child k hT (show ks.length ≤ 100 by omega) hak
        rw [show Tm.keys (n + 1) (.inner ks) = ks.map (Tm.fk n) from rfl, ← hi, ← HS.out] at this
        exact this
      have HJ : Hid (∀ w' j, Below wr.heap.size wr w' → j < i → ∃ y sz, w'.cell? ⟨bg, boff + j, none⟩ = some (.pointer (some ⟨y, 0, none⟩)) ∧ w'.cell? ⟨y, 3, none⟩ = some (.int .i64 ((sz : Nat) : Int)) ∧ (Tm.flats n (ks.take (j + 1))).length = (Tm.flats n (ks.take j)).length + sz) := fun w' j hb' hj => by
        obtain ⟨y, hyc, hyT⟩ := hkid j (by omega)
        exact ⟨y, _, (hb'.cell (p := ⟨bg, boff + j, none⟩) hbg).trans hyc, (hyT.below hb').size, Tm.flats_take1 n ks (by omega)⟩
      have HTK : Hid (∀ j, j ≤ i → r + (Tm.flats n (ks.take j)).length ≤ 400000) := fun j hj => by
        have := Tm.flats_take_le n ks j
        omega
      have HRR : Hid (rr = r + (Tm.flats n (ks.take i)).length) := hrr
      obtain ⟨N, hN⟩ : ∃ N, N = ks.length := ⟨_, rfl⟩
      rw [← hN] at p2 hil hbc
      have SB : Hid (∀ w', Below wr.heap.size wr w' → w'.cell? ⟨q, 2, none⟩ = some (.slice (some ⟨bg, boff, none⟩) N bc) ∧ w'.cell? ⟨bg, boff + i, none⟩ = some (.pointer (some ⟨y, 0, none⟩))) := fun w' hb' => ⟨(hb'.cell (p := ⟨q, 2, none⟩) hpl).trans p2, (hb'.cell (p := ⟨bg, boff + i, none⟩) hbg).trans hycell⟩
      have hrb : r ≤ 400000 := by omega
      have hi64 : i ≤ 64 := by omega
      have hi1 : (i : Int) < (N : Int) := by omega
      have hi2 : (i : Int) ≤ (bc : Int) := by omega
      have hi0 : (0 : Int) ≤ (i : Int) := by omega
      clear HKID hT h1 h2 h3 ha' hX hXl hXl' hb hn hak hkd hi hA hC hfl hgm hX2 hX3 hau p2 hkid hycell hy hwu hN HQ hlo' hlo1 hrr hkl hbc64
      go_wp2_with fail
      refine HK.out.mono ?_
      rintro e w2 ⟨rfl, rfl⟩
      go_wp2_with fail
      refine HC.out.mono ?_
      rintro e w3 ⟨rfl, hb3⟩
      have HB3 := Lib.hid hb3
      obtain ⟨c2, cy⟩ := SB.out w3 hb3
      have HD3 := Lib.hid (HY.out w3 hb3)
      clear hb3 SB HY
      go_wp2_with fail
      go_loopw [6, 26] (fun rv iv wx => ∃ j s : Nat, j ≤ i ∧ iv = .int .i64 (j : Int) ∧ rv = .int .i64 (s : Int) ∧ Hid (s = r + (Tm.flats n (ks.take j)).length) ∧ wx = w3) (fun _ iv _ => i - (ixOf iv).toNat)
      case atStart => exact ⟨0, r, Nat.zero_le _, rfl, rfl, by show _ = _; simp [Tm.flats], rfl⟩
      case round =>
        obtain ⟨j, s, hj, rfl, rfl, HSS, hww⟩ := hrel
        subst hww
        have hsb : s ≤ 400000 := by rw [HSS.out]; exact HTK.out j hj
        by_cases hlt : j < i
        · obtain ⟨y2, sz, cj, cs, htk⟩ := HJ.out _ j HB3.out hlt
          have hjI : (j : Int) < (i : Int) := by omega
          obtain ⟨s2, hs2⟩ : ∃ s2, s2 = s + sz := ⟨_, rfl⟩
          have HS2 : Hid (s2 = r + (Tm.flats n (ks.take (j + 1))).length) := by show _ = _; rw [hs2, htk, HSS.out]; omega
          have hs2i : (s : Int) + (sz : Int) = (s2 : Int) := by omega
          have hs2b : s2 ≤ 400000 := by rw [HS2.out]; exact HTK.out (j + 1) hlt
          clear htk hs2
          go_wp2_with fail
          go_roundw
          case rel => exact ⟨j + 1, s2, hlt, by go_num, rfl, HS2, trivial⟩
          case measure => simp [ixOf]; omega
        · have hji : j = i := by omega
          have hjI : ¬ (j : Int) < (i : Int) := by omega
          have hsr : s = rr := by rw [HSS.out, HRR.out, hji]
          subst hsr
          clear hlt hji HSS HRR HTK HJ
          go_wp2_with fail
          go_roundw
          case rel => exact ⟨y, s, rfl, rfl, ⟨n, HD3.out⟩⟩
          case measure =>
            have h1 := (least_spec (P := Dn ex W (fun n t => s + Tm.rank (Tm.flat n t) k = R ∧ s + (Tm.flat n t).length ≤ 400000) (.pointer (some ⟨y, 0, none⟩)) _) ⟨n, HD3.out⟩).2 n HD3.out
            have h2 := HN.out
            show least _ < least _
            simp only [ixOf, Int.toNat_natCast]
            omega
end Go.Proofs.Ytlakolcjgnmllaa
