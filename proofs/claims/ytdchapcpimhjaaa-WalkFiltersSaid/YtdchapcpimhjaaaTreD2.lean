/- Package tree: Get. -/
import Derived.Test.YtdchapcpimhjaaaTreD1
namespace Go.Proofs.Ytdchapcpimhjaaa
open Go.RowKit

theorem least_ex {P : Nat → Prop} (h : ∃ n, P n) : ∃ n, P n ∧ ∀ m, P m → n ≤ m := by
  obtain ⟨n, hn⟩ := h
  induction n using Nat.strongRecOn with
  | ind n ih =>
    by_cases hx : ∃ m, m < n ∧ P m
    · obtain ⟨m, hm, hp⟩ := hx; exact ih m hm hp
    · exact ⟨n, hn, fun m hm => Nat.le_of_not_lt fun hlt => hx ⟨m, hlt, hm⟩⟩
/-- the least number of levels that a node may stand for -/
noncomputable def least (P : Nat → Prop) : Nat := Classical.epsilon fun n => P n ∧ ∀ m, P m → n ≤ m
theorem least_spec {P : Nat → Prop} (h : ∃ n, P n) : P (least P) ∧ ∀ m, P m → least P ≤ m := Classical.epsilon_spec (least_ex h)
/-- on the way down: the node at hand stands n levels above the leaves -/
def Dn (ex : Nat → Prop) (W : World) (X : Nat → Tm.T → Prop) (v : Value) (wr : World) (n : Nat) : Prop :=
  ∃ p t, v = .pointer (some ⟨p, 0, none⟩) ∧ Tn ex n p t wr ∧ (∃ lo, (n = 0 ∨ 1 ≤ lo) ∧ Tm.Wf n lo t) ∧ Tm.Asc (Tm.flat n t) ∧ X n t ∧ Below W.heap.size W wr
set_option maxHeartbeats 4000000 in
set_option maxRecDepth 100000 in
theorem tre_get {ex : Nat → Prop} {v : Value} {h lo : Nat} {t : Tm.T} {k : Tm.K} {W : World} (hp : Tp ex v h t W) (hlo : h = 0 ∨ 1 ≤ lo) (hw : Tm.Wf h lo t) (ha : Tm.Asc (Tm.flat h t)) :
    Calls Try.prog 51 #[v, .string (bstr k)] W fun e w' => e = .returned (.tuple #[.int .i64 (Tm.get (Tm.flat h t) k).1, .bool (Tm.get (Tm.flat h t) k).2]) ∧ Below W.heap.size W w' := by
  have HP := Lib.hid (hp W (Below.refl _ W))
  obtain ⟨G, hG⟩ : ∃ G, G = Tm.get (Tm.flat h t) k := ⟨_, rfl⟩
  rw [← hG]
  have HI : Hid (∀ p w, Tn ex h p t w → Below W.heap.size W w → Dn ex W (fun n t => Tm.get (Tm.flat n t) k = G) (.pointer (some ⟨p, 0, none⟩)) w h) := fun p w hT hb => ⟨p, t, rfl, hT, ⟨lo, hlo, hw⟩, ha, hG.symm, hb⟩
  obtain ⟨S, hS⟩ : ∃ S, S = bstr k := ⟨_, rfl⟩
  have HS := Lib.hid hS
  rw [← hS]
  clear hp hlo hw ha hG hS
  go_enter Try.func51, Try.ntmps51
  go_wp2_with fail
  refine HP.out.mono ?_
  rintro e w1 ⟨p, rfl, hT, hb⟩
  have HD := Lib.hid (HI.out p w1 hT.out hb)
  clear hb hT HI HP
  go_wp2_with fail
  go_loopw [6] (fun nv wr => ∃ p : Nat, nv = .pointer (some ⟨p, 0, none⟩) ∧ Hid (∃ n, Dn ex W (fun n t => Tm.get (Tm.flat n t) k = G) (.pointer (some ⟨p, 0, none⟩)) wr n)) (fun nv wr => least (Dn ex W (fun n t => Tm.get (Tm.flat n t) k = G) nv wr))
  case atStart => exact ⟨p, rfl, ⟨h, HD.out⟩⟩
  case round =>
    clear HD
    obtain ⟨q, rfl, HQ⟩ := hrel
    obtain ⟨n, hn⟩ : ∃ n, n = least (Dn ex W (fun n t => Tm.get (Tm.flat n t) k = G) (.pointer (some ⟨q, 0, none⟩)) wr) := ⟨_, rfl⟩
    have hd := (least_spec HQ.out).1
    rw [← hn] at hd
    obtain ⟨q', u, eq, hT, ⟨lo', hlo', hw'⟩, ha', hX, hb⟩ := hd
    injection eq with eq
    injection eq with eq
    injection eq with eq
    subst eq
    have HN := Lib.hid hn
    have HKID := Lib.hid (tre_hasKids hT)
    cases n with
    | zero =>
      obtain ⟨l, rfl⟩ : ∃ l, u = .leaf l := by
        obtain ⟨l, e, _⟩ := hT
        exact ⟨l, e⟩
      have hc8 : l.length ≤ 8 := hw'.2
      have hak := Tm.keys_asc 0 (.leaf l) trivial ha'
      have HF0 := tre_find k hT (show l.length ≤ 100 by omega) hak
      have hxl : Tm.get l k = G := hX
      have hha := Tm.leaf_has l k ha'
      obtain ⟨l', el, hxp, ka, kc, va, vc, ba, bc, hnb, hk, hv, hcp⟩ := hT
      injection el with el
      subst el
      obtain ⟨f, hf⟩ : ∃ f, f = Tm.fnd (l.map (·.1)) k := ⟨_, rfl⟩
      obtain ⟨o, ho⟩ : ∃ o, o = Tm.fok (l.map (·.1)) k := ⟨_, rfl⟩
      rw [show Tm.keys 0 (.leaf l) = l.map (·.1) from rfl, ← hf, ← ho, ← HS.out] at HF0
      rw [← ho] at hha
      have HF : Hid (Calls Try.prog 63 #[.pointer (some ⟨q, 0, none⟩), .string S] wr fun e w' => e = .returned (.tuple #[.int .i64 (f : Int), .bool o]) ∧ Below wr.heap.size wr w') := HF0
      have HK : Hid (Calls Try.prog 61 #[.pointer (some ⟨q, 0, none⟩)] wr fun e w' => e = .returned (.bool false) ∧ wr = w') := HKID.out
      have HBW := Lib.hid hb
      have q1 : wr.cell? ⟨q, 1, none⟩ = some (.slice va l.length vc) := by rw [Lib.cell_of_heap hnb]; rfl
      have hql := heap_lt hnb
      cases o with
      | false =>
        have HG : Hid (G = (0, false)) := by show _ = _; rw [← hxl]; exact Tm.get_none l k hha
        clear HF0 HKID hw' ha' hX hb hn hnb hk hv hcp hak hxl hha hf ho q1 HQ HN hxp hlo'
        go_wp2_with fail
        refine HK.out.mono ?_
        rintro e w2 ⟨rfl, rfl⟩
        go_wp2_with fail
        refine HF.out.mono ?_
        rintro e w3 ⟨rfl, hb3⟩
        have HB3 := Lib.hid (HBW.out.trans (hb3.mono HBW.out.size))
        clear hb3
        go_wp2
        go_ret2
        exact ⟨by rw [HG.out]; rfl, HB3.out⟩
      | true =>
        have hfl : f < l.length := by
          have h2 := of_decide_eq_true (show decide ((l.map (·.1))[Tm.fnd (l.map (·.1)) k]? = some k) = true from ho.symm)
          have := (List.getElem?_eq_some_iff.1 h2).1
          rw [List.length_map, ← hf] at this
          exact this
        obtain ⟨vg, voff, rfl, hvc, hvg, hvcell⟩ := hv.at (by omega)
        have hvf := hvcell f hfl
        rw [iv_get _ (by simpa using hfl)] at hvf
        obtain ⟨x, hx⟩ : ∃ x, x = (l.map (·.2)).getD f 0 := ⟨_, rfl⟩
        have HG : Hid (G = (x, true)) := by
          show _ = _
          rw [← hxl, Tm.leaf_get l k hha ha', ← hf, hx]
          simp [List.getD, List.getElem?_eq_getElem hfl]
        rw [← hx] at hvf
        obtain ⟨N, hN⟩ : ∃ N, N = l.length := ⟨_, rfl⟩
        rw [← hN] at q1 hfl hvc
        have hfi : (f : Int) < (N : Int) := by omega
        clear HF0 HKID hw' ha' hX hb hn hnb hk hv hcp hak hxl hha hf ho HQ HN hxp hlo' hvcell hx hN hc8
        go_wp2_with fail
        refine HK.out.mono ?_
        rintro e w2 ⟨rfl, rfl⟩
        go_wp2_with fail
        refine HF.out.mono ?_
        rintro e w3 ⟨rfl, hb3⟩
        have HB3 := Lib.hid (HBW.out.trans (hb3.mono HBW.out.size))
        have q1' := (hb3.cell (p := ⟨q, 1, none⟩) hql).trans q1
        have hvf' := (hb3.cell (p := ⟨vg, voff + f, none⟩) hvg).trans hvf
        clear hb3 q1 hvf
        go_wp2
        go_ret2
        exact ⟨by rw [HG.out]; rfl, HB3.out⟩
    | succ n =>
      obtain ⟨ks, rfl⟩ : ∃ ks, u = .inner ks := by
        obtain ⟨ks, ps, e, _⟩ := hT
        exact ⟨ks, e⟩
      obtain ⟨h1, h2, h3⟩ := hw'
      have hlo1 : 1 ≤ lo' := by omega
      have hak := Tm.keys_asc (n + 1) (.inner ks) h3 ha'
      have HC0 := tre_child k hT (show ks.length ≤ 100 by omega) hak
      obtain ⟨i, hi⟩ : ∃ i, i = Tm.chd (ks.map (Tm.fk n)) k := ⟨_, rfl⟩
      rw [show Tm.keys (n + 1) (.inner ks) = ks.map (Tm.fk n) from rfl, ← hi, ← HS.out] at HC0
      obtain ⟨hil, hA, hC, hfl⟩ := Tm.split (i := i) k h3 (by omega) ha' hi
      have hgm := Tm.get_mid (M := Tm.flat n (ks.getD i (.leaf []))) hA hC
      have hX2 : Tm.get (Tm.flat n (ks.getD i (.leaf []))) k = G := by
        rw [← hgm, ← hfl]; exact hX
      have hau : Tm.Asc (Tm.flat n (ks.getD i (.leaf []))) := by
        have := ha'
        rw [Tm.flat_succ, hfl] at this
        exact (Tm.asc_app (Tm.asc_app this).2.1).1
      obtain ⟨ba, bc, p2, -, hpl, hkid⟩ := hT.kids
      obtain ⟨bg, boff, y, rfl, hbg, hbc, hycell, hy⟩ := hkid i hil
      have hwu := h3 _ (Tm.getD_mem hil)
      have HY : Hid (∀ w', Below wr.heap.size wr w' → Dn ex W (fun n t => Tm.get (Tm.flat n t) k = G) (.pointer (some ⟨y, 0, none⟩)) w' n) := fun w' hb' => ⟨y, _, rfl, hy.below hb', ⟨4, .inr (by decide), hwu⟩, hau, hX2, hb.trans (hb'.mono hb.size)⟩
      have hkd : decide (0 < (Tm.T.inner ks).ks.length) = true := decide_eq_true (show 0 < ks.length by omega)
      rw [hkd] at HKID
      have HK : Hid (Calls Try.prog 61 #[.pointer (some ⟨q, 0, none⟩)] wr fun e w' => e = .returned (.bool true) ∧ wr = w') := HKID.out
      have HC : Hid (∀ w, Below wr.heap.size wr w → Calls Try.prog 62 #[.pointer (some ⟨q, 0, none⟩), .string S] w fun e w' => e = .returned (.int .i64 (i : Int)) ∧ Below w.heap.size w w') := fun w hbw => by
        have := tre_child k (hT.below hbw) (show ks.length ≤ 100 by omega) hak
        rw [show Tm.keys (n + 1) (.inner ks) = ks.map (Tm.fk n) from rfl, ← hi, ← HS.out] at this
        exact this
      obtain ⟨N, hN⟩ : ∃ N, N = ks.length := ⟨_, rfl⟩
      rw [← hN] at p2 hil hbc
      have hiN : (i : Int) < (N : Int) := by omega
      have SB : Hid (∀ w', Below wr.heap.size wr w' → w'.cell? ⟨q, 2, none⟩ = some (.slice (some ⟨bg, boff, none⟩) N bc) ∧ w'.cell? ⟨bg, boff + i, none⟩ = some (.pointer (some ⟨y, 0, none⟩))) := fun w' hb' => ⟨(hb'.cell (p := ⟨q, 2, none⟩) hpl).trans p2, (hb'.cell (p := ⟨bg, boff + i, none⟩) hbg).trans hycell⟩
      have HB0 : Hid (Below wr.heap.size wr wr.drew) := below_dr8 wr
      clear HC0 HKID hT h1 h2 h3 ha' hX hb hn hak hkd hi hA hC hfl hgm hX2 hau p2 hkid hycell hy hwu hN HQ hlo' hlo1
      go_wp2_with fail
      refine HK.out.mono ?_
      rintro e w2 ⟨rfl, rfl⟩
      go_upto_region 3 with (fail)
      go_region_held3 (fun w' => w'.cell? ⟨q, 2, none⟩ = some (.slice (some ⟨bg, boff, none⟩) N bc) ∧ w'.cell? ⟨bg, boff + i, none⟩ = some (.pointer (some ⟨y, 0, none⟩))) (first | exact SB.out _ HB0.out | exact SB.out _ (by assumption))
        (first
          | (go_at_call 62; refine (HC.out _ HB0.out).mono ?_; rintro e w3 ⟨rfl, hb3⟩; have B3 := HB0.out.trans (hb3.mono HB0.out.size)))
      have HD3 := Lib.hid (HY.out w3 B3)
      clear hb3 B3 SB HY
      go_wp2_with fail
      go_roundw
      case rel => exact ⟨y, rfl, ⟨n, HD3.out⟩⟩
      case measure =>
        have h1 := (least_spec (P := Dn ex W (fun n t => Tm.get (Tm.flat n t) k = G) (.pointer (some ⟨y, 0, none⟩)) w3) ⟨n, HD3.out⟩).2 n HD3.out
        have h2 := HN.out
        show least _ < least _
        omega
end Go.Proofs.Ytdchapcpimhjaaa
