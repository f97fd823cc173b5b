/- Package log: Open. -/
import Derived.Test.YtofbignggadkiaaLogKc
namespace Go.Proofs.Ytofbignggadkiaa
open Go.RowKit

/-- what Open leaves -/
def OpL (g : Nat) (d : Sm.Dv) (fr : Int) (F : Nat → Prop) (W : World) (e : Ending) (w' : World) : Prop :=
  match (Lm.open_ d fr).1 with
  | some L => ∃ gl F' G', e = .returned (.tuple #[.pointer (some ⟨gl, 0, none⟩), .int .i64 0]) ∧ DevK g (Lm.open_ d fr).2.1 F' w' ∧ LogK gl g L G' w' ∧ Only F W w' ∧ (∀ k, F' k → F k ∨ W.heap.size ≤ k) ∧ (∀ k, G' k → W.heap.size ≤ k) ∧ ∀ k, F' k → ¬ G' k
  | none => e = .returned (.tuple #[.pointer none, .int .i64 (Lm.open_ d fr).2.2]) ∧ Did DevK g F (Lm.open_ d fr).2.1 W w'
theorem did_below {g : Nat} {d : Sm.Dv} {F : Nat → Prop} {W w' : World} (hd : DevK g d F W) (hb : Below W.heap.size W w') : Did DevK g F d W w' :=
  ⟨F, secCon.below hd hb, (only_of hb).mono (fun k hk e => absurd hk (by omega)), fun k h => .inl h⟩
theorem results_2 {P : Program} {fn : Func} {p q : Tmp} (h : fn.results = #[.tmp p, .tmp q]) (tmps : Array Value) (w : World) : (results fn tmps).run P w = .ok (.tuple #[tmps.getD p undef, tmps.getD q undef]) w := by
  simp [results, h]
set_option maxHeartbeats 4000000 in
set_option maxRecDepth 100000 in
theorem log_open {g : Nat} {d : Sm.Dv} {F : Nat → Prop} {W : World} (fr : Int) (hd : DevK g d F W) (hD : Dl d) (hf : n64 fr) :
    Calls Try.prog 7 #[.pointer (some ⟨g, 0, none⟩), .int .i64 fr] W fun e w' => OpL g d fr F W e w' := by
  have HD := Lib.hid hd; have HDL := Lib.hid hD
  obtain ⟨k, hk⟩ : ∃ k : Int, k = (d.kept.length : Int) := ⟨_, rfl⟩
  have hk0 : 0 ≤ k := by omega
  have hk2 : k ≤ 200 := by have := hD.k; omega
  have HSE : Hid (∀ w, DevK g d F w → Calls Try.prog 29 #[.pointer (some ⟨g, 0, none⟩)] w fun e w' => e = .returned (.int .i64 k) ∧ Below w.heap.size w w') := fun w h => by rw [hk]; exact secCon.sectors h
  have hwk : wrap64 (k - 2) = k - 2 := by unfold wrap64; omega
  have HK := Lib.hid hk
  obtain ⟨hf0, hf1⟩ := hf
  clear hd hD hk
  by_cases h1 : fr < 1
  case pos =>
    have hop : Hid (Lm.open_ d fr = (none, d, 2)) := by show _ = _; unfold Lm.open_; rw [if_pos (.inl h1)]
    go_enter Try.func7, Try.ntmps7
    go_wp2
    go_ret2
    unfold OpL
    rw [hop.out]
    exact ⟨rfl, did_below HD.out (Below.refl _ _)⟩
  case neg =>
  by_cases h2 : k - 2 < fr
  case pos =>
    have hop : Hid (Lm.open_ d fr = (none, d, 2)) := by show _ = _; unfold Lm.open_; rw [if_pos (.inr (by rw [← HK.out]; exact h2))]
    go_enter Try.func7, Try.ntmps7
    go_wp2_with fail
    refine (HSE.out W HD.out).mono ?_
    rintro e w1 ⟨rfl, hb⟩
    go_wp2
    go_ret2
    unfold OpL
    rw [hop.out]
    exact ⟨rfl, did_below HD.out hb⟩
  case neg =>
  obtain ⟨n, hn⟩ : ∃ n : Nat, n = fr.toNat := ⟨_, rfl⟩
  have hnf : fr = (n : Int) := by omega
  subst hnf
  have hn1 : (1 : Int) ≤ (n : Int) := by omega
  have hnk : (n : Int) ≤ k - 2 := by omega
  clear hf0 hf1 h1 h2 hn
  have h1 : ¬ (n : Int) < 1 := by omega
  have h2 : ¬ k - 2 < (n : Int) := by omega
  have HB1 : Hid (¬ ((n : Int) < 1 ∨ (d.kept.length : Int) - 2 < (n : Int))) := fun h => by rw [← HK.out] at h; omega
  by_cases h3 : d.left = 0
  case pos =>
    have hop : Hid (Lm.open_ d (n : Int) = (none, d, 60)) := by show _ = _; unfold Lm.open_; rw [if_neg HB1.out, if_pos h3]
    have HRH : Hid (∀ (w : World) (gl : Nat), w.cell? ⟨gl, 0, none⟩ = some (.pointer (some ⟨g, 0, none⟩)) → gl < w.heap.size → DevK g d F w → Calls Try.prog 30 #[.pointer (some ⟨gl, 0, none⟩)] w fun e w' => e = .returned (.int .i64 60) ∧ Below w.heap.size w w') := fun w gl hc hg hd => log_readHeadNo hc hg hd HDL.out.w (by have := HK.out; omega) h3
    clear h3
    go_enter Try.func7, Try.ntmps7
    go_wp2_with fail
    refine (HSE.out W HD.out).mono ?_
    rintro e w1 ⟨rfl, hb⟩
    have HB := Lib.hid hb
    clear hb
    go_wp2_with fail
    refine (HRH.out _ w1.heap.size (by rw [Lib.cell_of_heap (heap_alloc_new w1 _)]; rfl) (by simp) (secCon.below HD.out (HB.out.alloc HB.out.size _))).mono ?_
    rintro e w2 ⟨rfl, hb2⟩
    have HB2 : Hid (Below W.heap.size W w2) := (HB.out.alloc HB.out.size _).trans (hb2.mono (by have := HB.out.size; simp; omega))
    clear hb2
    go_wp2
    go_ret2
    unfold OpL
    rw [hop.out]
    exact ⟨rfl, did_below HD.out HB2.out⟩
  case neg =>
    obtain ⟨L0, hL0⟩ : ∃ L0 : Lm.Lg, L0 = ⟨n, ⟨0, 0, 0, []⟩, [], 0, false⟩ := ⟨_, rfl⟩
    obtain ⟨H, hH⟩ : ∃ H, H = Lm.hd d := ⟨_, rfl⟩
    have hHok := Lm.hd_ok d
    rw [← hH] at hHok
    have HOK := Lib.hid hHok
    have HRH : Hid (∀ (w : World) (gl : Nat), Lk gl g none 0 none 0 [] (fun _ => False) L0 w → DevK g d F w → ¬ F gl → Calls Try.prog 30 #[.pointer (some ⟨gl, 0, none⟩)] w fun e w' => e = .returned (.int .i64 0) ∧ Rh gl g none 0 [] (fun _ => False) { L0 with h := H } w w') := fun w gl hl hd hf => by
      rw [hL0] at hl ⊢
      rw [hH]
      exact log_readHead (L := ⟨n, ⟨0, 0, 0, []⟩, [], 0, false⟩) hl hd hf HDL.out.w (by have := HK.out; omega) h3
    have HRB : Hid (∀ (w : World) (gl : Nat) (ha : Option Addr) (hc : Nat) (Y : Nat → Prop), Lk gl g ha hc none 0 [] Y { L0 with h := H } w → DevK g d F w → ¬ F gl → Calls Try.prog 31 #[.pointer (some ⟨gl, 0, none⟩)] w fun e w' => e = .returned (.int .i64 0) ∧ Re gl g Y ⟨n, H, (Lm.bats d n).1, (Lm.bats d n).2, false⟩ w w') := fun w gl ha hc Y hl hd hf => by
      rw [hL0] at hl
      exact log_readBatches (L := ⟨n, H, [], 0, false⟩) hl hH hd hf HDL.out.w (by have := HK.out; show n + 2 ≤ _; omega) HDL.out.k h3
    have hop0 : Lm.open_ d (n : Int) = if (Lm.next (Lm.up H) d).2 ≠ 0 then (none, (Lm.next (Lm.up H) d).1, (Lm.next (Lm.up H) d).2) else (some ⟨n, Lm.up H, (Lm.bats d n).1, (Lm.bats d n).2, false⟩, (Lm.next (Lm.up H) d).1, 0) := by
      unfold Lm.open_; rw [if_neg HB1.out, if_neg h3, ← hH, Int.toNat_natCast]
    obtain ⟨nI, hnI⟩ : ∃ nI : Int, nI = (H.n : Int) := ⟨_, rfl⟩
    obtain ⟨eI, heI⟩ : ∃ eI : Int, eI = (H.epoch : Int) := ⟨_, rfl⟩
    obtain ⟨bI, hbI⟩ : ∃ bI : Int, bI = (H.base : Int) := ⟨_, rfl⟩
    obtain ⟨mI, hmI⟩ : ∃ mI : Nat, mI = H.body.length := ⟨_, rfl⟩
    obtain ⟨n1, hn1'⟩ : ∃ n1 : Int, n1 = nI + 1 := ⟨_, rfl⟩
    obtain ⟨e1, he1'⟩ : ∃ e1 : Int, e1 = eI + 1 := ⟨_, rfl⟩
    have HNX : Hid (∀ (a : Option Addr) (m c : Nat) (w : World), Calls Try.prog 32 #[.agg #[.int .i64 nI, .int .i64 eI, .int .i64 bI, .slice a m c]] w fun e w' => e = .returned (.agg #[.int .i64 n1, .int .i64 e1, .int .i64 bI, .slice a m c]) ∧ Below w.heap.size w w') := fun a m c w => by
      have := log_next nI eI bI a m c w (by omega) (by omega)
      rw [hn1', he1']; exact this
    have HWH : Hid (∀ (w : World) (gl : Nat) (ha : Option Addr) (hc : Nat) (ba : Option Addr) (bc : Nat) (vs : List Value) (Y : Nat → Prop), e1 ≤ 4294967295 → Lk gl g ha hc ba bc vs Y ⟨n, H, (Lm.bats d n).1, (Lm.bats d n).2, false⟩ w → DevK g d F w → (∀ k, F k → ¬ Gk gl ba Y k) →
        Calls Try.prog 33 #[.pointer (some ⟨gl, 0, none⟩), .agg #[.int .i64 n1, .int .i64 e1, .int .i64 bI, .slice ha mI hc]] w fun e w' => e = .returned (.int .i64 (Lm.next (Lm.up H) d).2) ∧
          ∃ F', DevK g (Lm.next (Lm.up H) d).1 F' w' ∧ Only (fun k => F k ∨ k = gl) w w' ∧ (∀ k, F' k → F k ∨ w.heap.size ≤ k) ∧ ((Lm.next (Lm.up H) d).2 = 0 → Lk gl g ha hc ba bc vs (Yh Y H.body.length ha) ⟨n, Lm.up H, (Lm.bats d n).1, (Lm.bats d n).2, false⟩ w')) := fun w gl ha hc ba bc vs Y he hl hd hap => by
      have h := log_writeHead (Lm.up H) ha mI hc hl hd hap HDL.out.w HDL.out.c0 HDL.out.c1 HDL.out.l0 HDL.out.l1 (by show H.n + 1 ≤ N62 + 1; unfold N62; omega) (by show H.epoch + 1 ≤ _; omega) (by show H.base ≤ _; omega) hHok.2.2.2 (by rw [hmI]; exact hl.hy) (fun h0 x e => ⟨hl.lt _ (.inr (.inr (hl.hY h0 x e))), fun hk => hap _ hk (.inr (.inr (hl.hY h0 x e))), fun e2 => hl.yg (e2 ▸ hl.hY h0 x e), fun y e2 e3 => (hl.yb y e2).2 (e3 ▸ hl.hY h0 x e)⟩)
      unfold hdK at h
      rw [show ((Lm.up H).n : Int) = n1 by show ((H.n + 1 : Nat) : Int) = n1; omega, show ((Lm.up H).epoch : Int) = e1 by show ((H.epoch + 1 : Nat) : Int) = e1; omega, show ((Lm.up H).base : Int) = bI by show (H.base : Int) = bI; omega] at h
      refine h.mono ?_
      rintro e w' ⟨rfl, F', k1, k2, k3, k4, _⟩
      exact ⟨rfl, F', k1, k2, k3, k4⟩
    obtain ⟨RC, hRC⟩ : ∃ RC, RC = (Lm.next (Lm.up H) d).2 := ⟨_, rfl⟩
    obtain ⟨RD, hRD⟩ : ∃ RD, RD = (Lm.next (Lm.up H) d).1 := ⟨_, rfl⟩
    obtain ⟨B1, hB1⟩ : ∃ B1, B1 = (Lm.bats d n).1 := ⟨_, rfl⟩
    obtain ⟨B2, hB2⟩ : ∃ B2, B2 = (Lm.bats d n).2 := ⟨_, rfl⟩
    have HBIG : Hid (4294967295 < e1 → RC = 70 ∧ RD = d) := fun h => by
      have : Lm.next (Lm.up H) d = (d, 70) := by unfold Lm.next; rw [if_pos (by show 4294967295 < H.epoch + 1; omega)]
      rw [hRC, hRD, this]; exact ⟨rfl, rfl⟩
    rw [← hRC, ← hRD, ← hB1, ← hB2] at hop0 HWH
    rw [← hB1, ← hB2] at HRB
    have HOP := Lib.hid hop0
    have HI : Hid (nI = (H.n : Int) ∧ eI = (H.epoch : Int) ∧ bI = (H.base : Int) ∧ mI = H.body.length) := ⟨hnI, heI, hbI, hmI⟩
    have HL0 := Lib.hid hL0
    clear hop0 hL0 hH hHok hnI heI hbI hmI hn1' he1' hRC hRD hB1 hB2 h3
    go_enter Try.func7, Try.ntmps7
    go_wp2_with fail
    refine (HSE.out W HD.out).mono ?_
    rintro e w1 ⟨rfl, hb⟩
    have HB := Lib.hid hb
    clear hb
    go_wp2_with fail
    obtain ⟨gl, hgl⟩ : ∃ gl, gl = w1.heap.size := ⟨_, rfl⟩
    obtain ⟨W1, hW1⟩ : ∃ W1, W1 = w1.alloc (.cells #[.pointer (some ⟨g, 0, none⟩), .int .i64 (n : Int), .int .i64 0, .int .i64 0, .int .i64 0, .slice none 0 0, .slice none 0 0, .int .i64 0, .bool false] 76) := ⟨_, rfl⟩
    have hhp : W1.heap[gl]? = some (.cells #[.pointer (some ⟨g, 0, none⟩), .int .i64 (n : Int), .int .i64 0, .int .i64 0, .int .i64 0, .slice none 0 0, .slice none 0 0, .int .i64 0, .bool false] 76 (0, 0)) := by rw [hW1, hgl, heap_alloc_new]
    have hB1 : Below W.heap.size W W1 := by rw [hW1]; exact HB.out.alloc HB.out.size _
    have hwg : W.heap.size ≤ gl := by rw [hgl]; exact HB.out.size
    have hL1 : Lk gl g none 0 none 0 [] (fun _ => False) L0 W1 := by
      rw [HL0.out]
      have hcell := Lib.cell_of_heap hhp
      exact ⟨by rw [hcell]; rfl, by rw [hcell]; rfl, by rw [hcell]; rfl, by rw [hcell]; rfl, by rw [hcell]; rfl, by rw [hcell]; rfl, by rw [hcell]; rfl, by rw [hcell]; rfl, by rw [hcell]; rfl, fun o => Lib.frozen_of_heap hhp o,
        fun k hk => by
          rcases hk with rfl | ⟨x, e, _⟩ | hk
          · exact heap_lt hhp
          · cases e
          · exact hk.elim, .inl ⟨_, _, rfl, rfl⟩, fun h => absurd h (Nat.lt_irrefl 0), ⟨rfl, .inl ⟨rfl, rfl⟩⟩, fun j hj => absurd hj (by simp), fun h => h, fun x e => by cases e⟩
    have hnf : ¬ F gl := fun h => by have := secCon.lt HD.out gl h; omega
    have HNF := Lib.hid hnf; have HWG := Lib.hid hwg
    rw [← hW1, ← hgl]
    refine (HRH.out W1 gl hL1 (secCon.below HD.out hB1) hnf).mono ?_
    rintro e w2 ⟨rfl, ha, hc, Y, hl2, ho2, hy2⟩
    have HO2 : Hid (Only (fun _ => False) W w2) := ((only_of hB1).mono (fun k hk e => by omega)).trans' ho2 (fun k e => .inr (by omega))
    have HL2 := Lib.hid hl2
    have HY2 : Hid (∀ k, Y k → W.heap.size ≤ k) := fun k hk => by
      rcases hy2 k hk with h | h
      · exact h.elim
      · have := hB1.size; omega
    clear hl2 ho2 hy2 hL1 hhp hB1 hW1 hgl hwg hnf
    go_wp2_with fail
    refine (HRB.out w2 gl ha hc Y HL2.out (secCon.keep HD.out HO2.out (fun _ _ h => h)) HNF.out).mono ?_
    rintro e w3 ⟨rfl, ha3, hc3, ba, bc, vs, Y3, hl3, ho3, hb3, hy3⟩
    have HO3 : Hid (Only (fun _ => False) W w3) := HO2.out.trans' ho3 (fun k e => .inr (by rw [e]; exact HWG.out))
    have HG3 : Hid (∀ k, Gk gl ba Y3 k → W.heap.size ≤ k) := fun k hk => by
      have := HO2.out.size
      rcases hk with rfl | ⟨x, e, rfl⟩ | hk
      · exact HWG.out
      · have := hb3 x e; omega
      · rcases hy3 k hk with h | h
        · exact HY2.out k h
        · omega
    have c2 := hl3.c2; have c3 := hl3.c3; have c4 := hl3.c4; have c5 := hl3.c5
    replace c2 : w3.cell? ⟨gl, 2, none⟩ = some (.int .i64 nI) := by rw [HI.out.1]; exact c2
    replace c3 : w3.cell? ⟨gl, 3, none⟩ = some (.int .i64 eI) := by rw [HI.out.2.1]; exact c3
    replace c4 : w3.cell? ⟨gl, 4, none⟩ = some (.int .i64 bI) := by rw [HI.out.2.2.1]; exact c4
    replace c5 : w3.cell? ⟨gl, 5, none⟩ = some (.slice ha3 mI hc3) := by rw [HI.out.2.2.2]; exact c5
    have hgl3 := hl3.lt gl (.inl rfl)
    have HL3 := Lib.hid hl3
    clear hl3 ho3 hb3 hy3 HL2 HY2 HRH HRB
    go_wp2_with fail
    refine (HNX.out ha3 mI hc3 w3).mono ?_
    rintro e w4 ⟨rfl, hb4⟩
    have HB4 := Lib.hid hb4
    have HO5 : Hid (Only (fun _ => False) W (w4.alloc (.cells #[.int .i64 n1, .int .i64 e1, .int .i64 bI, .slice ha3 mI hc3] 74))) := (HO3.out.trans' (only_of hb4) (fun k hk => .inr (by have := HO3.out.size; omega))).alloc _
    have HL5 := Lib.hid (HL3.out.below (hb4.alloc hb4.size (.cells #[.int .i64 n1, .int .i64 e1, .int .i64 bI, .slice ha3 mI hc3] 74)))
    clear hb4 c2 c3 c4 c5 hgl3
    by_cases hbig : 4294967295 < e1
    case pos =>
      obtain ⟨hR1, hR2⟩ := HBIG.out hbig
      go_wp2
      go_ret2
      unfold OpL
      rw [HOP.out, if_pos (by rw [hR1]; decide), hR1, hR2]
      exact ⟨rfl, F, secCon.keep HD.out HO5.out (fun _ _ h => h), HO5.out.mono (fun _ _ h => h.elim), fun k h => .inl h⟩
    case neg =>
      clear HBIG
      go_wp2_with fail
      refine (HWH.out _ gl ha3 hc3 ba bc vs Y3 (by omega) HL5.out (secCon.keep HD.out HO5.out (fun _ _ h => h)) (fun k hk hg => by have := secCon.lt HD.out k hk; have := HG3.out k hg; omega)).mono ?_
      rintro e w6 ⟨rfl, F6, hd6, ho6, hf6, hl6⟩
      have HO6 : Hid (Only F W w6) := (HO5.out.mono (q := F) (fun _ _ h => h.elim)).trans' ho6 (fun k hk => by
        rcases hk with h | h
        · exact .inl h
        · exact .inr (by rw [h]; exact HWG.out))
      have HF6 : Hid (∀ k, F6 k → F k ∨ W.heap.size ≤ k) := fun k hk => by
        rcases hf6 k hk with h | h
        · exact .inl h
        · have := HO5.out.size; exact .inr (by omega)
      by_cases hz : RC = 0
      case neg =>
        have q1 : (RC != 0) = true := by simp [hz]
        have HD6 := Lib.hid hd6
        clear hd6 ho6 hf6 hl6
        go_wp2
        go_ret2
        unfold OpL
        rw [HOP.out, if_pos hz]
        exact ⟨rfl, F6, HD6.out, HO6.out, HF6.out⟩
      case pos =>
        have hl6 := hl6 hz
        have HAP : Hid (∀ k, F6 k → ¬ Gk gl ba (Yh Y3 H.body.length ha3) k) := fun k hk hg => by
          have hg' : Gk gl ba Y3 k := by
            rcases hg with h | h | h | ⟨h0, x, e, rfl⟩
            · exact .inl h
            · exact .inr (.inl h)
            · exact .inr (.inr h)
            · exact .inr (.inr (HL5.out.hY h0 x e))
          rcases hf6 k hk with h | h
          · have := secCon.lt HD.out k h; have := HG3.out k hg'; omega
          · have := HL5.out.lt k hg'; omega
        have HG6 : Hid (∀ k, Gk gl ba (Yh Y3 H.body.length ha3) k → W.heap.size ≤ k) := fun k hg => by
          rcases hg with h | h | h | ⟨h0, x, e, rfl⟩
          · exact HG3.out k (.inl h)
          · exact HG3.out k (.inr (.inl h))
          · exact HG3.out k (.inr (.inr h))
          · exact HG3.out _ (.inr (.inr (HL5.out.hY h0 x e)))
        have HD6 := Lib.hid hd6; have HL6 := Lib.hid hl6
        subst hz
        clear hd6 ho6 hf6 hl6
        go_wp2
        go_ret2
        unfold OpL
        rw [HOP.out, if_neg (fun h => h rfl)]
        exact ⟨gl, F6, _, rfl, HD6.out, ⟨ha3, hc3, ba, bc, vs, _, HL6.out, rfl⟩, HO6.out, HF6.out, HG6.out, HAP.out⟩
end Go.Proofs.Ytofbignggadkiaa
