/- The reference of layer 11: Value, Put. -/
import Derived.Test.YtmipomglbccjbaaDoorRowGd
import Derived.Deep.RegionWith
namespace Go.Proofs.YtmipomglbccjbaaDoor
open Go.RowKit

/-- what a reference's function that answers bytes leaves, as it is read -/
def Yn (l : List UInt8) (w : World) (e : Ending) (w' : World) : Prop :=
  ∃ v, e = .returned v ∧ Hid (Yt v l w') ∧ (convert 25 9 v).run Tryd.prog w' = .ok (.string (bstr l)) w' ∧ Below w.heap.size w w'
theorem Yn.of {l : List UInt8} {w : World} {e : Ending} {w' : World} (h : Cloned l w e w') : Yn l w e w' := by
  obtain ⟨v, rfl, ho, hb⟩ := h
  have hy : Yt v l w' := Yt.of_own ho
  exact ⟨v, rfl, hy, hy.str, hb⟩
/-- what a function that answers a string leaves -/
def StrR (l : List UInt8) (w : World) (e : Ending) (w' : World) : Prop := e = .returned (.string (bstr l)) ∧ Below w.heap.size w w'
theorem ref_num11 (n : Int) (w : World) (hn : Wm.inR n) : Calls Tryd.prog 34 #[.int .i64 n] w (Yn (Wm.enc n) w) := (ref_number n w hn).mono fun _ _ h => Yn.of h
theorem ref_tx11 (s : ByteArray) (w : World) (hs : s.size ≤ 1000000000) : Calls Tryd.prog 54 #[.string s] w (Yn (tx s) w) := (ref_text s w hs).mono fun _ _ h => Yn.of h

set_option maxHeartbeats 2000000 in
set_option maxRecDepth 100000 in
theorem rv_12 (k n sc : Int) (s : ByteArray) (w : World) (hk : k = 1 ∨ k = 2) (hn : Wm.inR n) :
    Calls Tryd.prog 35 #[.agg #[.int .i64 k, .int .i64 n, .int .i64 sc, .string s]] w (StrR (Rm.valB ⟨k, n, sc, s⟩) w) := by
  have HV : Hid (bstr (Rm.valB ⟨k, n, sc, s⟩) = bstr (Wm.enc k) ++ bstr (Wm.enc n)) := by
    show _ = _
    unfold Rm.valB; rw [if_pos hk, bstr_append]
  have hkr : Wm.inR k := by unfold Wm.inR; omega
  obtain ⟨W1, hW1⟩ : ∃ W1, W1 = w.alloc (.cells #[.int .i64 k, .int .i64 n, .int .i64 sc, .string s] 36) := ⟨_, rfl⟩
  obtain ⟨q, hq⟩ : ∃ q, q = w.heap.size := ⟨_, rfl⟩
  have HX : Hid (Fx q k n sc s W1) := by show Fx _ _ _ _ _ _; rw [hW1, hq]; exact Fx.new w _ _ _ _ _
  have HB : Hid (Below w.heap.size w W1) := by show Below _ _ _; rw [hW1]; exact one_r w _
  have HQ : Hid (W1 = w.alloc (.cells #[.int .i64 k, .int .i64 n, .int .i64 sc, .string s] 36) ∧ q = w.heap.size) := ⟨hW1, hq⟩
  have x0 := HX.out.bx.c0; have x1 := HX.out.bx.c1
  obtain ⟨S1, hS1⟩ : ∃ S1, S1 = bstr (Wm.enc k) := ⟨_, rfl⟩
  obtain ⟨S2, hS2⟩ : ∃ S2, S2 = bstr (Wm.enc n) := ⟨_, rfl⟩
  have hz1 : S1.size ≤ 9 := by rw [hS1, bstr_size]; exact Wm.enc_length_le k hkr
  have hz2 : S2.size ≤ 9 := by rw [hS2, bstr_size]; exact Wm.enc_length_le n hn
  rw [← hS1, ← hS2] at HV
  have HS1 := Lib.hid hS1; have HS2 := Lib.hid hS2
  have HKR := Lib.hid hkr; have HNR := Lib.hid hn
  clear hW1 hq hS1 hS2 hkr hn
  rcases hk with rfl | rfl
  all_goals
    go_enter Tryd.func35, Tryd.ntmps35
    go_wp2_with (rw [← HQ.out.1, ← HQ.out.2])
    refine (ref_num11 _ W1 HKR.out).mono ?_
    rintro e w1 ⟨v1, rfl, hy1, hc1, hb1⟩
    rw [← HS1.out] at hc1
    have HB1 := Lib.hid (HB.out.trans (hb1.mono HB.out.size))
    have HX1 := Lib.hid (HX.out.keep hb1)
    have y0 := HX1.out.bx.c0; have y1 := HX1.out.bx.c1
    clear hy1 hb1 x0 x1
    go_wp2_with fail
    refine (ref_num11 n w1 HNR.out).mono ?_
    rintro e w2 ⟨v2, rfl, hy2, hc2, hb2⟩
    rw [← HS2.out] at hc2
    have HB2 := Lib.hid (HB1.out.trans (hb2.mono HB1.out.size))
    clear hy2 hb2 HB HB1 HX HX1 hc1 y0 y1
    go_wp2
    go_ret
    exact ⟨by rw [HV.out]; rfl, HB2.out⟩

set_option maxHeartbeats 2000000 in
set_option maxRecDepth 100000 in
theorem rv_45 (k n sc : Int) (s : ByteArray) (w : World) (hk : k = 4 ∨ k = 5) (hs : s.size ≤ 200) :
    Calls Tryd.prog 35 #[.agg #[.int .i64 k, .int .i64 n, .int .i64 sc, .string s]] w (StrR (Rm.valB ⟨k, n, sc, s⟩) w) := by
  have HV : Hid (bstr (Rm.valB ⟨k, n, sc, s⟩) = bstr (Wm.enc k) ++ bstr (tx s)) := by
    show _ = _
    unfold Rm.valB; rw [if_neg (by dsimp only; omega), if_neg (by dsimp only; omega), bstr_append]
  have hkr : Wm.inR k := by unfold Wm.inR; omega
  obtain ⟨W1, hW1⟩ : ∃ W1, W1 = w.alloc (.cells #[.int .i64 k, .int .i64 n, .int .i64 sc, .string s] 36) := ⟨_, rfl⟩
  obtain ⟨q, hq⟩ : ∃ q, q = w.heap.size := ⟨_, rfl⟩
  have HX : Hid (Fx q k n sc s W1) := by show Fx _ _ _ _ _ _; rw [hW1, hq]; exact Fx.new w _ _ _ _ _
  have HB : Hid (Below w.heap.size w W1) := by show Below _ _ _; rw [hW1]; exact one_r w _
  have HQ : Hid (W1 = w.alloc (.cells #[.int .i64 k, .int .i64 n, .int .i64 sc, .string s] 36) ∧ q = w.heap.size) := ⟨hW1, hq⟩
  have x0 := HX.out.bx.c0; have x3 := HX.out.bx.c3
  obtain ⟨S1, hS1⟩ : ∃ S1, S1 = bstr (Wm.enc k) := ⟨_, rfl⟩
  obtain ⟨S2, hS2⟩ : ∃ S2, S2 = bstr (tx s) := ⟨_, rfl⟩
  have hz1 : S1.size ≤ 9 := by rw [hS1, bstr_size]; exact Wm.enc_length_le k hkr
  have hz2 : S2.size ≤ 300 := by rw [hS2, bstr_size]; have := tx_le s (by omega); omega
  rw [← hS1, ← hS2] at HV
  have HS1 := Lib.hid hS1; have HS2 := Lib.hid hS2
  have HKR := Lib.hid hkr; have HZ := Lib.hid hs
  clear hW1 hq hS1 hS2 hkr hs
  rcases hk with rfl | rfl
  all_goals
    go_enter Tryd.func35, Tryd.ntmps35
    go_wp2_with (rw [← HQ.out.1, ← HQ.out.2])
    refine (ref_num11 _ W1 HKR.out).mono ?_
    rintro e w1 ⟨v1, rfl, hy1, hc1, hb1⟩
    rw [← HS1.out] at hc1
    have HB1 := Lib.hid (HB.out.trans (hb1.mono HB.out.size))
    have HX1 := Lib.hid (HX.out.keep hb1)
    have y0 := HX1.out.bx.c0; have y3 := HX1.out.bx.c3
    clear hy1 hb1 x0 x3
    go_wp2_with fail
    refine (ref_tx11 s w1 (by have := HZ.out; omega)).mono ?_
    rintro e w2 ⟨v2, rfl, hy2, hc2, hb2⟩
    rw [← HS2.out] at hc2
    have HB2 := Lib.hid (HB1.out.trans (hb2.mono HB1.out.size))
    clear hy2 hb2 HB HB1 HX HX1 hc1 y0 y3
    go_wp2
    go_ret
    exact ⟨by rw [HV.out]; rfl, HB2.out⟩

set_option maxHeartbeats 4000000 in
set_option maxRecDepth 100000 in
theorem rv_3 (n sc : Int) (s : ByteArray) (w : World) (hn : Wm.inR n) (hsc : Wm.inR sc) :
    Calls Tryd.prog 35 #[.agg #[.int .i64 3, .int .i64 n, .int .i64 sc, .string s]] w (StrR (Rm.valB ⟨3, n, sc, s⟩) w) := by
  have HV : Hid (bstr (Rm.valB ⟨3, n, sc, s⟩) = bstr (Wm.enc 3) ++ bstr (Wm.enc sc) ++ bstr (Wm.enc n)) := by
    show _ = _
    unfold Rm.valB; rw [if_neg (by dsimp only; omega), if_pos rfl, bstr_append, bstr_append, List.append_assoc]
  have hkr : Wm.inR 3 := by unfold Wm.inR; omega
  obtain ⟨W1, hW1⟩ : ∃ W1, W1 = w.alloc (.cells #[.int .i64 3, .int .i64 n, .int .i64 sc, .string s] 36) := ⟨_, rfl⟩
  obtain ⟨q, hq⟩ : ∃ q, q = w.heap.size := ⟨_, rfl⟩
  have HX : Hid (Fx q 3 n sc s W1) := by show Fx _ _ _ _ _ _; rw [hW1, hq]; exact Fx.new w _ _ _ _ _
  have HB : Hid (Below w.heap.size w W1) := by show Below _ _ _; rw [hW1]; exact one_r w _
  have HQ : Hid (W1 = w.alloc (.cells #[.int .i64 3, .int .i64 n, .int .i64 sc, .string s] 36) ∧ q = w.heap.size) := ⟨hW1, hq⟩
  have x0 := HX.out.bx.c0
  obtain ⟨S1, hS1⟩ : ∃ S1, S1 = bstr (Wm.enc 3) := ⟨_, rfl⟩
  obtain ⟨S2, hS2⟩ : ∃ S2, S2 = bstr (Wm.enc sc) := ⟨_, rfl⟩
  obtain ⟨S3, hS3⟩ : ∃ S3, S3 = bstr (Wm.enc n) := ⟨_, rfl⟩
  have hz1 : S1.size ≤ 9 := by rw [hS1, bstr_size]; exact Wm.enc_length_le 3 hkr
  have hz2 : S2.size ≤ 9 := by rw [hS2, bstr_size]; exact Wm.enc_length_le sc hsc
  have hz3 : S3.size ≤ 9 := by rw [hS3, bstr_size]; exact Wm.enc_length_le n hn
  have hz12 : (S1 ++ S2).size ≤ 18 := by rw [ByteArray.size_append]; omega
  rw [← hS1, ← hS2, ← hS3] at HV
  have HS1 := Lib.hid hS1; have HS2 := Lib.hid hS2; have HS3 := Lib.hid hS3
  have HKR := Lib.hid hkr; have HNR := Lib.hid hn; have HCR := Lib.hid hsc
  clear hW1 hq hS1 hS2 hS3 hkr hn hsc
  go_enter Tryd.func35, Tryd.ntmps35
  go_wp2_with (rw [← HQ.out.1, ← HQ.out.2])
  refine (ref_num11 _ W1 HKR.out).mono ?_
  rintro e w1 ⟨v1, rfl, hy1, hc1, hb1⟩
  rw [← HS1.out] at hc1
  have HB1 := Lib.hid (HB.out.trans (hb1.mono HB.out.size))
  have HX1 := Lib.hid (HX.out.keep hb1)
  have y0 := HX1.out.bx.c0
  clear hy1 hb1 x0 HX HB HQ
  go_upto_region 7 with (fail)
  clear hc1 y0
  have y1 : w1.drew.cell? ⟨q, 1, none⟩ = some (.int .i64 n) := HX1.out.bx.c1
  have y2 : w1.drew.cell? ⟨q, 2, none⟩ = some (.int .i64 sc) := HX1.out.bx.c2
  go_region_with (first
    | (go_at_call_of 34 (Value.int .i64 sc); refine (ref_num11 sc _ HCR.out).mono ?_; rintro e wa ⟨va, rfl, hya, hca, hba⟩; rw [← HS2.out] at hca; have z1 : wa.cell? ⟨q, 1, none⟩ = some (.int .i64 n) := (hba.cell (p := ⟨q, 1, none⟩) HX1.out.bx.lt).trans y1; have HBA := Lib.hid (Below.drew HB1.out |>.trans (hba.mono HB1.out.size)); clear hba)
    | (go_at_call_of 34 (Value.int .i64 n); refine (ref_num11 n _ HNR.out).mono ?_; rintro e wb ⟨vb, rfl, hyb, hcb, hbb⟩; rw [← HS3.out] at hcb; have hca2 := (hya.out.keep hbb).str; rw [← HS2.out] at hca2; have HBB := Lib.hid (HBA.out.trans (hbb.mono HBA.out.size)); clear hbb))
  all_goals
    go_wp2
    go_ret
    exact ⟨by rw [HV.out]; rfl, HBB.out⟩

theorem ref_value (v : Vm.Cl) (w : World) (hf : Rm.fillB v = true) (hn : Wm.inR v.n) : Calls Tryd.prog 35 #[.agg #[.int .i64 v.k, .int .i64 v.n, .int .i64 v.sc, .string v.s]] w (StrR (Rm.valB v) w) := by
  obtain ⟨k, n, sc, s⟩ := v
  dsimp only at hn ⊢
  rcases Rm.fill_cases hf with ⟨h1, _⟩ | ⟨h1, _⟩ | ⟨h1, h3, h4⟩ | ⟨h1, _, _, h4⟩
  · exact rv_12 k n sc s w (.inl h1) hn
  · exact rv_12 k n sc s w (.inr h1) hn
  · dsimp only at h1 h3
    subst h1
    exact rv_3 n sc s w hn (Rm.scB_in h3)
  · exact rv_45 k n sc s w h1 h4
end Go.Proofs.YtmipomglbccjbaaDoor
/- The reference of layer 11: Put. -/
namespace Go.Proofs.YtmipomglbccjbaaDoor
open Go.RowKit

set_option maxHeartbeats 4000000 in
set_option maxRecDepth 100000 in
theorem ref_put11 (a : Option Addr) (n cap : Nat) (l : List Rm.C) (w : World) (hv : Rs (.slice a n cap) l w) (hl : n ≤ 1000) (hi : ∀ c ∈ l, Rm.fillB c.v = true ∧ Wm.inR c.col ∧ Wm.inR c.v.n) :
    Calls Tryd.prog 13 #[.slice a n cap] w (StrR (Rm.put l) w) := by
  have hnl : n = l.length := by obtain ⟨b, d, e⟩ := hv.form; injection e
  have hn1 : n ≤ l.length := by omega
  have hn2 : l.length ≤ n := by omega
  have HPU : Hid (Rm.put l = Wm.enc (n : Nat) ++ (l.take n).flatMap Rm.cellB) := by show _ = _; unfold Rm.put; rw [← hnl, List.take_of_length_le hn2]
  have HV := Lib.hid hv
  have HI := Lib.hid hi
  clear hnl hv hi
  obtain ⟨S0, hS0⟩ : ∃ S0, S0 = bstr (Wm.enc (n : Nat)) := ⟨_, rfl⟩
  have hz0 : S0.size ≤ 9 := by rw [hS0, bstr_size]; exact Wm.enc_length_le (n : Nat) (by unfold Wm.inR; omega)
  have HS0 := Lib.hid hS0
  clear hS0
  go_enter Tryd.func13, Tryd.ntmps13
  go_wp2_with fail
  refine (ref_num11 (n : Int) w (by unfold Wm.inR; omega)).mono ?_
  rintro e w1 ⟨v1, rfl, hy1, hc1, hb1⟩
  rw [← HS0.out] at hc1
  have HB1 := Lib.hid hb1
  clear hy1 hb1
  go_wp2_with fail
  go_loopw [3, 12] (fun sv iv wr => ∃ (j : Nat) (S : ByteArray), j ≤ n ∧ iv = .int .i64 (j : Int) ∧ sv = .string S ∧ Hid (S = bstr (Wm.enc (n : Nat) ++ (l.take j).flatMap Rm.cellB)) ∧ S.size ≤ 9 + 260 * j ∧ Hid (Below w.heap.size w wr)) (fun _ iv _ => n - (Lib.intOf iv).toNat)
  case atStart => exact ⟨0, S0, by omega, rfl, rfl, by show _ = _; rw [HS0.out]; simp, by omega, HB1.out⟩
  case round =>
    clear HB1 hc1
    obtain ⟨j, S, hj, rfl, rfl, HS, hsz, HB⟩ := hrel
    have hwr := HB.out.size
    by_cases hlt : j < n
    · have hjl : j < l.length := by omega
      obtain ⟨g, off, ha, -, hg, hb⟩ := (HV.out.keep HB.out).at j hjl
      have hci := HI.out l[j] (List.getElem_mem hjl)
      have hst := flat_take hjl
      obtain ⟨c, hc⟩ : ∃ c, c = l[j] := ⟨_, rfl⟩
      rw [← hc] at hb hst hci
      subst ha
      obtain ⟨cl, ck, cn, cz, cs⟩ := c
      obtain ⟨c0, c1, c2, c3, c4⟩ := hb
      dsimp only at c0 c1 c2 c3 c4 hci
      obtain ⟨W3, hW3⟩ : ∃ W3, W3 = wr.alloc (.cells #[.int .i64 cl, .int .i64 ck, .int .i64 cn, .int .i64 cz, .string cs] 38) := ⟨_, rfl⟩
      obtain ⟨q, hq⟩ : ∃ q, q = wr.heap.size := ⟨_, rfl⟩
      have HB3 : Hid (Below w.heap.size w W3) := by show Below _ _ _; rw [hW3]; exact HB.out.alloc hwr _
      have HQ : Hid (W3 = wr.alloc (.cells #[.int .i64 cl, .int .i64 ck, .int .i64 cn, .int .i64 cz, .string cs] 38) ∧ q = wr.heap.size) := ⟨hW3, hq⟩
      have y0 : W3.drew.cell? ⟨q, 0, none⟩ = some (.int .i64 cl) := by show W3.cell? _ = _; rw [hW3, hq]; simp
      have y1 : W3.drew.cell? ⟨q, 1, none⟩ = some (.int .i64 ck) := by show W3.cell? _ = _; rw [hW3, hq]; simp
      have y2 : W3.drew.cell? ⟨q, 2, none⟩ = some (.int .i64 cn) := by show W3.cell? _ = _; rw [hW3, hq]; simp
      have y3 : W3.drew.cell? ⟨q, 3, none⟩ = some (.int .i64 cz) := by show W3.cell? _ = _; rw [hW3, hq]; simp
      have y4 : W3.drew.cell? ⟨q, 4, none⟩ = some (.string cs) := by show W3.cell? _ = _; rw [hW3, hq]; simp
      have hqw : q < W3.heap.size := by rw [hW3, hq]; simp
      obtain ⟨SA, hSA⟩ : ∃ SA, SA = bstr (Wm.enc cl) := ⟨_, rfl⟩
      obtain ⟨SB, hSB⟩ : ∃ SB, SB = bstr (Rm.valB ⟨ck, cn, cz, cs⟩) := ⟨_, rfl⟩
      have hza : SA.size ≤ 9 := by rw [hSA, bstr_size]; exact Wm.enc_length_le cl hci.2.1
      have hzb : SB.size ≤ 250 := by rw [hSB, bstr_size]; exact Rm.valB_len hci.1 hci.2.2
      have hzab : (SA ++ SB).size ≤ 259 := by rw [ByteArray.size_append]; omega
      have hzs : (S ++ (SA ++ SB)).size ≤ 9 + 260 * (j + 1) := by rw [ByteArray.size_append]; omega
      have HST : Hid (S ++ (SA ++ SB) = bstr (Wm.enc (n : Nat) ++ (l.take (j + 1)).flatMap Rm.cellB)) := by
        show _ = _
        rw [HS.out, hSA, hSB, bstr_append, bstr_append, hst]; unfold Rm.cellB; simp only [List.append_assoc]
      have HNA : Hid (∀ W, Calls Tryd.prog 34 #[.int .i64 cl] W fun e w' => ∃ v, e = .returned v ∧ Hid (Yt v (Wm.enc cl) w') ∧ (convert 25 9 v).run Tryd.prog w' = .ok (.string SA) w' ∧ Below W.heap.size W w') := fun W => by rw [hSA]; exact ref_num11 cl W hci.2.1
      have HVB : Hid (∀ W, Calls Tryd.prog 35 #[.agg #[.int .i64 ck, .int .i64 cn, .int .i64 cz, .string cs]] W fun e w' => e = .returned (.string SB) ∧ Below W.heap.size W w') := fun W => by rw [hSB]; exact ref_value ⟨ck, cn, cz, cs⟩ W hci.1 hci.2.2
      have HSA := Lib.hid hSA
      clear hst hc hci hW3 hq HB HS hSA hSB
      go_upto_region 5 with (rw [← HQ.out.1, ← HQ.out.2])
      first | rw [← HQ.out.1, ← HQ.out.2] | skip
      clear HQ c0 c1 c2 c3 c4
      go_region_with (first
        | (go_at_call 34; refine (HNA.out _).mono ?_; rintro e wa ⟨va, rfl, hya, hca, hba⟩; have z0 := (hba.cell (p := ⟨q, 0, none⟩) hqw).trans y0; have z1 := (hba.cell (p := ⟨q, 1, none⟩) hqw).trans y1; have z2 := (hba.cell (p := ⟨q, 2, none⟩) hqw).trans y2; have z3 := (hba.cell (p := ⟨q, 3, none⟩) hqw).trans y3; have z4 := (hba.cell (p := ⟨q, 4, none⟩) hqw).trans y4; have HBA := Lib.hid (HB3.out.drew.trans (hba.mono HB3.out.size)); clear hba)
        | (go_at_call 35; refine (HVB.out _).mono ?_; rintro e wb ⟨rfl, hbb⟩; have hca2 := (hya.out.keep hbb).str; rw [← HSA.out] at hca2; have HBB := Lib.hid (HBA.out.trans (hbb.mono HBA.out.size)); clear hbb))
      all_goals
        clear y0 y1 y2 y3 y4 HNA HVB HSA HB3
        go_wp2_with fail
        go_roundw
        case rel => exact ⟨j + 1, _, by omega, by go_num, rfl, HST, hzs, HBB⟩
        case measure => simp [Lib.intOf]; omega
    · have hjn : j = n := by omega
      have HF : Hid (S = bstr (Rm.put l)) := by show _ = _; rw [HPU.out, HS.out, hjn]
      clear hjn HS
      go_wp2
      go_ret
      exact ⟨by rw [← HF.out]; rfl, HB.out⟩
end Go.Proofs.YtmipomglbccjbaaDoor
