/- The reference of layer 7: Head.Sector. -/
import Derived.Test.YtofbignggadkiaaLogRu
import Derived.Deep.RegionHeld3
namespace Go.Proofs.Ytofbignggadkiaa
open Go.RowKit

/-- a head's cells stand, and nothing that came in has changed -/
abbrev HdS (h : Nat) (n ep ba : Int) (bd : ByteArray) (w0 W : World) : Prop :=
  W.cell? ⟨h, 0, none⟩ = some (.int .i64 n) ∧ W.cell? ⟨h, 1, none⟩ = some (.int .i64 ep) ∧ W.cell? ⟨h, 2, none⟩ = some (.int .i64 ba) ∧ W.cell? ⟨h, 3, none⟩ = some (.string bd) ∧ Hid (h < W.heap.size ∧ Below w0.heap.size w0 W)
theorem HdS.keep {h : Nat} {n ep ba : Int} {bd : ByteArray} {w0 W W' : World} (hs : HdS h n ep ba bd w0 W) (hb : Below W.heap.size W W') : HdS h n ep ba bd w0 W' := by
  obtain ⟨h0, h1, h2, h3, h4⟩ := hs
  have hl := h4.out.1
  have hB := h4.out.2
  exact ⟨(hb.cell (p := ⟨h, 0, none⟩) hl).trans h0, (hb.cell (p := ⟨h, 1, none⟩) hl).trans h1, (hb.cell (p := ⟨h, 2, none⟩) hl).trans h2, (hb.cell (p := ⟨h, 3, none⟩) hl).trans h3, by have := hb.size; omega, hB.trans (hb.mono hB.size)⟩
theorem HdS.new (w : World) (n ep ba : Int) (bd : ByteArray) (t : TypeId) : HdS w.heap.size n ep ba bd w (w.alloc (.cells #[.int .i64 n, .int .i64 ep, .int .i64 ba, .string bd] t)) := by
  have hg := heap_alloc_new w (.cells #[.int .i64 n, .int .i64 ep, .int .i64 ba, .string bd] t)
  exact ⟨by rw [Lib.cell_of_heap hg]; rfl, by rw [Lib.cell_of_heap hg]; rfl, by rw [Lib.cell_of_heap hg]; rfl, by rw [Lib.cell_of_heap hg]; rfl, by simp, one_b w _⟩
theorem lit_yt (W : World) (x : UInt8) (m : Nat) (hx : (x.toNat : Int) = (m : Int)) : Yt (.slice (some ⟨W.heap.size, 0, none⟩) 1 1) [x] (W.alloc (.cells #[.int .u8 (m : Int)] 5)) := by
  rw [← hx]; exact Yt.of_own (own_lit1 W x 0 (Nat.zero_le _))
set_option maxHeartbeats 4000000 in
set_option maxRecDepth 100000 in
theorem ref7_sector (h : Lm.Hd) (w : World) (hn : (h.n : Int) ≤ 9223372036854775807) (he : (h.epoch : Int) ≤ 4294967295) (hb : (h.base : Int) ≤ 4294967295) (hb32 : h.body.length ≤ 32) :
    Calls Try.prog 53 #[.agg #[.int .i64 (h.n : Int), .int .i64 (h.epoch : Int), .int .i64 (h.base : Int), .string (st h.body)]] w fun e w' => e = .returned (.string (st (Lm.hsec h))) ∧ Below w.heap.size w w' := by
  obtain ⟨n, ep, ba, b⟩ := h
  dsimp only at hn he hb hb32 ⊢
  obtain ⟨m, hm⟩ : ∃ m : Nat, m = b.length := ⟨_, rfl⟩
  obtain ⟨x, hx⟩ : ∃ x : UInt8, x = UInt8.ofNat m := ⟨_, rfl⟩
  obtain ⟨A1, hA1⟩ : ∃ A1, A1 = st (Lm.be 8 n) := ⟨_, rfl⟩
  obtain ⟨A2, hA2⟩ : ∃ A2, A2 = st (Lm.be 4 ep) := ⟨_, rfl⟩
  obtain ⟨A3, hA3⟩ : ∃ A3, A3 = st (Lm.be 4 ba) := ⟨_, rfl⟩
  obtain ⟨X, hX⟩ : ∃ X, X = st [x] := ⟨_, rfl⟩
  obtain ⟨B, hB⟩ : ∃ B, B = st b := ⟨_, rfl⟩
  obtain ⟨M1, hM1⟩ : ∃ M1, M1 = st (Lm.be 8 n ++ Lm.be 4 ep) := ⟨_, rfl⟩
  obtain ⟨M2, hM2⟩ : ∃ M2, M2 = st (Lm.be 8 n ++ Lm.be 4 ep ++ Lm.be 4 ba) := ⟨_, rfl⟩
  obtain ⟨M3, hM3⟩ : ∃ M3, M3 = st (Lm.be 8 n ++ Lm.be 4 ep ++ Lm.be 4 ba ++ [x]) := ⟨_, rfl⟩
  obtain ⟨M4, hM4⟩ : ∃ M4, M4 = st (Lm.be 8 n ++ Lm.be 4 ep ++ Lm.be 4 ba ++ [x] ++ b) := ⟨_, rfl⟩
  obtain ⟨P, hP⟩ : ∃ P, P = st (Lm.pad (Lm.be 8 n ++ Lm.be 4 ep ++ Lm.be 4 ba ++ [x] ++ b) 56) := ⟨_, rfl⟩
  obtain ⟨R, hR⟩ : ∃ R, R = P ++ A1 := ⟨_, rfl⟩
  have H1 : Hid (∀ W, Calls Try.prog 56 #[.int .i64 (n : Int), .int .i64 8] W fun e w' => e = .returned (.string A1) ∧ Below W.heap.size W w') := fun W => by rw [hA1]; exact ref7_bytes n 8 W (by omega) hn
  have H2 : Hid (∀ W, Calls Try.prog 56 #[.int .i64 (ep : Int), .int .i64 4] W fun e w' => e = .returned (.string A2) ∧ Below W.heap.size W w') := fun W => by rw [hA2]; exact ref7_bytes ep 4 W (by omega) (by omega)
  have H3 : Hid (∀ W, Calls Try.prog 56 #[.int .i64 (ba : Int), .int .i64 4] W fun e w' => e = .returned (.string A3) ∧ Below W.heap.size W w') := fun W => by rw [hA3]; exact ref7_bytes ba 4 W (by omega) (by omega)
  have H4 : Hid (∀ W, Calls Try.prog 57 #[.string M4, .int .i64 56] W fun e w' => e = .returned (.string P) ∧ W = w') := fun W => by rw [hM4, hP]; exact ref7_pad _ 56 W (by simp [Lm.be_length]; omega) (by omega)
  have a1 : A1 ++ A2 = M1 := by rw [hA1, hA2, hM1, st_append]
  have a2 : M1 ++ A3 = M2 := by rw [hM1, hA3, hM2, st_append]
  have a3 : M2 ++ X = M3 := by rw [hM2, hX, hM3, st_append]
  have a4 : M3 ++ B = M4 := by rw [hM3, hB, hM4, st_append]
  have a5 : P ++ A1 = R := hR.symm
  have HR : Hid (R = st (Lm.hsec ⟨n, ep, ba, b⟩)) := by show _ = _; rw [hR, hP, hA1, st_append, Lm.hsec, hx, hm]
  have s1 : A1.size = 8 := by rw [hA1, st_size, Lm.be_length]
  have s2 : A2.size = 4 := by rw [hA2, st_size, Lm.be_length]
  have s3 : A3.size = 4 := by rw [hA3, st_size, Lm.be_length]
  have s4 : M1.size = 12 := by rw [hM1, st_size]; simp [Lm.be_length]
  have s5 : M2.size = 16 := by rw [hM2, st_size]; simp [Lm.be_length]
  have s6 : M3.size = 17 := by rw [hM3, st_size]; simp [Lm.be_length]
  have s7 : B.size = m := by rw [hB, st_size, hm]
  have s8 : X.size = 1 := by rw [hX, st_size]; rfl
  have s9 : P.size = 56 := by rw [hP, st_size, Lm.pad_length _ _ (by simp [Lm.be_length]; omega)]
  have hm32 : m ≤ 32 := by omega
  have hq : (9223372036854775807 < 17 + m) = False := eq_false (Nat.not_lt.2 (Nat.le_trans (Nat.add_le_add_left hm32 17) (by decide)))
  have hxm : (x.toNat : Int) = (m : Int) := by rw [hx, UInt8.toNat_ofNat']; omega
  have hw8 : IntKind.u8.wrap (m : Int) = (m : Int) := by rw [IntKind.wrap_u8]; omega
  have HX := Lib.hid hX
  have HXM := Lib.hid hxm
  rw [← hB]
  clear hA1 hA2 hA3 hX hB hM1 hM2 hM3 hM4 hP hR hx hm hxm hn he hb hb32
  go_enter Try.func53, Try.ntmps53
  go_upto_region 1 with (fail)
  obtain ⟨W0, hW0⟩ : ∃ W0, W0 = w.alloc (.cells #[.int .i64 (n : Int), .int .i64 (ep : Int), .int .i64 (ba : Int), .string B] 55) := ⟨_, rfl⟩
  have S0 := Lib.hid (HdS.keep (HdS.new w (n : Int) (ep : Int) (ba : Int) B 55) (below_drew7 _))
  rw [← hW0] at S0 ⊢
  clear hW0
  go_upto_region 1 with (fail)
  refine wp_region_noPanic ?_
  refine wp_region_held_drew (S := fun w' => HdS w.heap.size (n : Int) (ep : Int) (ba : Int) B w w') (by kernel_rfl) S0.out (fun _ => ?_)
  refine wpAnyH_take (i := 0) (v := ?v1) rfl (by kernel_rfl) (by kernel_rfl) (by kernel_rfl) (fun _ _ _ h => h) (Or.inl ⟨by rfl, ?hy1⟩) S0.out ?rest1
  case hy1 => (intro w' hSw; obtain ⟨_, _, _, _, _⟩ := hSw; go_simp; with_reducible rfl)
  try simp only [Act.put, List.getElem_toArray, List.getElem_cons_zero, List.setIfInBounds_toArray, List.set_cons_zero, List.set_cons_succ]
  refine wpAnyH_take (i := 1) (v := ?v2) rfl (by kernel_rfl) (by kernel_rfl) (by kernel_rfl) (fun _ _ _ h => h) (Or.inl ⟨by rfl, ?hy2⟩) S0.out ?rest2
  case hy2 => (intro w' hSw; obtain ⟨_, _, _, _, _⟩ := hSw; go_simp; with_reducible rfl)
  try simp only [Act.put, List.getElem_toArray, List.getElem_cons_succ, List.getElem_cons_zero, List.setIfInBounds_toArray, List.set_cons_zero, List.set_cons_succ]
  refine wpAnyH_take (i := 3) (v := ?v3) rfl (by kernel_rfl) (by kernel_rfl) (by kernel_rfl) (fun _ _ _ h => h) (Or.inl ⟨by rfl, ?hy3⟩) S0.out ?rest3
  case hy3 => (intro w' hSw; obtain ⟨_, _, _, _, _⟩ := hSw; go_simp; with_reducible rfl)
  try simp only [Act.put, List.getElem_toArray, List.getElem_cons_succ, List.getElem_cons_zero, List.setIfInBounds_toArray, List.set_cons_zero, List.set_cons_succ]
  refine wpAnyH_take (i := 4) (v := ?v4) rfl (by kernel_rfl) (by kernel_rfl) (by kernel_rfl) (fun _ _ _ h => h) (Or.inl ⟨by rfl, ?hy4⟩) S0.out ?rest4
  case hy4 => (intro w' hSw; obtain ⟨_, _, _, _, _⟩ := hSw; go_simp; with_reducible rfl)
  try simp only [Act.put, List.getElem_toArray, List.getElem_cons_succ, List.getElem_cons_zero, List.setIfInBounds_toArray, List.set_cons_zero, List.set_cons_succ]
  refine wpAnyH_take (i := 7) (v := ?v5) rfl (by kernel_rfl) (by kernel_rfl) (by kernel_rfl) (fun _ _ _ h => h) (Or.inl ⟨by rfl, ?hy5⟩) S0.out ?rest5
  case hy5 => (intro w' hSw; obtain ⟨_, _, _, _, _⟩ := hSw; go_simp; with_reducible rfl)
  try simp only [Act.put, List.getElem_toArray, List.getElem_cons_succ, List.getElem_cons_zero, List.setIfInBounds_toArray, List.set_cons_zero, List.set_cons_succ]
  refine wpAnyH_take (i := 8) (v := ?v6) rfl (by kernel_rfl) (by kernel_rfl) (by kernel_rfl) (fun _ _ _ h => h) (Or.inl ⟨by rfl, ?hy6⟩) S0.out ?rest6
  case hy6 => (intro w' hSw; obtain ⟨_, _, _, _, _⟩ := hSw; go_simp; with_reducible rfl)
  try simp only [Act.put, List.getElem_toArray, List.getElem_cons_succ, List.getElem_cons_zero, List.setIfInBounds_toArray, List.set_cons_zero, List.set_cons_succ]
  refine wpAnyH_take (i := 11) (v := ?v7) rfl (by kernel_rfl) (by kernel_rfl) (by kernel_rfl) (fun _ _ _ h => h) (Or.inl ⟨by rfl, ?hy7⟩) S0.out ?rest7
  case hy7 => (intro w' hSw; obtain ⟨_, _, _, _, _⟩ := hSw; go_simp; with_reducible rfl)
  try simp only [Act.put, List.getElem_toArray, List.getElem_cons_succ, List.getElem_cons_zero, List.setIfInBounds_toArray, List.set_cons_zero, List.set_cons_succ]
  refine wpAnyH_take (i := 12) (v := ?v8) rfl (by kernel_rfl) (by kernel_rfl) (by kernel_rfl) (fun _ _ _ h => h) (Or.inl ⟨by rfl, ?hy8⟩) S0.out ?rest8
  case hy8 => (intro w' hSw; obtain ⟨_, _, _, _, _⟩ := hSw; go_simp; with_reducible rfl)
  try simp only [Act.put, List.getElem_toArray, List.getElem_cons_succ, List.getElem_cons_zero, List.setIfInBounds_toArray, List.set_cons_zero, List.set_cons_succ]
  refine wpAnyH_take (i := 13) (v := ?v9) rfl (by kernel_rfl) (by kernel_rfl) (by kernel_rfl) (fun _ _ _ h => h) (Or.inl ⟨by rfl, ?hy9⟩) S0.out ?rest9
  case hy9 => (intro w' hSw; obtain ⟨_, _, _, _, _⟩ := hSw; go_simp; with_reducible rfl)
  try simp only [Act.put, List.getElem_toArray, List.getElem_cons_succ, List.getElem_cons_zero, List.setIfInBounds_toArray, List.set_cons_zero, List.set_cons_succ]
  refine wpAnyH_take (i := 14) (v := ?v10) rfl (by kernel_rfl) (by kernel_rfl) (by kernel_rfl) (fun _ _ _ h => h) (Or.inl ⟨by rfl, ?hy10⟩) S0.out ?rest10
  case hy10 => (intro w' hSw; obtain ⟨_, _, _, _, _⟩ := hSw; go_simp; with_reducible rfl)
  try simp only [Act.put, List.getElem_toArray, List.getElem_cons_succ, List.getElem_cons_zero, List.setIfInBounds_toArray, List.set_cons_zero, List.set_cons_succ]
  refine wpAnyH_take (i := 18) (v := ?v11) rfl (by kernel_rfl) (by kernel_rfl) (by kernel_rfl) (fun _ _ _ h => h) (Or.inl ⟨by rfl, ?hy11⟩) S0.out ?rest11
  case hy11 => (intro w' hSw; obtain ⟨_, _, _, _, _⟩ := hSw; go_simp; with_reducible rfl)
  try simp only [Act.put, List.getElem_toArray, List.getElem_cons_succ, List.getElem_cons_zero, List.setIfInBounds_toArray, List.set_cons_zero, List.set_cons_succ]
  refine wpAnyH_take (i := 19) (v := ?v12) rfl (by kernel_rfl) (by kernel_rfl) (by kernel_rfl) (fun _ _ _ h => h) (Or.inl ⟨by rfl, ?hy12⟩) S0.out ?rest12
  case hy12 => (intro w' hSw; obtain ⟨_, _, _, _, _⟩ := hSw; go_simp; with_reducible rfl)
  try simp only [Act.put, List.getElem_toArray, List.getElem_cons_succ, List.getElem_cons_zero, List.setIfInBounds_toArray, List.set_cons_zero, List.set_cons_succ]
  refine wpAnyH_take (i := 22) (v := ?v13) rfl (by kernel_rfl) (by kernel_rfl) (by kernel_rfl) (fun _ _ _ h => h) (Or.inl ⟨by rfl, ?hy13⟩) S0.out ?rest13
  case hy13 => (intro w' hSw; obtain ⟨_, _, _, _, _⟩ := hSw; go_simp; with_reducible rfl)
  try simp only [Act.put, List.getElem_toArray, List.getElem_cons_succ, List.getElem_cons_zero, List.setIfInBounds_toArray, List.set_cons_zero, List.set_cons_succ]
  refine wpAnyH_take (i := 23) (v := ?v14) rfl (by kernel_rfl) (by kernel_rfl) (by kernel_rfl) (fun _ _ _ h => h) (Or.inl ⟨by rfl, ?hy14⟩) S0.out ?rest14
  case hy14 => (intro w' hSw; obtain ⟨_, _, _, _, _⟩ := hSw; go_simp; with_reducible rfl)
  try simp only [Act.put, List.getElem_toArray, List.getElem_cons_succ, List.getElem_cons_zero, List.setIfInBounds_toArray, List.set_cons_zero, List.set_cons_succ]
  refine wpAnyH_ready (rs := [2, 15]) (by kernel_rfl) (by simp) ?_
  refine AllReadyH.cons rfl (fun K hK => ?_) ?_
  · skip
    go_simp
    go_wp2_with (go_at_call 56; refine (H1.out _).mono ?_; rintro e w1 ⟨rfl, hb⟩)
    have S1 := Lib.hid (HdS.keep S0.out hb)
    clear hb
    refine hK.out _ _ S1.out (fun _ => ?_)
    clear hK K
    try simp only [Act.put, List.getElem_toArray, List.getElem_cons_succ, List.getElem_cons_zero, List.setIfInBounds_toArray, List.set_cons_zero, List.set_cons_succ]
    refine wpAnyH_ready (rs := [5, 15]) (by kernel_rfl) (by simp) ?_
    refine AllReadyH.cons rfl (fun K hK => ?_) ?_
    · skip
      go_simp
      go_wp2_with (go_at_call 56; refine (H2.out _).mono ?_; rintro e w2 ⟨rfl, hb⟩)
      have S2 := Lib.hid (HdS.keep S1.out hb)
      clear hb
      refine hK.out _ _ S2.out (fun _ => ?_)
      clear hK K
      try simp only [Act.put, List.getElem_toArray, List.getElem_cons_succ, List.getElem_cons_zero, List.setIfInBounds_toArray, List.set_cons_zero, List.set_cons_succ]
      refine wpAnyH_take (i := 6) (v := ?v15) rfl (by kernel_rfl) (by kernel_rfl) (by kernel_rfl) (fun _ _ _ h => h) (Or.inl ⟨by rfl, ?hy15⟩) S2.out ?rest15
      case hy15 => (intro w' hSw; obtain ⟨_, _, _, _, _⟩ := hSw; go_simp; with_reducible rfl)
      try simp only [Act.put, List.getElem_toArray, List.getElem_cons_succ, List.getElem_cons_zero, List.setIfInBounds_toArray, List.set_cons_zero, List.set_cons_succ]
      refine wpAnyH_ready (rs := [9, 15]) (by kernel_rfl) (by simp) ?_
      refine AllReadyH.cons rfl (fun K hK => ?_) ?_
      · skip
        go_simp
        go_wp2_with (go_at_call 56; refine (H3.out _).mono ?_; rintro e w3 ⟨rfl, hb⟩)
        have S3 := Lib.hid (HdS.keep S2.out hb)
        clear hb
        refine hK.out _ _ S3.out (fun _ => ?_)
        clear hK K
        try simp only [Act.put, List.getElem_toArray, List.getElem_cons_succ, List.getElem_cons_zero, List.setIfInBounds_toArray, List.set_cons_zero, List.set_cons_succ]
        refine wpAnyH_take (i := 10) (v := ?v16) rfl (by kernel_rfl) (by kernel_rfl) (by kernel_rfl) (fun _ _ _ h => h) (Or.inl ⟨by rfl, ?hy16⟩) S3.out ?rest16
        case hy16 => (intro w' hSw; obtain ⟨_, _, _, _, _⟩ := hSw; go_simp; with_reducible rfl)
        try simp only [Act.put, List.getElem_toArray, List.getElem_cons_succ, List.getElem_cons_zero, List.setIfInBounds_toArray, List.set_cons_zero, List.set_cons_succ]
        refine wpAnyH_ready (rs := [15]) (by kernel_rfl) (by simp) ?_
        refine AllReadyH.cons rfl (fun K hK => ?_) AllReadyH.nil
        go_simp
        have Y4 : Hid (Yt (.slice (some ⟨w3.heap.size, 0, none⟩) 1 1) [x] (w3.alloc (.cells #[.int .u8 (m : Int)] 5))) := lit_yt w3 x m HXM.out
        have S4 := Lib.hid (HdS.keep S3.out (one_b w3 (.cells #[.int .u8 (m : Int)] 5)))
        refine hK.out _ _ S4.out (fun _ => ?_)
        clear hK K
        try simp only [Act.put, List.getElem_toArray, List.getElem_cons_succ, List.getElem_cons_zero, List.setIfInBounds_toArray, List.set_cons_zero, List.set_cons_succ]
        refine wpAnyH_ready (rs := [16]) (by kernel_rfl) (by simp) ?_
        refine AllReadyH.cons rfl (fun K hK => ?_) AllReadyH.nil
        have hcv := Yt.str Y4.out
        rw [bstr_st7, ← HX.out] at hcv
        go_simp
        clear hcv
        refine hK.out _ _ S4.out (fun _ => ?_)
        clear hK K
        try simp only [Act.put, List.getElem_toArray, List.getElem_cons_succ, List.getElem_cons_zero, List.setIfInBounds_toArray, List.set_cons_zero, List.set_cons_succ]
        refine wpAnyH_take (i := 17) (v := ?v17) rfl (by kernel_rfl) (by kernel_rfl) (by kernel_rfl) (fun _ _ _ h => h) (Or.inl ⟨by rfl, ?hy17⟩) S4.out ?rest17
        case hy17 => (intro w' hSw; obtain ⟨_, _, _, _, _⟩ := hSw; go_simp; with_reducible rfl)
        try simp only [Act.put, List.getElem_toArray, List.getElem_cons_succ, List.getElem_cons_zero, List.setIfInBounds_toArray, List.set_cons_zero, List.set_cons_succ]
        refine wpAnyH_take (i := 20) (v := ?v18) rfl (by kernel_rfl) (by kernel_rfl) (by kernel_rfl) (fun _ _ _ h => h) (Or.inl ⟨by rfl, ?hy18⟩) S4.out ?rest18
        case hy18 => (intro w' hSw; obtain ⟨_, _, _, _, _⟩ := hSw; go_simp; with_reducible rfl)
        try simp only [Act.put, List.getElem_toArray, List.getElem_cons_succ, List.getElem_cons_zero, List.setIfInBounds_toArray, List.set_cons_zero, List.set_cons_succ]
        refine wpAnyH_ready (rs := [21]) (by kernel_rfl) (by simp) ?_
        refine AllReadyH.cons rfl (fun K hK => ?_) AllReadyH.nil
        go_simp
        go_wp2_with (go_at_call 57; refine (H4.out _).mono ?_; rintro e w6 ⟨rfl, rfl⟩)
        refine hK.out _ _ S4.out (fun _ => ?_)
        clear hK K
        try simp only [Act.put, List.getElem_toArray, List.getElem_cons_succ, List.getElem_cons_zero, List.setIfInBounds_toArray, List.set_cons_zero, List.set_cons_succ]
        refine wpAnyH_ready (rs := [24]) (by kernel_rfl) (by simp) ?_
        refine AllReadyH.cons rfl (fun K hK => ?_) AllReadyH.nil
        go_simp
        go_wp2_with (go_at_call 56; refine (H1.out _).mono ?_; rintro e w7 ⟨rfl, hb⟩)
        have S7 := Lib.hid (HdS.keep S4.out hb)
        clear hb
        refine hK.out _ _ S7.out (fun _ => ?_)
        clear hK K
        try simp only [Act.put, List.getElem_toArray, List.getElem_cons_succ, List.getElem_cons_zero, List.setIfInBounds_toArray, List.set_cons_zero, List.set_cons_succ]
        refine wpAnyH_take (i := 25) (v := ?v19) rfl (by kernel_rfl) (by kernel_rfl) (by kernel_rfl) (fun _ _ _ h => h) (Or.inl ⟨by rfl, ?hy19⟩) S7.out ?rest19
        case hy19 => (intro w' hSw; obtain ⟨_, _, _, _, _⟩ := hSw; go_simp; with_reducible rfl)
        try simp only [Act.put, List.getElem_toArray, List.getElem_cons_succ, List.getElem_cons_zero, List.setIfInBounds_toArray, List.set_cons_zero, List.set_cons_succ]
        refine wpAnyH_take (i := 26) (v := ?v20) rfl (by kernel_rfl) (by kernel_rfl) (by kernel_rfl) (fun _ _ _ h => h) (Or.inl ⟨by rfl, ?hy20⟩) S7.out ?rest20
        case hy20 => (intro w' hSw; obtain ⟨_, _, _, _, _⟩ := hSw; go_simp; with_reducible rfl)
        try simp only [Act.put, List.getElem_toArray, List.getElem_cons_succ, List.getElem_cons_zero, List.setIfInBounds_toArray, List.set_cons_zero, List.set_cons_succ]
        refine wpAnyH_done (by kernel_rfl) ?_ _
        refine NoPanic.normal ?_
        have HB := Lib.hid S7.out.2.2.2.2.out.2
        clear H1 H2 H3 H4 a1 a2 a3 a4 a5 s1 s2 s3 s4 s5 s6 s7 s8 s9
        go_wp2
        go_ret
        exact ⟨by rw [HR.out]; rfl, HB.out⟩
      refine AllReadyH.cons rfl (fun K hK => ?_) AllReadyH.nil
      go_simp
      have Y3 : Hid (Yt (.slice (some ⟨w2.heap.size, 0, none⟩) 1 1) [x] (w2.alloc (.cells #[.int .u8 (m : Int)] 5))) := lit_yt w2 x m HXM.out
      have S3 := Lib.hid (HdS.keep S2.out (one_b w2 (.cells #[.int .u8 (m : Int)] 5)))
      refine hK.out _ _ S3.out (fun _ => ?_)
      clear hK K
      try simp only [Act.put, List.getElem_toArray, List.getElem_cons_succ, List.getElem_cons_zero, List.setIfInBounds_toArray, List.set_cons_zero, List.set_cons_succ]
      refine wpAnyH_ready (rs := [9, 16]) (by kernel_rfl) (by simp) ?_
      refine AllReadyH.cons rfl (fun K hK => ?_) ?_
      · skip
        go_simp
        go_wp2_with (go_at_call 56; refine (H3.out _).mono ?_; rintro e w4 ⟨rfl, hb⟩)
        have S4 := Lib.hid (HdS.keep S3.out hb)
        have Y4 := Lib.hid ((Y3.out).keep hb)
        clear hb
        refine hK.out _ _ S4.out (fun _ => ?_)
        clear hK K
        try simp only [Act.put, List.getElem_toArray, List.getElem_cons_succ, List.getElem_cons_zero, List.setIfInBounds_toArray, List.set_cons_zero, List.set_cons_succ]
        refine wpAnyH_take (i := 10) (v := ?v21) rfl (by kernel_rfl) (by kernel_rfl) (by kernel_rfl) (fun _ _ _ h => h) (Or.inl ⟨by rfl, ?hy21⟩) S4.out ?rest21
        case hy21 => (intro w' hSw; obtain ⟨_, _, _, _, _⟩ := hSw; go_simp; with_reducible rfl)
        try simp only [Act.put, List.getElem_toArray, List.getElem_cons_succ, List.getElem_cons_zero, List.setIfInBounds_toArray, List.set_cons_zero, List.set_cons_succ]
        refine wpAnyH_ready (rs := [16]) (by kernel_rfl) (by simp) ?_
        refine AllReadyH.cons rfl (fun K hK => ?_) AllReadyH.nil
        have hcv := Yt.str Y4.out
        rw [bstr_st7, ← HX.out] at hcv
        go_simp
        clear hcv
        refine hK.out _ _ S4.out (fun _ => ?_)
        clear hK K
        try simp only [Act.put, List.getElem_toArray, List.getElem_cons_succ, List.getElem_cons_zero, List.setIfInBounds_toArray, List.set_cons_zero, List.set_cons_succ]
        refine wpAnyH_take (i := 17) (v := ?v22) rfl (by kernel_rfl) (by kernel_rfl) (by kernel_rfl) (fun _ _ _ h => h) (Or.inl ⟨by rfl, ?hy22⟩) S4.out ?rest22
        case hy22 => (intro w' hSw; obtain ⟨_, _, _, _, _⟩ := hSw; go_simp; with_reducible rfl)
        try simp only [Act.put, List.getElem_toArray, List.getElem_cons_succ, List.getElem_cons_zero, List.setIfInBounds_toArray, List.set_cons_zero, List.set_cons_succ]
        refine wpAnyH_take (i := 20) (v := ?v23) rfl (by kernel_rfl) (by kernel_rfl) (by kernel_rfl) (fun _ _ _ h => h) (Or.inl ⟨by rfl, ?hy23⟩) S4.out ?rest23
        case hy23 => (intro w' hSw; obtain ⟨_, _, _, _, _⟩ := hSw; go_simp; with_reducible rfl)
        try simp only [Act.put, List.getElem_toArray, List.getElem_cons_succ, List.getElem_cons_zero, List.setIfInBounds_toArray, List.set_cons_zero, List.set_cons_succ]
        refine wpAnyH_ready (rs := [21]) (by kernel_rfl) (by simp) ?_
        refine AllReadyH.cons rfl (fun K hK => ?_) AllReadyH.nil
        go_simp
        go_wp2_with (go_at_call 57; refine (H4.out _).mono ?_; rintro e w6 ⟨rfl, rfl⟩)
        refine hK.out _ _ S4.out (fun _ => ?_)
        clear hK K
        try simp only [Act.put, List.getElem_toArray, List.getElem_cons_succ, List.getElem_cons_zero, List.setIfInBounds_toArray, List.set_cons_zero, List.set_cons_succ]
        refine wpAnyH_ready (rs := [24]) (by kernel_rfl) (by simp) ?_
        refine AllReadyH.cons rfl (fun K hK => ?_) AllReadyH.nil
        go_simp
        go_wp2_with (go_at_call 56; refine (H1.out _).mono ?_; rintro e w7 ⟨rfl, hb⟩)
        have S7 := Lib.hid (HdS.keep S4.out hb)
        clear hb
        refine hK.out _ _ S7.out (fun _ => ?_)
        clear hK K
        try simp only [Act.put, List.getElem_toArray, List.getElem_cons_succ, List.getElem_cons_zero, List.setIfInBounds_toArray, List.set_cons_zero, List.set_cons_succ]
        refine wpAnyH_take (i := 25) (v := ?v24) rfl (by kernel_rfl) (by kernel_rfl) (by kernel_rfl) (fun _ _ _ h => h) (Or.inl ⟨by rfl, ?hy24⟩) S7.out ?rest24
        case hy24 => (intro w' hSw; obtain ⟨_, _, _, _, _⟩ := hSw; go_simp; with_reducible rfl)
        try simp only [Act.put, List.getElem_toArray, List.getElem_cons_succ, List.getElem_cons_zero, List.setIfInBounds_toArray, List.set_cons_zero, List.set_cons_succ]
        refine wpAnyH_take (i := 26) (v := ?v25) rfl (by kernel_rfl) (by kernel_rfl) (by kernel_rfl) (fun _ _ _ h => h) (Or.inl ⟨by rfl, ?hy25⟩) S7.out ?rest25
        case hy25 => (intro w' hSw; obtain ⟨_, _, _, _, _⟩ := hSw; go_simp; with_reducible rfl)
        try simp only [Act.put, List.getElem_toArray, List.getElem_cons_succ, List.getElem_cons_zero, List.setIfInBounds_toArray, List.set_cons_zero, List.set_cons_succ]
        refine wpAnyH_done (by kernel_rfl) ?_ _
        refine NoPanic.normal ?_
        have HB := Lib.hid S7.out.2.2.2.2.out.2
        clear H1 H2 H3 H4 a1 a2 a3 a4 a5 s1 s2 s3 s4 s5 s6 s7 s8 s9
        go_wp2
        go_ret
        exact ⟨by rw [HR.out]; rfl, HB.out⟩
      refine AllReadyH.cons rfl (fun K hK => ?_) AllReadyH.nil
      have hcv := Yt.str Y3.out
      rw [bstr_st7, ← HX.out] at hcv
      go_simp
      clear hcv
      refine hK.out _ _ S3.out (fun _ => ?_)
      clear hK K
      try simp only [Act.put, List.getElem_toArray, List.getElem_cons_succ, List.getElem_cons_zero, List.setIfInBounds_toArray, List.set_cons_zero, List.set_cons_succ]
      refine wpAnyH_ready (rs := [9]) (by kernel_rfl) (by simp) ?_
      refine AllReadyH.cons rfl (fun K hK => ?_) AllReadyH.nil
      go_simp
      go_wp2_with (go_at_call 56; refine (H3.out _).mono ?_; rintro e w5 ⟨rfl, hb⟩)
      have S5 := Lib.hid (HdS.keep S3.out hb)
      clear hb
      refine hK.out _ _ S5.out (fun _ => ?_)
      clear hK K
      try simp only [Act.put, List.getElem_toArray, List.getElem_cons_succ, List.getElem_cons_zero, List.setIfInBounds_toArray, List.set_cons_zero, List.set_cons_succ]
      refine wpAnyH_take (i := 10) (v := ?v26) rfl (by kernel_rfl) (by kernel_rfl) (by kernel_rfl) (fun _ _ _ h => h) (Or.inl ⟨by rfl, ?hy26⟩) S5.out ?rest26
      case hy26 => (intro w' hSw; obtain ⟨_, _, _, _, _⟩ := hSw; go_simp; with_reducible rfl)
      try simp only [Act.put, List.getElem_toArray, List.getElem_cons_succ, List.getElem_cons_zero, List.setIfInBounds_toArray, List.set_cons_zero, List.set_cons_succ]
      refine wpAnyH_take (i := 17) (v := ?v27) rfl (by kernel_rfl) (by kernel_rfl) (by kernel_rfl) (fun _ _ _ h => h) (Or.inl ⟨by rfl, ?hy27⟩) S5.out ?rest27
      case hy27 => (intro w' hSw; obtain ⟨_, _, _, _, _⟩ := hSw; go_simp; with_reducible rfl)
      try simp only [Act.put, List.getElem_toArray, List.getElem_cons_succ, List.getElem_cons_zero, List.setIfInBounds_toArray, List.set_cons_zero, List.set_cons_succ]
      refine wpAnyH_take (i := 20) (v := ?v28) rfl (by kernel_rfl) (by kernel_rfl) (by kernel_rfl) (fun _ _ _ h => h) (Or.inl ⟨by rfl, ?hy28⟩) S5.out ?rest28
      case hy28 => (intro w' hSw; obtain ⟨_, _, _, _, _⟩ := hSw; go_simp; with_reducible rfl)
      try simp only [Act.put, List.getElem_toArray, List.getElem_cons_succ, List.getElem_cons_zero, List.setIfInBounds_toArray, List.set_cons_zero, List.set_cons_succ]
      refine wpAnyH_ready (rs := [21]) (by kernel_rfl) (by simp) ?_
      refine AllReadyH.cons rfl (fun K hK => ?_) AllReadyH.nil
      go_simp
      go_wp2_with (go_at_call 57; refine (H4.out _).mono ?_; rintro e w6 ⟨rfl, rfl⟩)
      refine hK.out _ _ S5.out (fun _ => ?_)
      clear hK K
      try simp only [Act.put, List.getElem_toArray, List.getElem_cons_succ, List.getElem_cons_zero, List.setIfInBounds_toArray, List.set_cons_zero, List.set_cons_succ]
      refine wpAnyH_ready (rs := [24]) (by kernel_rfl) (by simp) ?_
      refine AllReadyH.cons rfl (fun K hK => ?_) AllReadyH.nil
      go_simp
      go_wp2_with (go_at_call 56; refine (H1.out _).mono ?_; rintro e w7 ⟨rfl, hb⟩)
      have S7 := Lib.hid (HdS.keep S5.out hb)
      clear hb
      refine hK.out _ _ S7.out (fun _ => ?_)
      clear hK K
      try simp only [Act.put, List.getElem_toArray, List.getElem_cons_succ, List.getElem_cons_zero, List.setIfInBounds_toArray, List.set_cons_zero, List.set_cons_succ]
      refine wpAnyH_take (i := 25) (v := ?v29) rfl (by kernel_rfl) (by kernel_rfl) (by kernel_rfl) (fun _ _ _ h => h) (Or.inl ⟨by rfl, ?hy29⟩) S7.out ?rest29
      case hy29 => (intro w' hSw; obtain ⟨_, _, _, _, _⟩ := hSw; go_simp; with_reducible rfl)
      try simp only [Act.put, List.getElem_toArray, List.getElem_cons_succ, List.getElem_cons_zero, List.setIfInBounds_toArray, List.set_cons_zero, List.set_cons_succ]
      refine wpAnyH_take (i := 26) (v := ?v30) rfl (by kernel_rfl) (by kernel_rfl) (by kernel_rfl) (fun _ _ _ h => h) (Or.inl ⟨by rfl, ?hy30⟩) S7.out ?rest30
      case hy30 => (intro w' hSw; obtain ⟨_, _, _, _, _⟩ := hSw; go_simp; with_reducible rfl)
      try simp only [Act.put, List.getElem_toArray, List.getElem_cons_succ, List.getElem_cons_zero, List.setIfInBounds_toArray, List.set_cons_zero, List.set_cons_succ]
      refine wpAnyH_done (by kernel_rfl) ?_ _
      refine NoPanic.normal ?_
      have HB := Lib.hid S7.out.2.2.2.2.out.2
      clear H1 H2 H3 H4 a1 a2 a3 a4 a5 s1 s2 s3 s4 s5 s6 s7 s8 s9
      go_wp2
      go_ret
      exact ⟨by rw [HR.out]; rfl, HB.out⟩
    refine AllReadyH.cons rfl (fun K hK => ?_) AllReadyH.nil
    go_simp
    have Y2 : Hid (Yt (.slice (some ⟨w1.heap.size, 0, none⟩) 1 1) [x] (w1.alloc (.cells #[.int .u8 (m : Int)] 5))) := lit_yt w1 x m HXM.out
    have S2 := Lib.hid (HdS.keep S1.out (one_b w1 (.cells #[.int .u8 (m : Int)] 5)))
    refine hK.out _ _ S2.out (fun _ => ?_)
    clear hK K
    try simp only [Act.put, List.getElem_toArray, List.getElem_cons_succ, List.getElem_cons_zero, List.setIfInBounds_toArray, List.set_cons_zero, List.set_cons_succ]
    refine wpAnyH_ready (rs := [5, 16]) (by kernel_rfl) (by simp) ?_
    refine AllReadyH.cons rfl (fun K hK => ?_) ?_
    · skip
      go_simp
      go_wp2_with (go_at_call 56; refine (H2.out _).mono ?_; rintro e w3 ⟨rfl, hb⟩)
      have S3 := Lib.hid (HdS.keep S2.out hb)
      have Y3 := Lib.hid ((Y2.out).keep hb)
      clear hb
      refine hK.out _ _ S3.out (fun _ => ?_)
      clear hK K
      try simp only [Act.put, List.getElem_toArray, List.getElem_cons_succ, List.getElem_cons_zero, List.setIfInBounds_toArray, List.set_cons_zero, List.set_cons_succ]
      refine wpAnyH_take (i := 6) (v := ?v31) rfl (by kernel_rfl) (by kernel_rfl) (by kernel_rfl) (fun _ _ _ h => h) (Or.inl ⟨by rfl, ?hy31⟩) S3.out ?rest31
      case hy31 => (intro w' hSw; obtain ⟨_, _, _, _, _⟩ := hSw; go_simp; with_reducible rfl)
      try simp only [Act.put, List.getElem_toArray, List.getElem_cons_succ, List.getElem_cons_zero, List.setIfInBounds_toArray, List.set_cons_zero, List.set_cons_succ]
      refine wpAnyH_ready (rs := [9, 16]) (by kernel_rfl) (by simp) ?_
      refine AllReadyH.cons rfl (fun K hK => ?_) ?_
      · skip
        go_simp
        go_wp2_with (go_at_call 56; refine (H3.out _).mono ?_; rintro e w4 ⟨rfl, hb⟩)
        have S4 := Lib.hid (HdS.keep S3.out hb)
        have Y4 := Lib.hid ((Y3.out).keep hb)
        clear hb
        refine hK.out _ _ S4.out (fun _ => ?_)
        clear hK K
        try simp only [Act.put, List.getElem_toArray, List.getElem_cons_succ, List.getElem_cons_zero, List.setIfInBounds_toArray, List.set_cons_zero, List.set_cons_succ]
        refine wpAnyH_take (i := 10) (v := ?v32) rfl (by kernel_rfl) (by kernel_rfl) (by kernel_rfl) (fun _ _ _ h => h) (Or.inl ⟨by rfl, ?hy32⟩) S4.out ?rest32
        case hy32 => (intro w' hSw; obtain ⟨_, _, _, _, _⟩ := hSw; go_simp; with_reducible rfl)
        try simp only [Act.put, List.getElem_toArray, List.getElem_cons_succ, List.getElem_cons_zero, List.setIfInBounds_toArray, List.set_cons_zero, List.set_cons_succ]
        refine wpAnyH_ready (rs := [16]) (by kernel_rfl) (by simp) ?_
        refine AllReadyH.cons rfl (fun K hK => ?_) AllReadyH.nil
        have hcv := Yt.str Y4.out
        rw [bstr_st7, ← HX.out] at hcv
        go_simp
        clear hcv
        refine hK.out _ _ S4.out (fun _ => ?_)
        clear hK K
        try simp only [Act.put, List.getElem_toArray, List.getElem_cons_succ, List.getElem_cons_zero, List.setIfInBounds_toArray, List.set_cons_zero, List.set_cons_succ]
        refine wpAnyH_take (i := 17) (v := ?v33) rfl (by kernel_rfl) (by kernel_rfl) (by kernel_rfl) (fun _ _ _ h => h) (Or.inl ⟨by rfl, ?hy33⟩) S4.out ?rest33
        case hy33 => (intro w' hSw; obtain ⟨_, _, _, _, _⟩ := hSw; go_simp; with_reducible rfl)
        try simp only [Act.put, List.getElem_toArray, List.getElem_cons_succ, List.getElem_cons_zero, List.setIfInBounds_toArray, List.set_cons_zero, List.set_cons_succ]
        refine wpAnyH_take (i := 20) (v := ?v34) rfl (by kernel_rfl) (by kernel_rfl) (by kernel_rfl) (fun _ _ _ h => h) (Or.inl ⟨by rfl, ?hy34⟩) S4.out ?rest34
        case hy34 => (intro w' hSw; obtain ⟨_, _, _, _, _⟩ := hSw; go_simp; with_reducible rfl)
        try simp only [Act.put, List.getElem_toArray, List.getElem_cons_succ, List.getElem_cons_zero, List.setIfInBounds_toArray, List.set_cons_zero, List.set_cons_succ]
        refine wpAnyH_ready (rs := [21]) (by kernel_rfl) (by simp) ?_
        refine AllReadyH.cons rfl (fun K hK => ?_) AllReadyH.nil
        go_simp
        go_wp2_with (go_at_call 57; refine (H4.out _).mono ?_; rintro e w6 ⟨rfl, rfl⟩)
        refine hK.out _ _ S4.out (fun _ => ?_)
        clear hK K
        try simp only [Act.put, List.getElem_toArray, List.getElem_cons_succ, List.getElem_cons_zero, List.setIfInBounds_toArray, List.set_cons_zero, List.set_cons_succ]
        refine wpAnyH_ready (rs := [24]) (by kernel_rfl) (by simp) ?_
        refine AllReadyH.cons rfl (fun K hK => ?_) AllReadyH.nil
        go_simp
        go_wp2_with (go_at_call 56; refine (H1.out _).mono ?_; rintro e w7 ⟨rfl, hb⟩)
        have S7 := Lib.hid (HdS.keep S4.out hb)
        clear hb
        refine hK.out _ _ S7.out (fun _ => ?_)
        clear hK K
        try simp only [Act.put, List.getElem_toArray, List.getElem_cons_succ, List.getElem_cons_zero, List.setIfInBounds_toArray, List.set_cons_zero, List.set_cons_succ]
        refine wpAnyH_take (i := 25) (v := ?v35) rfl (by kernel_rfl) (by kernel_rfl) (by kernel_rfl) (fun _ _ _ h => h) (Or.inl ⟨by rfl, ?hy35⟩) S7.out ?rest35
        case hy35 => (intro w' hSw; obtain ⟨_, _, _, _, _⟩ := hSw; go_simp; with_reducible rfl)
        try simp only [Act.put, List.getElem_toArray, List.getElem_cons_succ, List.getElem_cons_zero, List.setIfInBounds_toArray, List.set_cons_zero, List.set_cons_succ]
        refine wpAnyH_take (i := 26) (v := ?v36) rfl (by kernel_rfl) (by kernel_rfl) (by kernel_rfl) (fun _ _ _ h => h) (Or.inl ⟨by rfl, ?hy36⟩) S7.out ?rest36
        case hy36 => (intro w' hSw; obtain ⟨_, _, _, _, _⟩ := hSw; go_simp; with_reducible rfl)
        try simp only [Act.put, List.getElem_toArray, List.getElem_cons_succ, List.getElem_cons_zero, List.setIfInBounds_toArray, List.set_cons_zero, List.set_cons_succ]
        refine wpAnyH_done (by kernel_rfl) ?_ _
        refine NoPanic.normal ?_
        have HB := Lib.hid S7.out.2.2.2.2.out.2
        clear H1 H2 H3 H4 a1 a2 a3 a4 a5 s1 s2 s3 s4 s5 s6 s7 s8 s9
        go_wp2
        go_ret
        exact ⟨by rw [HR.out]; rfl, HB.out⟩
      refine AllReadyH.cons rfl (fun K hK => ?_) AllReadyH.nil
      have hcv := Yt.str Y3.out
      rw [bstr_st7, ← HX.out] at hcv
      go_simp
      clear hcv
      refine hK.out _ _ S3.out (fun _ => ?_)
      clear hK K
      try simp only [Act.put, List.getElem_toArray, List.getElem_cons_succ, List.getElem_cons_zero, List.setIfInBounds_toArray, List.set_cons_zero, List.set_cons_succ]
      refine wpAnyH_ready (rs := [9]) (by kernel_rfl) (by simp) ?_
      refine AllReadyH.cons rfl (fun K hK => ?_) AllReadyH.nil
      go_simp
      go_wp2_with (go_at_call 56; refine (H3.out _).mono ?_; rintro e w5 ⟨rfl, hb⟩)
      have S5 := Lib.hid (HdS.keep S3.out hb)
      clear hb
      refine hK.out _ _ S5.out (fun _ => ?_)
      clear hK K
      try simp only [Act.put, List.getElem_toArray, List.getElem_cons_succ, List.getElem_cons_zero, List.setIfInBounds_toArray, List.set_cons_zero, List.set_cons_succ]
      refine wpAnyH_take (i := 10) (v := ?v37) rfl (by kernel_rfl) (by kernel_rfl) (by kernel_rfl) (fun _ _ _ h => h) (Or.inl ⟨by rfl, ?hy37⟩) S5.out ?rest37
      case hy37 => (intro w' hSw; obtain ⟨_, _, _, _, _⟩ := hSw; go_simp; with_reducible rfl)
      try simp only [Act.put, List.getElem_toArray, List.getElem_cons_succ, List.getElem_cons_zero, List.setIfInBounds_toArray, List.set_cons_zero, List.set_cons_succ]
      refine wpAnyH_take (i := 17) (v := ?v38) rfl (by kernel_rfl) (by kernel_rfl) (by kernel_rfl) (fun _ _ _ h => h) (Or.inl ⟨by rfl, ?hy38⟩) S5.out ?rest38
      case hy38 => (intro w' hSw; obtain ⟨_, _, _, _, _⟩ := hSw; go_simp; with_reducible rfl)
      try simp only [Act.put, List.getElem_toArray, List.getElem_cons_succ, List.getElem_cons_zero, List.setIfInBounds_toArray, List.set_cons_zero, List.set_cons_succ]
      refine wpAnyH_take (i := 20) (v := ?v39) rfl (by kernel_rfl) (by kernel_rfl) (by kernel_rfl) (fun _ _ _ h => h) (Or.inl ⟨by rfl, ?hy39⟩) S5.out ?rest39
      case hy39 => (intro w' hSw; obtain ⟨_, _, _, _, _⟩ := hSw; go_simp; with_reducible rfl)
      try simp only [Act.put, List.getElem_toArray, List.getElem_cons_succ, List.getElem_cons_zero, List.setIfInBounds_toArray, List.set_cons_zero, List.set_cons_succ]
      refine wpAnyH_ready (rs := [21]) (by kernel_rfl) (by simp) ?_
      refine AllReadyH.cons rfl (fun K hK => ?_) AllReadyH.nil
      go_simp
      go_wp2_with (go_at_call 57; refine (H4.out _).mono ?_; rintro e w6 ⟨rfl, rfl⟩)
      refine hK.out _ _ S5.out (fun _ => ?_)
      clear hK K
      try simp only [Act.put, List.getElem_toArray, List.getElem_cons_succ, List.getElem_cons_zero, List.setIfInBounds_toArray, List.set_cons_zero, List.set_cons_succ]
      refine wpAnyH_ready (rs := [24]) (by kernel_rfl) (by simp) ?_
      refine AllReadyH.cons rfl (fun K hK => ?_) AllReadyH.nil
      go_simp
      go_wp2_with (go_at_call 56; refine (H1.out _).mono ?_; rintro e w7 ⟨rfl, hb⟩)
      have S7 := Lib.hid (HdS.keep S5.out hb)
      clear hb
      refine hK.out _ _ S7.out (fun _ => ?_)
      clear hK K
      try simp only [Act.put, List.getElem_toArray, List.getElem_cons_succ, List.getElem_cons_zero, List.setIfInBounds_toArray, List.set_cons_zero, List.set_cons_succ]
      refine wpAnyH_take (i := 25) (v := ?v40) rfl (by kernel_rfl) (by kernel_rfl) (by kernel_rfl) (fun _ _ _ h => h) (Or.inl ⟨by rfl, ?hy40⟩) S7.out ?rest40
      case hy40 => (intro w' hSw; obtain ⟨_, _, _, _, _⟩ := hSw; go_simp; with_reducible rfl)
      try simp only [Act.put, List.getElem_toArray, List.getElem_cons_succ, List.getElem_cons_zero, List.setIfInBounds_toArray, List.set_cons_zero, List.set_cons_succ]
      refine wpAnyH_take (i := 26) (v := ?v41) rfl (by kernel_rfl) (by kernel_rfl) (by kernel_rfl) (fun _ _ _ h => h) (Or.inl ⟨by rfl, ?hy41⟩) S7.out ?rest41
      case hy41 => (intro w' hSw; obtain ⟨_, _, _, _, _⟩ := hSw; go_simp; with_reducible rfl)
      try simp only [Act.put, List.getElem_toArray, List.getElem_cons_succ, List.getElem_cons_zero, List.setIfInBounds_toArray, List.set_cons_zero, List.set_cons_succ]
      refine wpAnyH_done (by kernel_rfl) ?_ _
      refine NoPanic.normal ?_
      have HB := Lib.hid S7.out.2.2.2.2.out.2
      clear H1 H2 H3 H4 a1 a2 a3 a4 a5 s1 s2 s3 s4 s5 s6 s7 s8 s9
      go_wp2
      go_ret
      exact ⟨by rw [HR.out]; rfl, HB.out⟩
    refine AllReadyH.cons rfl (fun K hK => ?_) AllReadyH.nil
    have hcv := Yt.str Y2.out
    rw [bstr_st7, ← HX.out] at hcv
    go_simp
    clear hcv
    refine hK.out _ _ S2.out (fun _ => ?_)
    clear hK K
    try simp only [Act.put, List.getElem_toArray, List.getElem_cons_succ, List.getElem_cons_zero, List.setIfInBounds_toArray, List.set_cons_zero, List.set_cons_succ]
    refine wpAnyH_ready (rs := [5]) (by kernel_rfl) (by simp) ?_
    refine AllReadyH.cons rfl (fun K hK => ?_) AllReadyH.nil
    go_simp
    go_wp2_with (go_at_call 56; refine (H2.out _).mono ?_; rintro e w4 ⟨rfl, hb⟩)
    have S4 := Lib.hid (HdS.keep S2.out hb)
    clear hb
    refine hK.out _ _ S4.out (fun _ => ?_)
    clear hK K
    try simp only [Act.put, List.getElem_toArray, List.getElem_cons_succ, List.getElem_cons_zero, List.setIfInBounds_toArray, List.set_cons_zero, List.set_cons_succ]
    refine wpAnyH_take (i := 6) (v := ?v42) rfl (by kernel_rfl) (by kernel_rfl) (by kernel_rfl) (fun _ _ _ h => h) (Or.inl ⟨by rfl, ?hy42⟩) S4.out ?rest42
    case hy42 => (intro w' hSw; obtain ⟨_, _, _, _, _⟩ := hSw; go_simp; with_reducible rfl)
    try simp only [Act.put, List.getElem_toArray, List.getElem_cons_succ, List.getElem_cons_zero, List.setIfInBounds_toArray, List.set_cons_zero, List.set_cons_succ]
    refine wpAnyH_ready (rs := [9]) (by kernel_rfl) (by simp) ?_
    refine AllReadyH.cons rfl (fun K hK => ?_) AllReadyH.nil
    go_simp
    go_wp2_with (go_at_call 56; refine (H3.out _).mono ?_; rintro e w5 ⟨rfl, hb⟩)
    have S5 := Lib.hid (HdS.keep S4.out hb)
    clear hb
    refine hK.out _ _ S5.out (fun _ => ?_)
    clear hK K
    try simp only [Act.put, List.getElem_toArray, List.getElem_cons_succ, List.getElem_cons_zero, List.setIfInBounds_toArray, List.set_cons_zero, List.set_cons_succ]
    refine wpAnyH_take (i := 10) (v := ?v43) rfl (by kernel_rfl) (by kernel_rfl) (by kernel_rfl) (fun _ _ _ h => h) (Or.inl ⟨by rfl, ?hy43⟩) S5.out ?rest43
    case hy43 => (intro w' hSw; obtain ⟨_, _, _, _, _⟩ := hSw; go_simp; with_reducible rfl)
    try simp only [Act.put, List.getElem_toArray, List.getElem_cons_succ, List.getElem_cons_zero, List.setIfInBounds_toArray, List.set_cons_zero, List.set_cons_succ]
    refine wpAnyH_take (i := 17) (v := ?v44) rfl (by kernel_rfl) (by kernel_rfl) (by kernel_rfl) (fun _ _ _ h => h) (Or.inl ⟨by rfl, ?hy44⟩) S5.out ?rest44
    case hy44 => (intro w' hSw; obtain ⟨_, _, _, _, _⟩ := hSw; go_simp; with_reducible rfl)
    try simp only [Act.put, List.getElem_toArray, List.getElem_cons_succ, List.getElem_cons_zero, List.setIfInBounds_toArray, List.set_cons_zero, List.set_cons_succ]
    refine wpAnyH_take (i := 20) (v := ?v45) rfl (by kernel_rfl) (by kernel_rfl) (by kernel_rfl) (fun _ _ _ h => h) (Or.inl ⟨by rfl, ?hy45⟩) S5.out ?rest45
    case hy45 => (intro w' hSw; obtain ⟨_, _, _, _, _⟩ := hSw; go_simp; with_reducible rfl)
    try simp only [Act.put, List.getElem_toArray, List.getElem_cons_succ, List.getElem_cons_zero, List.setIfInBounds_toArray, List.set_cons_zero, List.set_cons_succ]
    refine wpAnyH_ready (rs := [21]) (by kernel_rfl) (by simp) ?_
    refine AllReadyH.cons rfl (fun K hK => ?_) AllReadyH.nil
    go_simp
    go_wp2_with (go_at_call 57; refine (H4.out _).mono ?_; rintro e w6 ⟨rfl, rfl⟩)
    refine hK.out _ _ S5.out (fun _ => ?_)
    clear hK K
    try simp only [Act.put, List.getElem_toArray, List.getElem_cons_succ, List.getElem_cons_zero, List.setIfInBounds_toArray, List.set_cons_zero, List.set_cons_succ]
    refine wpAnyH_ready (rs := [24]) (by kernel_rfl) (by simp) ?_
    refine AllReadyH.cons rfl (fun K hK => ?_) AllReadyH.nil
    go_simp
    go_wp2_with (go_at_call 56; refine (H1.out _).mono ?_; rintro e w7 ⟨rfl, hb⟩)
    have S7 := Lib.hid (HdS.keep S5.out hb)
    clear hb
    refine hK.out _ _ S7.out (fun _ => ?_)
    clear hK K
    try simp only [Act.put, List.getElem_toArray, List.getElem_cons_succ, List.getElem_cons_zero, List.setIfInBounds_toArray, List.set_cons_zero, List.set_cons_succ]
    refine wpAnyH_take (i := 25) (v := ?v46) rfl (by kernel_rfl) (by kernel_rfl) (by kernel_rfl) (fun _ _ _ h => h) (Or.inl ⟨by rfl, ?hy46⟩) S7.out ?rest46
    case hy46 => (intro w' hSw; obtain ⟨_, _, _, _, _⟩ := hSw; go_simp; with_reducible rfl)
    try simp only [Act.put, List.getElem_toArray, List.getElem_cons_succ, List.getElem_cons_zero, List.setIfInBounds_toArray, List.set_cons_zero, List.set_cons_succ]
    refine wpAnyH_take (i := 26) (v := ?v47) rfl (by kernel_rfl) (by kernel_rfl) (by kernel_rfl) (fun _ _ _ h => h) (Or.inl ⟨by rfl, ?hy47⟩) S7.out ?rest47
    case hy47 => (intro w' hSw; obtain ⟨_, _, _, _, _⟩ := hSw; go_simp; with_reducible rfl)
    try simp only [Act.put, List.getElem_toArray, List.getElem_cons_succ, List.getElem_cons_zero, List.setIfInBounds_toArray, List.set_cons_zero, List.set_cons_succ]
    refine wpAnyH_done (by kernel_rfl) ?_ _
    refine NoPanic.normal ?_
    have HB := Lib.hid S7.out.2.2.2.2.out.2
    clear H1 H2 H3 H4 a1 a2 a3 a4 a5 s1 s2 s3 s4 s5 s6 s7 s8 s9
    go_wp2
    go_ret
    exact ⟨by rw [HR.out]; rfl, HB.out⟩
  refine AllReadyH.cons rfl (fun K hK => ?_) AllReadyH.nil
  go_simp
  have Y1 : Hid (Yt (.slice (some ⟨W0.heap.size, 0, none⟩) 1 1) [x] (W0.drew.alloc (.cells #[.int .u8 (m : Int)] 5))) := lit_yt W0.drew x m HXM.out
  have S1 := Lib.hid (HdS.keep S0.out (one_b W0.drew (.cells #[.int .u8 (m : Int)] 5)))
  refine hK.out _ _ S1.out (fun _ => ?_)
  clear hK K
  try simp only [Act.put, List.getElem_toArray, List.getElem_cons_succ, List.getElem_cons_zero, List.setIfInBounds_toArray, List.set_cons_zero, List.set_cons_succ]
  refine wpAnyH_ready (rs := [2, 16]) (by kernel_rfl) (by simp) ?_
  refine AllReadyH.cons rfl (fun K hK => ?_) ?_
  · skip
    go_simp
    go_wp2_with (go_at_call 56; refine (H1.out _).mono ?_; rintro e w2 ⟨rfl, hb⟩)
    have S2 := Lib.hid (HdS.keep S1.out hb)
    have Y2 := Lib.hid ((Y1.out).keep hb)
    clear hb
    refine hK.out _ _ S2.out (fun _ => ?_)
    clear hK K
    try simp only [Act.put, List.getElem_toArray, List.getElem_cons_succ, List.getElem_cons_zero, List.setIfInBounds_toArray, List.set_cons_zero, List.set_cons_succ]
    refine wpAnyH_ready (rs := [5, 16]) (by kernel_rfl) (by simp) ?_
    refine AllReadyH.cons rfl (fun K hK => ?_) ?_
    · skip
      go_simp
      go_wp2_with (go_at_call 56; refine (H2.out _).mono ?_; rintro e w3 ⟨rfl, hb⟩)
      have S3 := Lib.hid (HdS.keep S2.out hb)
      have Y3 := Lib.hid ((Y2.out).keep hb)
      clear hb
      refine hK.out _ _ S3.out (fun _ => ?_)
      clear hK K
      try simp only [Act.put, List.getElem_toArray, List.getElem_cons_succ, List.getElem_cons_zero, List.setIfInBounds_toArray, List.set_cons_zero, List.set_cons_succ]
      refine wpAnyH_take (i := 6) (v := ?v48) rfl (by kernel_rfl) (by kernel_rfl) (by kernel_rfl) (fun _ _ _ h => h) (Or.inl ⟨by rfl, ?hy48⟩) S3.out ?rest48
      case hy48 => (intro w' hSw; obtain ⟨_, _, _, _, _⟩ := hSw; go_simp; with_reducible rfl)
      try simp only [Act.put, List.getElem_toArray, List.getElem_cons_succ, List.getElem_cons_zero, List.setIfInBounds_toArray, List.set_cons_zero, List.set_cons_succ]
      refine wpAnyH_ready (rs := [9, 16]) (by kernel_rfl) (by simp) ?_
      refine AllReadyH.cons rfl (fun K hK => ?_) ?_
      · skip
        go_simp
        go_wp2_with (go_at_call 56; refine (H3.out _).mono ?_; rintro e w4 ⟨rfl, hb⟩)
        have S4 := Lib.hid (HdS.keep S3.out hb)
        have Y4 := Lib.hid ((Y3.out).keep hb)
        clear hb
        refine hK.out _ _ S4.out (fun _ => ?_)
        clear hK K
        try simp only [Act.put, List.getElem_toArray, List.getElem_cons_succ, List.getElem_cons_zero, List.setIfInBounds_toArray, List.set_cons_zero, List.set_cons_succ]
        refine wpAnyH_take (i := 10) (v := ?v49) rfl (by kernel_rfl) (by kernel_rfl) (by kernel_rfl) (fun _ _ _ h => h) (Or.inl ⟨by rfl, ?hy49⟩) S4.out ?rest49
        case hy49 => (intro w' hSw; obtain ⟨_, _, _, _, _⟩ := hSw; go_simp; with_reducible rfl)
        try simp only [Act.put, List.getElem_toArray, List.getElem_cons_succ, List.getElem_cons_zero, List.setIfInBounds_toArray, List.set_cons_zero, List.set_cons_succ]
        refine wpAnyH_ready (rs := [16]) (by kernel_rfl) (by simp) ?_
        refine AllReadyH.cons rfl (fun K hK => ?_) AllReadyH.nil
        have hcv := Yt.str Y4.out
        rw [bstr_st7, ← HX.out] at hcv
        go_simp
        clear hcv
        refine hK.out _ _ S4.out (fun _ => ?_)
        clear hK K
        try simp only [Act.put, List.getElem_toArray, List.getElem_cons_succ, List.getElem_cons_zero, List.setIfInBounds_toArray, List.set_cons_zero, List.set_cons_succ]
        refine wpAnyH_take (i := 17) (v := ?v50) rfl (by kernel_rfl) (by kernel_rfl) (by kernel_rfl) (fun _ _ _ h => h) (Or.inl ⟨by rfl, ?hy50⟩) S4.out ?rest50
        case hy50 => (intro w' hSw; obtain ⟨_, _, _, _, _⟩ := hSw; go_simp; with_reducible rfl)
        try simp only [Act.put, List.getElem_toArray, List.getElem_cons_succ, List.getElem_cons_zero, List.setIfInBounds_toArray, List.set_cons_zero, List.set_cons_succ]
        refine wpAnyH_take (i := 20) (v := ?v51) rfl (by kernel_rfl) (by kernel_rfl) (by kernel_rfl) (fun _ _ _ h => h) (Or.inl ⟨by rfl, ?hy51⟩) S4.out ?rest51
        case hy51 => (intro w' hSw; obtain ⟨_, _, _, _, _⟩ := hSw; go_simp; with_reducible rfl)
        try simp only [Act.put, List.getElem_toArray, List.getElem_cons_succ, List.getElem_cons_zero, List.setIfInBounds_toArray, List.set_cons_zero, List.set_cons_succ]
        refine wpAnyH_ready (rs := [21]) (by kernel_rfl) (by simp) ?_
        refine AllReadyH.cons rfl (fun K hK => ?_) AllReadyH.nil
        go_simp
        go_wp2_with (go_at_call 57; refine (H4.out _).mono ?_; rintro e w6 ⟨rfl, rfl⟩)
        refine hK.out _ _ S4.out (fun _ => ?_)
        clear hK K
        try simp only [Act.put, List.getElem_toArray, List.getElem_cons_succ, List.getElem_cons_zero, List.setIfInBounds_toArray, List.set_cons_zero, List.set_cons_succ]
        refine wpAnyH_ready (rs := [24]) (by kernel_rfl) (by simp) ?_
        refine AllReadyH.cons rfl (fun K hK => ?_) AllReadyH.nil
        go_simp
        go_wp2_with (go_at_call 56; refine (H1.out _).mono ?_; rintro e w7 ⟨rfl, hb⟩)
        have S7 := Lib.hid (HdS.keep S4.out hb)
        clear hb
        refine hK.out _ _ S7.out (fun _ => ?_)
        clear hK K
        try simp only [Act.put, List.getElem_toArray, List.getElem_cons_succ, List.getElem_cons_zero, List.setIfInBounds_toArray, List.set_cons_zero, List.set_cons_succ]
        refine wpAnyH_take (i := 25) (v := ?v52) rfl (by kernel_rfl) (by kernel_rfl) (by kernel_rfl) (fun _ _ _ h => h) (Or.inl ⟨by rfl, ?hy52⟩) S7.out ?rest52
        case hy52 => (intro w' hSw; obtain ⟨_, _, _, _, _⟩ := hSw; go_simp; with_reducible rfl)
        try simp only [Act.put, List.getElem_toArray, List.getElem_cons_succ, List.getElem_cons_zero, List.setIfInBounds_toArray, List.set_cons_zero, List.set_cons_succ]
        refine wpAnyH_take (i := 26) (v := ?v53) rfl (by kernel_rfl) (by kernel_rfl) (by kernel_rfl) (fun _ _ _ h => h) (Or.inl ⟨by rfl, ?hy53⟩) S7.out ?rest53
        case hy53 => (intro w' hSw; obtain ⟨_, _, _, _, _⟩ := hSw; go_simp; with_reducible rfl)
        try simp only [Act.put, List.getElem_toArray, List.getElem_cons_succ, List.getElem_cons_zero, List.setIfInBounds_toArray, List.set_cons_zero, List.set_cons_succ]
        refine wpAnyH_done (by kernel_rfl) ?_ _
        refine NoPanic.normal ?_
        have HB := Lib.hid S7.out.2.2.2.2.out.2
        clear H1 H2 H3 H4 a1 a2 a3 a4 a5 s1 s2 s3 s4 s5 s6 s7 s8 s9
        go_wp2
        go_ret
        exact ⟨by rw [HR.out]; rfl, HB.out⟩
      refine AllReadyH.cons rfl (fun K hK => ?_) AllReadyH.nil
      have hcv := Yt.str Y3.out
      rw [bstr_st7, ← HX.out] at hcv
      go_simp
      clear hcv
      refine hK.out _ _ S3.out (fun _ => ?_)
      clear hK K
      try simp only [Act.put, List.getElem_toArray, List.getElem_cons_succ, List.getElem_cons_zero, List.setIfInBounds_toArray, List.set_cons_zero, List.set_cons_succ]
      refine wpAnyH_ready (rs := [9]) (by kernel_rfl) (by simp) ?_
      refine AllReadyH.cons rfl (fun K hK => ?_) AllReadyH.nil
      go_simp
      go_wp2_with (go_at_call 56; refine (H3.out _).mono ?_; rintro e w5 ⟨rfl, hb⟩)
      have S5 := Lib.hid (HdS.keep S3.out hb)
      clear hb
      refine hK.out _ _ S5.out (fun _ => ?_)
      clear hK K
      try simp only [Act.put, List.getElem_toArray, List.getElem_cons_succ, List.getElem_cons_zero, List.setIfInBounds_toArray, List.set_cons_zero, List.set_cons_succ]
      refine wpAnyH_take (i := 10) (v := ?v54) rfl (by kernel_rfl) (by kernel_rfl) (by kernel_rfl) (fun _ _ _ h => h) (Or.inl ⟨by rfl, ?hy54⟩) S5.out ?rest54
      case hy54 => (intro w' hSw; obtain ⟨_, _, _, _, _⟩ := hSw; go_simp; with_reducible rfl)
      try simp only [Act.put, List.getElem_toArray, List.getElem_cons_succ, List.getElem_cons_zero, List.setIfInBounds_toArray, List.set_cons_zero, List.set_cons_succ]
      refine wpAnyH_take (i := 17) (v := ?v55) rfl (by kernel_rfl) (by kernel_rfl) (by kernel_rfl) (fun _ _ _ h => h) (Or.inl ⟨by rfl, ?hy55⟩) S5.out ?rest55
      case hy55 => (intro w' hSw; obtain ⟨_, _, _, _, _⟩ := hSw; go_simp; with_reducible rfl)
      try simp only [Act.put, List.getElem_toArray, List.getElem_cons_succ, List.getElem_cons_zero, List.setIfInBounds_toArray, List.set_cons_zero, List.set_cons_succ]
      refine wpAnyH_take (i := 20) (v := ?v56) rfl (by kernel_rfl) (by kernel_rfl) (by kernel_rfl) (fun _ _ _ h => h) (Or.inl ⟨by rfl, ?hy56⟩) S5.out ?rest56
      case hy56 => (intro w' hSw; obtain ⟨_, _, _, _, _⟩ := hSw; go_simp; with_reducible rfl)
      try simp only [Act.put, List.getElem_toArray, List.getElem_cons_succ, List.getElem_cons_zero, List.setIfInBounds_toArray, List.set_cons_zero, List.set_cons_succ]
      refine wpAnyH_ready (rs := [21]) (by kernel_rfl) (by simp) ?_
      refine AllReadyH.cons rfl (fun K hK => ?_) AllReadyH.nil
      go_simp
      go_wp2_with (go_at_call 57; refine (H4.out _).mono ?_; rintro e w6 ⟨rfl, rfl⟩)
      refine hK.out _ _ S5.out (fun _ => ?_)
      clear hK K
      try simp only [Act.put, List.getElem_toArray, List.getElem_cons_succ, List.getElem_cons_zero, List.setIfInBounds_toArray, List.set_cons_zero, List.set_cons_succ]
      refine wpAnyH_ready (rs := [24]) (by kernel_rfl) (by simp) ?_
      refine AllReadyH.cons rfl (fun K hK => ?_) AllReadyH.nil
      go_simp
      go_wp2_with (go_at_call 56; refine (H1.out _).mono ?_; rintro e w7 ⟨rfl, hb⟩)
      have S7 := Lib.hid (HdS.keep S5.out hb)
      clear hb
      refine hK.out _ _ S7.out (fun _ => ?_)
      clear hK K
      try simp only [Act.put, List.getElem_toArray, List.getElem_cons_succ, List.getElem_cons_zero, List.setIfInBounds_toArray, List.set_cons_zero, List.set_cons_succ]
      refine wpAnyH_take (i := 25) (v := ?v57) rfl (by kernel_rfl) (by kernel_rfl) (by kernel_rfl) (fun _ _ _ h => h) (Or.inl ⟨by rfl, ?hy57⟩) S7.out ?rest57
      case hy57 => (intro w' hSw; obtain ⟨_, _, _, _, _⟩ := hSw; go_simp; with_reducible rfl)
      try simp only [Act.put, List.getElem_toArray, List.getElem_cons_succ, List.getElem_cons_zero, List.setIfInBounds_toArray, List.set_cons_zero, List.set_cons_succ]
      refine wpAnyH_take (i := 26) (v := ?v58) rfl (by kernel_rfl) (by kernel_rfl) (by kernel_rfl) (fun _ _ _ h => h) (Or.inl ⟨by rfl, ?hy58⟩) S7.out ?rest58
      case hy58 => (intro w' hSw; obtain ⟨_, _, _, _, _⟩ := hSw; go_simp; with_reducible rfl)
      try simp only [Act.put, List.getElem_toArray, List.getElem_cons_succ, List.getElem_cons_zero, List.setIfInBounds_toArray, List.set_cons_zero, List.set_cons_succ]
      refine wpAnyH_done (by kernel_rfl) ?_ _
      refine NoPanic.normal ?_
      have HB := Lib.hid S7.out.2.2.2.2.out.2
      clear H1 H2 H3 H4 a1 a2 a3 a4 a5 s1 s2 s3 s4 s5 s6 s7 s8 s9
      go_wp2
      go_ret
      exact ⟨by rw [HR.out]; rfl, HB.out⟩
    refine AllReadyH.cons rfl (fun K hK => ?_) AllReadyH.nil
    have hcv := Yt.str Y2.out
    rw [bstr_st7, ← HX.out] at hcv
    go_simp
    clear hcv
    refine hK.out _ _ S2.out (fun _ => ?_)
    clear hK K
    try simp only [Act.put, List.getElem_toArray, List.getElem_cons_succ, List.getElem_cons_zero, List.setIfInBounds_toArray, List.set_cons_zero, List.set_cons_succ]
    refine wpAnyH_ready (rs := [5]) (by kernel_rfl) (by simp) ?_
    refine AllReadyH.cons rfl (fun K hK => ?_) AllReadyH.nil
    go_simp
    go_wp2_with (go_at_call 56; refine (H2.out _).mono ?_; rintro e w4 ⟨rfl, hb⟩)
    have S4 := Lib.hid (HdS.keep S2.out hb)
    clear hb
    refine hK.out _ _ S4.out (fun _ => ?_)
    clear hK K
    try simp only [Act.put, List.getElem_toArray, List.getElem_cons_succ, List.getElem_cons_zero, List.setIfInBounds_toArray, List.set_cons_zero, List.set_cons_succ]
    refine wpAnyH_take (i := 6) (v := ?v59) rfl (by kernel_rfl) (by kernel_rfl) (by kernel_rfl) (fun _ _ _ h => h) (Or.inl ⟨by rfl, ?hy59⟩) S4.out ?rest59
    case hy59 => (intro w' hSw; obtain ⟨_, _, _, _, _⟩ := hSw; go_simp; with_reducible rfl)
    try simp only [Act.put, List.getElem_toArray, List.getElem_cons_succ, List.getElem_cons_zero, List.setIfInBounds_toArray, List.set_cons_zero, List.set_cons_succ]
    refine wpAnyH_ready (rs := [9]) (by kernel_rfl) (by simp) ?_
    refine AllReadyH.cons rfl (fun K hK => ?_) AllReadyH.nil
    go_simp
    go_wp2_with (go_at_call 56; refine (H3.out _).mono ?_; rintro e w5 ⟨rfl, hb⟩)
    have S5 := Lib.hid (HdS.keep S4.out hb)
    clear hb
    refine hK.out _ _ S5.out (fun _ => ?_)
    clear hK K
    try simp only [Act.put, List.getElem_toArray, List.getElem_cons_succ, List.getElem_cons_zero, List.setIfInBounds_toArray, List.set_cons_zero, List.set_cons_succ]
    refine wpAnyH_take (i := 10) (v := ?v60) rfl (by kernel_rfl) (by kernel_rfl) (by kernel_rfl) (fun _ _ _ h => h) (Or.inl ⟨by rfl, ?hy60⟩) S5.out ?rest60
    case hy60 => (intro w' hSw; obtain ⟨_, _, _, _, _⟩ := hSw; go_simp; with_reducible rfl)
    try simp only [Act.put, List.getElem_toArray, List.getElem_cons_succ, List.getElem_cons_zero, List.setIfInBounds_toArray, List.set_cons_zero, List.set_cons_succ]
    refine wpAnyH_take (i := 17) (v := ?v61) rfl (by kernel_rfl) (by kernel_rfl) (by kernel_rfl) (fun _ _ _ h => h) (Or.inl ⟨by rfl, ?hy61⟩) S5.out ?rest61
    case hy61 => (intro w' hSw; obtain ⟨_, _, _, _, _⟩ := hSw; go_simp; with_reducible rfl)
    try simp only [Act.put, List.getElem_toArray, List.getElem_cons_succ, List.getElem_cons_zero, List.setIfInBounds_toArray, List.set_cons_zero, List.set_cons_succ]
    refine wpAnyH_take (i := 20) (v := ?v62) rfl (by kernel_rfl) (by kernel_rfl) (by kernel_rfl) (fun _ _ _ h => h) (Or.inl ⟨by rfl, ?hy62⟩) S5.out ?rest62
    case hy62 => (intro w' hSw; obtain ⟨_, _, _, _, _⟩ := hSw; go_simp; with_reducible rfl)
    try simp only [Act.put, List.getElem_toArray, List.getElem_cons_succ, List.getElem_cons_zero, List.setIfInBounds_toArray, List.set_cons_zero, List.set_cons_succ]
    refine wpAnyH_ready (rs := [21]) (by kernel_rfl) (by simp) ?_
    refine AllReadyH.cons rfl (fun K hK => ?_) AllReadyH.nil
    go_simp
    go_wp2_with (go_at_call 57; refine (H4.out _).mono ?_; rintro e w6 ⟨rfl, rfl⟩)
    refine hK.out _ _ S5.out (fun _ => ?_)
    clear hK K
    try simp only [Act.put, List.getElem_toArray, List.getElem_cons_succ, List.getElem_cons_zero, List.setIfInBounds_toArray, List.set_cons_zero, List.set_cons_succ]
    refine wpAnyH_ready (rs := [24]) (by kernel_rfl) (by simp) ?_
    refine AllReadyH.cons rfl (fun K hK => ?_) AllReadyH.nil
    go_simp
    go_wp2_with (go_at_call 56; refine (H1.out _).mono ?_; rintro e w7 ⟨rfl, hb⟩)
    have S7 := Lib.hid (HdS.keep S5.out hb)
    clear hb
    refine hK.out _ _ S7.out (fun _ => ?_)
    clear hK K
    try simp only [Act.put, List.getElem_toArray, List.getElem_cons_succ, List.getElem_cons_zero, List.setIfInBounds_toArray, List.set_cons_zero, List.set_cons_succ]
    refine wpAnyH_take (i := 25) (v := ?v63) rfl (by kernel_rfl) (by kernel_rfl) (by kernel_rfl) (fun _ _ _ h => h) (Or.inl ⟨by rfl, ?hy63⟩) S7.out ?rest63
    case hy63 => (intro w' hSw; obtain ⟨_, _, _, _, _⟩ := hSw; go_simp; with_reducible rfl)
    try simp only [Act.put, List.getElem_toArray, List.getElem_cons_succ, List.getElem_cons_zero, List.setIfInBounds_toArray, List.set_cons_zero, List.set_cons_succ]
    refine wpAnyH_take (i := 26) (v := ?v64) rfl (by kernel_rfl) (by kernel_rfl) (by kernel_rfl) (fun _ _ _ h => h) (Or.inl ⟨by rfl, ?hy64⟩) S7.out ?rest64
    case hy64 => (intro w' hSw; obtain ⟨_, _, _, _, _⟩ := hSw; go_simp; with_reducible rfl)
    try simp only [Act.put, List.getElem_toArray, List.getElem_cons_succ, List.getElem_cons_zero, List.setIfInBounds_toArray, List.set_cons_zero, List.set_cons_succ]
    refine wpAnyH_done (by kernel_rfl) ?_ _
    refine NoPanic.normal ?_
    have HB := Lib.hid S7.out.2.2.2.2.out.2
    clear H1 H2 H3 H4 a1 a2 a3 a4 a5 s1 s2 s3 s4 s5 s6 s7 s8 s9
    go_wp2
    go_ret
    exact ⟨by rw [HR.out]; rfl, HB.out⟩
  refine AllReadyH.cons rfl (fun K hK => ?_) AllReadyH.nil
  have hcv : (convert 39 9 (.slice (some ⟨W0.heap.size, 0, none⟩) 1 1)).run Try.prog ((W0.alloc (.cells #[.int .u8 (m : Int)] 5)).drew) = .ok (.string (bstr [x])) ((W0.alloc (.cells #[.int .u8 (m : Int)] 5)).drew) := Yt.str Y1.out
  rw [bstr_st7, ← HX.out] at hcv
  go_simp
  clear hcv
  refine hK.out _ _ S1.out (fun _ => ?_)
  clear hK K
  try simp only [Act.put, List.getElem_toArray, List.getElem_cons_succ, List.getElem_cons_zero, List.setIfInBounds_toArray, List.set_cons_zero, List.set_cons_succ]
  refine wpAnyH_ready (rs := [2]) (by kernel_rfl) (by simp) ?_
  refine AllReadyH.cons rfl (fun K hK => ?_) AllReadyH.nil
  go_simp
  go_wp2_with (go_at_call 56; refine (H1.out _).mono ?_; rintro e w3 ⟨rfl, hb⟩)
  have S3 := Lib.hid (HdS.keep S1.out hb)
  clear hb
  refine hK.out _ _ S3.out (fun _ => ?_)
  clear hK K
  try simp only [Act.put, List.getElem_toArray, List.getElem_cons_succ, List.getElem_cons_zero, List.setIfInBounds_toArray, List.set_cons_zero, List.set_cons_succ]
  refine wpAnyH_ready (rs := [5]) (by kernel_rfl) (by simp) ?_
  refine AllReadyH.cons rfl (fun K hK => ?_) AllReadyH.nil
  go_simp
  go_wp2_with (go_at_call 56; refine (H2.out _).mono ?_; rintro e w4 ⟨rfl, hb⟩)
  have S4 := Lib.hid (HdS.keep S3.out hb)
  clear hb
  refine hK.out _ _ S4.out (fun _ => ?_)
  clear hK K
  try simp only [Act.put, List.getElem_toArray, List.getElem_cons_succ, List.getElem_cons_zero, List.setIfInBounds_toArray, List.set_cons_zero, List.set_cons_succ]
  refine wpAnyH_take (i := 6) (v := ?v65) rfl (by kernel_rfl) (by kernel_rfl) (by kernel_rfl) (fun _ _ _ h => h) (Or.inl ⟨by rfl, ?hy65⟩) S4.out ?rest65
  case hy65 => (intro w' hSw; obtain ⟨_, _, _, _, _⟩ := hSw; go_simp; with_reducible rfl)
  try simp only [Act.put, List.getElem_toArray, List.getElem_cons_succ, List.getElem_cons_zero, List.setIfInBounds_toArray, List.set_cons_zero, List.set_cons_succ]
  refine wpAnyH_ready (rs := [9]) (by kernel_rfl) (by simp) ?_
  refine AllReadyH.cons rfl (fun K hK => ?_) AllReadyH.nil
  go_simp
  go_wp2_with (go_at_call 56; refine (H3.out _).mono ?_; rintro e w5 ⟨rfl, hb⟩)
  have S5 := Lib.hid (HdS.keep S4.out hb)
  clear hb
  refine hK.out _ _ S5.out (fun _ => ?_)
  clear hK K
  try simp only [Act.put, List.getElem_toArray, List.getElem_cons_succ, List.getElem_cons_zero, List.setIfInBounds_toArray, List.set_cons_zero, List.set_cons_succ]
  refine wpAnyH_take (i := 10) (v := ?v66) rfl (by kernel_rfl) (by kernel_rfl) (by kernel_rfl) (fun _ _ _ h => h) (Or.inl ⟨by rfl, ?hy66⟩) S5.out ?rest66
  case hy66 => (intro w' hSw; obtain ⟨_, _, _, _, _⟩ := hSw; go_simp; with_reducible rfl)
  try simp only [Act.put, List.getElem_toArray, List.getElem_cons_succ, List.getElem_cons_zero, List.setIfInBounds_toArray, List.set_cons_zero, List.set_cons_succ]
  refine wpAnyH_take (i := 17) (v := ?v67) rfl (by kernel_rfl) (by kernel_rfl) (by kernel_rfl) (fun _ _ _ h => h) (Or.inl ⟨by rfl, ?hy67⟩) S5.out ?rest67
  case hy67 => (intro w' hSw; obtain ⟨_, _, _, _, _⟩ := hSw; go_simp; with_reducible rfl)
  try simp only [Act.put, List.getElem_toArray, List.getElem_cons_succ, List.getElem_cons_zero, List.setIfInBounds_toArray, List.set_cons_zero, List.set_cons_succ]
  refine wpAnyH_take (i := 20) (v := ?v68) rfl (by kernel_rfl) (by kernel_rfl) (by kernel_rfl) (fun _ _ _ h => h) (Or.inl ⟨by rfl, ?hy68⟩) S5.out ?rest68
  case hy68 => (intro w' hSw; obtain ⟨_, _, _, _, _⟩ := hSw; go_simp; with_reducible rfl)
  try simp only [Act.put, List.getElem_toArray, List.getElem_cons_succ, List.getElem_cons_zero, List.setIfInBounds_toArray, List.set_cons_zero, List.set_cons_succ]
  refine wpAnyH_ready (rs := [21]) (by kernel_rfl) (by simp) ?_
  refine AllReadyH.cons rfl (fun K hK => ?_) AllReadyH.nil
  go_simp
  go_wp2_with (go_at_call 57; refine (H4.out _).mono ?_; rintro e w6 ⟨rfl, rfl⟩)
  refine hK.out _ _ S5.out (fun _ => ?_)
  clear hK K
  try simp only [Act.put, List.getElem_toArray, List.getElem_cons_succ, List.getElem_cons_zero, List.setIfInBounds_toArray, List.set_cons_zero, List.set_cons_succ]
  refine wpAnyH_ready (rs := [24]) (by kernel_rfl) (by simp) ?_
  refine AllReadyH.cons rfl (fun K hK => ?_) AllReadyH.nil
  go_simp
  go_wp2_with (go_at_call 56; refine (H1.out _).mono ?_; rintro e w7 ⟨rfl, hb⟩)
  have S7 := Lib.hid (HdS.keep S5.out hb)
  clear hb
  refine hK.out _ _ S7.out (fun _ => ?_)
  clear hK K
  try simp only [Act.put, List.getElem_toArray, List.getElem_cons_succ, List.getElem_cons_zero, List.setIfInBounds_toArray, List.set_cons_zero, List.set_cons_succ]
  refine wpAnyH_take (i := 25) (v := ?v69) rfl (by kernel_rfl) (by kernel_rfl) (by kernel_rfl) (fun _ _ _ h => h) (Or.inl ⟨by rfl, ?hy69⟩) S7.out ?rest69
  case hy69 => (intro w' hSw; obtain ⟨_, _, _, _, _⟩ := hSw; go_simp; with_reducible rfl)
  try simp only [Act.put, List.getElem_toArray, List.getElem_cons_succ, List.getElem_cons_zero, List.setIfInBounds_toArray, List.set_cons_zero, List.set_cons_succ]
  refine wpAnyH_take (i := 26) (v := ?v70) rfl (by kernel_rfl) (by kernel_rfl) (by kernel_rfl) (fun _ _ _ h => h) (Or.inl ⟨by rfl, ?hy70⟩) S7.out ?rest70
  case hy70 => (intro w' hSw; obtain ⟨_, _, _, _, _⟩ := hSw; go_simp; with_reducible rfl)
  try simp only [Act.put, List.getElem_toArray, List.getElem_cons_succ, List.getElem_cons_zero, List.setIfInBounds_toArray, List.set_cons_zero, List.set_cons_succ]
  refine wpAnyH_done (by kernel_rfl) ?_ _
  refine NoPanic.normal ?_
  have HB := Lib.hid S7.out.2.2.2.2.out.2
  clear H1 H2 H3 H4 a1 a2 a3 a4 a5 s1 s2 s3 s4 s5 s6 s7 s8 s9
  go_wp2
  go_ret
  exact ⟨by rw [HR.out]; rfl, HB.out⟩
end Go.Proofs.Ytofbignggadkiaa
