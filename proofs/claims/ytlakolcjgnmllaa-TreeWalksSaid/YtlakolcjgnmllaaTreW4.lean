/- Layer 8: the walk of TreeWalks. -/
import Derived.Deep.RegionHeld3
import Derived.Test.YtlakolcjgnmllaaTreG5
import Derived.Test.YtlakolcjgnmllaaTreG7
import Derived.Test.YtlakolcjgnmllaaTreG8
namespace Go.Proofs.Ytlakolcjgnmllaa
open Go.RowKit Go.Shelf

attribute [local go_sem] Oper.semAt_some

set_option maxHeartbeats 8000000 in
set_option maxRecDepth 100000 in
theorem walk_walks8 (ta : Option Addr) (tn tc : Nat) (ks : List UInt8) (sp : Nat) (W : World) (hsp : sp < 256) (hm : tn ≤ maxLen) (hy : Yt (.slice ta tn tc) ks W) :
    Calls Try.prog 5 #[.slice ta tn tc, .int .u8 (sp : Int)] W fun e w' => e = .returned (.bool true) ∧ Below W.heap.size W w' := by
  have htl := hy.len8
  have HTL := Lib.hid htl
  have HM : Hid ((tn : Int) ≤ 9223372036854775807) := by show _ ≤ _; unfold maxLen at hm; omega
  have HRD : Hid (∀ j wr, j < tn → Below W.heap.size W wr → ∃ (g off : Nat) (x : Nat) (k : UInt8), ta = some ⟨g, off, none⟩ ∧ wr.cell? ⟨g, off + j, none⟩ = some (.int .u8 (x : Int)) ∧ x < 256 ∧ Hid (x = k.toNat)) := fun j wr hj hb => by
    obtain ⟨g, off, e, hg, hc⟩ := hy.at8 j (by omega)
    exact ⟨g, off, _, ks[j]'(by omega), e, (hb.cell (p := ⟨g, off + j, none⟩) hg).trans hc, UInt8.toNat_lt _, rfl⟩
  have HCV : Hid (∀ (w : World) (x : Nat) (k : UInt8), x = k.toNat → (convert 49 9 (.slice (some ⟨w.heap.size, 0, none⟩) 1 1)).run Try.prog (w.alloc (.cells #[.int .u8 (x : Int)] 5)) = .ok (.string (bstr [k])) (w.alloc (.cells #[.int .u8 (x : Int)] 5))) := fun w x k hx => lit_str8 w _ [k] 1 rfl (by rw [hx]; rfl)
  clear hy htl hm
  refine (callsIn_wide (n := 9)).1 ?_
  refine callsIn_of_wp_marks Try.func5 rfl trivial ?_ rfl
  simp only [Try.ntmps5, List.size_toArray, List.length_cons, List.length_nil, Nat.reduceAdd, Nat.reduceSub, Array.replicate_succ, Array.replicate_zero, List.push_toArray, List.append_toArray, List.nil_append, List.cons_append]
  refine wpIn_wide.2 ?_
  go_wp2_with fail
  refine (walk_first8 _).mono ?_
  rintro e w1 ⟨rfl, hb1⟩
  obtain ⟨p, hp⟩ : ∃ p, p = W.heap.size := ⟨_, rfl⟩
  have hs1 : p + 1 + 1 ≤ w1.heap.size := by have := hb1.size; simp at this; omega
  have hb3 : Boxed w1 p 5 (.int .u8 (sp : Int)) := by
    refine (hb1.block p (by simp; omega)).trans ?_
    rw [hp]
    exact (Boxed.new W _ _).alloc _
  have hb4 : Boxed w1 (p + 1) 4 (.bool false) := by
    refine (hb1.block (p + 1) (by simp; omega)).trans ?_
    have := Boxed.new (W.alloc (.cells #[.int .u8 (sp : Int)] 5)) 4 (.bool false)
    rw [World.size_alloc, ← hp] at this
    exact this
  have hB : Below W.heap.size W w1 := ((one_b8 W _).alloc (by simp) _).trans (hb1.mono (by simp; omega))
  have HP := Lib.hid hp; have HB1 := Lib.hid hB; have H3 := Lib.hid hb3; have H4 := Lib.hid hb4; have HS1 := Lib.hid hs1
  rw [← hp]
  clear hb1 hB hs1
  by_cases hbig : 200 < tn
  case pos =>
    have hbI : (200 : Int) < (tn : Int) := by omega
    have c4 := hb4.cell
    have f4 := hb4.frozen
    clear hb3 hb4 hp
    go_wp2
    refine ⟨_, results_cellb rfl _ _ (p + 1) true rfl (H4.out.set _).cell, rfl, ?_⟩
    exact HB1.out.setCell (p := ⟨p + 1, 0, none⟩) (by rw [← HP.out]; exact Nat.le_succ p) _
  have hbI : ¬ (200 : Int) < (tn : Int) := by omega
  have htn : tn ≤ 200 := by omega
  clear hbig hb3 hb4 hp
  go_wp2_with fail
  refine tre_new.mono ?_
  rintro e w2 ⟨rfl, rfl⟩
  go_upto_region 6 with (fail)
  obtain ⟨a, b5, ex, w4, ha, hb, hw4, hp, hex⟩ : ∃ a b5 ex w4, w1.heap.size = a ∧ w1.heap.size + 1 = b5 ∧ (w1.alloc (.cells #[.pointer none] 60)).alloc (.cells #[.pointer (some ⟨w1.heap.size, 0, none⟩)] 24) = w4 ∧ P1 W ex a [] w4 ∧ ∀ k, ex k → k = a :=
    ⟨_, _, _, _, rfl, rfl, rfl, (p1_new HB1.out).below (one_b8 _ _), fun k hk => by rcases hk with hk | rfl; exact hk.elim; rfl⟩
  have H5 : Hid (Boxed w4 b5 24 (.pointer (some ⟨a, 0, none⟩))) := by
    have := Boxed.new (w1.alloc (.cells #[.pointer none] 60)) 24 (.pointer (some ⟨w1.heap.size, 0, none⟩))
    rw [World.size_alloc, hw4, hb, ha] at this
    exact this
  have HBX : Hid (Boxed w4 p 5 (.int .u8 (sp : Int)) ∧ Boxed w4 (p + 1) 4 (.bool false) ∧ Boxed w4 b5 24 (.pointer (some ⟨a, 0, none⟩))) := by
    refine ⟨?_, ?_, H5.out⟩
    · rw [← hw4]; exact (H3.out.alloc _).alloc _
    · rw [← hw4]; exact (H4.out.alloc _).alloc _
  have HORD : Hid (p + 1 < a ∧ b5 = a + 1 ∧ W.heap.size ≤ p) := ⟨by have := HS1.out; omega, by omega, by have := HP.out; omega⟩
  rw [ha] at hw4
  rw [hb, ha, hw4]
  have HP1 := Lib.hid hp; have HEX := Lib.hid hex
  clear hp hex hw4 ha hb HB1 H3 H4 HS1 H5
  go_wp2_with fail
  go_loopw [29] (fun iv wr => ∃ (j : Nat) (la : List Tm.E), j ≤ tn ∧ iv = .int .i64 (j : Int) ∧ Hid (la.length ≤ j ∧ ∀ q ∈ la, q.1.length = 1) ∧ Hid (P1 W ex a la wr) ∧ Hid (Boxed wr p 5 (.int .u8 (sp : Int)) ∧ Boxed wr (p + 1) 4 (.bool false) ∧ Boxed wr b5 24 (.pointer (some ⟨a, 0, none⟩)))) (fun iv _ => tn - (ixOf iv).toNat)
  case atStart => exact ⟨0, [], Nat.zero_le _, rfl, ⟨Nat.le_refl _, fun _ h => by cases h⟩, HP1.out, HBX.out⟩
  case round =>
    clear HP1 HBX
    obtain ⟨j, la, hj, rfl, HLA, HP1, HBX⟩ := hrel
    have c5 := HBX.out.2.2.cell
    by_cases hlt : j < tn
    case pos =>
      obtain ⟨g, off, x, k, rfl, c0, hx, HX⟩ := HRD.out j wr hlt HP1.out.bel
      have hjI : (j : Int) < (tn : Int) := by omega
      have hcv := HCV.out wr x k HX.out
      have HP2 := Lib.hid (HP1.out.below (one_b8 wr (.cells #[.int .u8 (x : Int)] 5)))
      have HX2 : Hid (∀ {b : Nat} {t : TypeId} {v : Value}, Boxed wr b t v → Boxed (wr.alloc (.cells #[.int .u8 (x : Int)] 5)) b t v) := fun h => h.alloc _
      go_wp2_with fail
      refine (te_put HP2.out.A (by have := HLA.out.1; omega) HP2.out.hex).mono ?_
      rintro e w6 ⟨rfl, ht6, ho6⟩
      have HP6 := Lib.hid (HP2.out.only ht6 ho6).1
      have HBX6 : Hid (Boxed w6 p 5 (.int .u8 (sp : Int)) ∧ Boxed w6 (p + 1) 4 (.bool false) ∧ Boxed w6 b5 24 (.pointer (some ⟨a, 0, none⟩))) := by
        have h := HBX.out
        have hd := HORD.out
        refine ⟨(ho6.block _ (HX2.out h.1).lt (by omega)).trans (HX2.out h.1), (ho6.block _ (HX2.out h.2.1).lt (by omega)).trans (HX2.out h.2.1), (ho6.block _ (HX2.out h.2.2).lt (by omega)).trans (HX2.out h.2.2)⟩
      have HLA6 : Hid ((Tm.ins la [k] (j : Int)).length ≤ j + 1 ∧ ∀ q ∈ Tm.ins la [k] (j : Int), q.1.length = 1) := by
        refine ⟨by rw [Tm.ins_len _ _ _ HP1.out.A.asc]; have := HLA.out.1; split <;> omega, fun q hq => ?_⟩
        rcases Tm.mem_ins hq with rfl | hq
        · rfl
        · exact HLA.out.2 q hq
      clear ht6 ho6 HX2 HP2 hcv c0 c5 HBX HP1 HLA
      go_wp2_with fail
      go_roundw
      case rel => exact ⟨j + 1, _, by omega, by go_num, HLA6.out, HP6.out, HBX6.out⟩
      case measure => simp [ixOf]; omega
    case neg =>
      have hjI : ¬ (j : Int) < (tn : Int) := by omega
      have HLL : Hid (la.length ≤ 200) := by have := HLA.out.1; show _ ≤ _; omega
      have HK1 := Lib.hid HLA.out.2
      clear hlt hj HLA HRD HCV
      go_wp2_with fail
      refine (p2_copy HP1.out.A HP1.out.bel HP1.out.lo).mono ?_
      rintro e w6 ⟨t2, rfl, ht2, hp6, hb6⟩
      have HWK := Lib.hid (wk_start (sp := sp) (b5 := b5) hp6 ((hb6.block _ HBX.out.1.lt).trans HBX.out.1) ((hb6.block _ HBX.out.2.1.lt).trans HBX.out.2.1) ((hb6.block _ HBX.out.2.2.lt).trans HBX.out.2.2) (by have := HORD.out; omega) HORD.out.2.2)
      clear hp6 hb6 ht2 c5 HBX HP1 HEX HORD
      go_upto_region 14 with (fail)
      obtain ⟨w7, hw7⟩ : ∃ w7, w7 = ((w6.alloc (.cells #[.pointer (some ⟨t2, 0, none⟩)] 24)).alloc (.cells #[.int .i64 0] 3)).alloc (.cells #[.string ⟨#[]⟩] 9) := ⟨_, rfl⟩
      obtain ⟨b8, hb8⟩ : ∃ b8, b8 = w6.heap.size := ⟨_, rfl⟩
      rw [← hw7, ← hb8] at HWK
      rw [← hw7, ← hb8]
      obtain ⟨ex3, hws, hwk⟩ := HWK.out
      have HWS := Lib.hid hws
      have HWK := Lib.hid hwk
      have c5 := hwk.x5.cell
      clear hws hwk hw7 hb8
      go_wp2_with fail
      refine (tre_seqFrom (k := []) (some ⟨a, 0, none⟩) rfl HWK.out.p2.A.tq HWK.out.p2.hex).mono ?_
      rintro e w8 ⟨u, rfl, hq, hb⟩
      rw [Tm.from_nil] at hq
      obtain ⟨g, lb, rfl, hen, hsq⟩ := hq
      have HB7 := Lib.hid hb.size
      have HWK8 := Lib.hid (HWK.out.below hb)
      clear hb HWK c5
      go_wp2_with fail
      generalize b8 + 1 + 1 = b10 at *
      generalize b8 + 1 = b9 at *
      have HLO : Hid (∀ k, ex3 k → k < w8.heap.size) := fun k hk => (HWK8.out.p2.lo k hk).2
      have HLW : Hid (W.heap.size ≤ w8.heap.size) := HWK8.out.p2.bel.size
      have HAS := Lib.hid HWK8.out.p2.B.asc
      have hsp2 : (sp : Int) < 256 := by omega
      obtain ⟨TI, hTI⟩ : ∃ TI : List Tm.E → World → Prop, TI = fun pre wx => ∃ l', Wk W ex3 a t2 p b5 b8 b9 b10 sp la l' pre.length (Tm.lastk pre) wx ∧ l'.length ≤ 200 + pre.length := ⟨_, rfl⟩
      have HTI := Lib.hid hTI
      have HOF : Hid (OwnFrom w8.heap.size TI) := fun s X Y row h hg hr => by
        rw [hTI] at h ⊢
        obtain ⟨l', h1, h2⟩ := h
        exact ⟨l', h1.grown hg (fun r e => ⟨Nat.le_trans HLW.out (hr r e).1, (hr r e).2⟩), h2⟩
      refine (wpIn_wide (n := 9)).1 ?_
      refine rangeFunc_ownT (F := Fence.wide) (n := 9) (α := Tm.E) (encs := en8) (Kp := Only (Kx ex3 w7.heap.size)) (S := fun xs => xs = la) (Sp := fun pre => pre <+: la) (N := la.length) (w0 := w8)
        (fun tm x => (((tm.setIfInBounds 45 (.string (bstr x.1))).setIfInBounds 46 (.int .i64 x.2)).setIfInBounds 11 (.string (bstr x.1))).setIfInBounds 12 (.int .i64 x.2))
        rfl (by omega) (gf := g) (lb := lb) rfl trivial hen (hsq 7) (fun h k => h.trans k) (fun X l o o' hl h _ _ => only_putObj8 X l o o' (Nat.le_trans HB7.out hl) h) (Below.refl _ _) (fun _ => rfl)
        (fun pre wx => TI pre wx ∧ pre.length < 1 + sp)
        (fun cd pre wx => (cd = .ret ∧ ∃ pre0 x, pre = pre0 ++ [x] ∧ ¬ Tm.Nx la pre0 x) ∨ (cd = .exit 2 ∧ TI pre wx ∧ pre.length = 1 + sp))
        (OwnFrom.and HOF.out (fun _ _ _ _ h _ _ => h))
        (fun cd s X Y row h hg hr => by
          rcases h with h | ⟨h1, h2, h3⟩
          · exact .inl h
          · exact .inr ⟨h1, HOF.out s X Y row h2 hg hr, h3⟩)
        ⟨by rw [hTI]; exact ⟨la, HWK8.out, by have := HLL.out; simp; omega⟩, by show 0 < 1 + sp; omega⟩ ?assign ?body ?done ?stop
      case assign =>
        intro l x wx K hK
        clear hsq hen hTI
        simp only [en8]
        gi_wp2
        exact hK
      case body =>
        rintro l pre x wx ⟨hI, hlt⟩ hlen
        clear hsq hen
        rw [hTI] at hI
        obtain ⟨l', hwk, hll⟩ := hI
        obtain ⟨n, hn⟩ : ∃ n, n = pre.length := ⟨_, rfl⟩
        obtain ⟨K, hK⟩ : ∃ K, K = Tm.lastk pre := ⟨_, rfl⟩
        obtain ⟨k, hk⟩ : ∃ k, k = x.1 := ⟨_, rfl⟩
        obtain ⟨v, hv⟩ : ∃ v, v = x.2 := ⟨_, rfl⟩
        obtain ⟨G1, G2, hG⟩ : ∃ G1 G2, Tm.get la k = (G1, G2) := ⟨_, _, rfl⟩
        have HNX : Hid (Tm.Nx la pre x ↔ ((G1, G2) = (v, true) ∧ (0 < n → Tm.lt K k = true))) := by
          show _ ↔ _
          unfold Tm.Nx
          rw [← hk, ← hv, ← hn, ← hK, hG]
        rw [← hn, ← hK] at hwk
        rw [← hn] at hll hlt
        rw [← hk, ← hv]
        have HWX := Lib.hid hwk; have HG := Lib.hid hG; have HN := Lib.hid hn; have HK := Lib.hid hK; have HKX := Lib.hid hk; have HVX := Lib.hid hv
        have c8 := hwk.x8.cell
        have hn3 : n < 300 := by omega
        clear hwk hG hn hK hk hv hTI hlen
        simp only [List.setIfInBounds_toArray, List.set_cons_succ, List.set_cons_zero]
        gi_wp2_with fail
        refine ⟨trivial, (CallsIn.inRound l (callsIn_wide.2 (wk_get HWX.out))).mono ?_⟩
        rintro e w2 ⟨rfl, h2, o2⟩
        rw [HG.out]
        have HW2 := Lib.hid h2
        have HO2 := Lib.hid o2
        have c3 := h2.x3.cell
        have c4 := h2.x4.cell
        have f4 := h2.x4.frozen
        have d5 := h2.x5.cell
        have c9 := h2.x9.cell
        have f9 := h2.x9.frozen
        have d10 := h2.x10.cell
        clear h2 o2 c8
        have HRET : Hid (¬ Tm.Nx la pre x → KeepsFrom w8.heap.size wx (w2.setCell ⟨p + 1, 0, none⟩ (.bool false)) ∧ ∃ pre0 y, pre ++ [x] = pre0 ++ [y] ∧ ¬ Tm.Nx la pre0 y) := fun hno => by
          exact ⟨(keepsE HO2.out HLO.out).trans ((KeepsOthers.setCell w2 _ _).from _), pre, x, rfl, hno⟩
        cases G2 with
        | false =>
          have HNO : Hid (¬ Tm.Nx la pre x) := fun h => by have := (HNX.out.1 h).1; injection this with _ h; cases h
          clear HNX
          gi_wp2
          exact ⟨(HRET.out HNO.out).1, .inl ⟨rfl, (HRET.out HNO.out).2⟩⟩
        | true =>
          by_cases hGv : G1 = v
          case neg =>
            have hq1 : (G1 != v) = true := by simpa using hGv
            have HNO : Hid (¬ Tm.Nx la pre x) := fun h => hGv (by have := (HNX.out.1 h).1; injection this)
            clear HNX hGv
            gi_wp2
            exact ⟨(HRET.out HNO.out).1, .inl ⟨rfl, (HRET.out HNO.out).2⟩⟩
          case pos =>
            have hq1 : (G1 != v) = false := by simpa using hGv
            have HMM : Hid ((k, v) ∈ la) := Tm.get_mem (by rw [HG.out, hGv])
            have hkl : k.length = 1 := HK1.out _ HMM.out
            have hks : (bstr k).size = 1 := by rw [bstr_size]; exact hkl
            have hcat : ({ data := #[120] } : ByteArray) ++ bstr k = bstr (120 :: k) := bstr_append [120] k
            by_cases h0 : 0 < n
            case neg =>
              have h0I : ¬ (0 : Int) < (n : Int) := by omega
              have HYES : Hid (Tm.Nx la pre x) := HNX.out.2 ⟨by rw [hGv], fun h => absurd h h0⟩
              clear HNX hGv h0
              gi_wp2_with fail
              refine ⟨trivial, (CallsIn.inRound l (callsIn_wide.2 (wk_delete HW2.out HWS.out (by omega)))).mono ?_⟩
              rintro e w3 ⟨rfl, h3, o3⟩
              have HW3 := Lib.hid h3
              have HO3 := Lib.hid (HO2.out.trans o3)
              have c5 := h3.x5.cell
              clear h3 o3 c3 c4 c9 f4 f9 HW2 HO2 d5 d10
              gi_wp2_with fail
              refine ⟨trivial, (CallsIn.inRound l (callsIn_wide.2 (wk_put HW3.out HWS.out (by have := del_len1 (l := l') k; omega)))).mono ?_⟩
              rintro e w4 ⟨rfl, h4, o4⟩
              have HW4 := Lib.hid h4
              have HO4 := Lib.hid (HO3.out.trans o4)
              have HL4 : Hid ((Tm.ins (Tm.del l' k) (120 :: k) 0).length ≤ 200 + (n + 1)) := by
                have h1 := del_len1 (l := l') k
                have h2 := ins_len1 (120 :: k) 0 HW3.out.p2.A.asc
                show _ ≤ _
                omega
              obtain ⟨l4, hl4⟩ : ∃ l4, l4 = Tm.ins (Tm.del l' k) (120 :: k) 0 := ⟨_, rfl⟩
              rw [← hl4] at HW4 HL4
              obtain ⟨m, hm⟩ : ∃ m, m = n + 1 := ⟨_, rfl⟩
              have hmI : (n : Int) + 1 = (m : Int) := by omega
              have f10 := HW4.out.x10.frozen
              have c10 := HW4.out.x10.cell
              have k1 := HW4.out.setK HWS.out k
              have d9 := k1.1.x9.cell
              have e9 := k1.1.x9.frozen
              have k2 := k1.1.setN HWS.out m
              have d9' := k2.1.x9.cell
              have d3' := k2.1.x3.cell
              have HE := Lib.hid k2.1
              have HOE := Lib.hid ((HO4.out.trans k1.2).trans k2.2)
              have HM2 := Lib.hid hm
              clear h4 o4 c5 k1 k2 hl4 HW3 HO3 HW4 HO4 hm
              have HFT : Hid (TI (pre ++ [x]) ((w4.setCell ⟨b10, 0, none⟩ (.string (bstr k))).setCell ⟨b9, 0, none⟩ (.int .i64 (m : Int)))) := by
                show TI _ _
                rw [HTI.out]
                refine ⟨l4, ?_, ?_⟩
                · rw [List.length_append, List.length_singleton, ← HN.out, Tm.lastk_snoc, ← HKX.out, ← HM2.out]; exact HE.out
                · rw [List.length_append, List.length_singleton, ← HN.out]; exact HL4.out
              have HPL : Hid ((pre ++ [x]).length = m) := by show _ = _; rw [List.length_append, List.length_singleton, ← HN.out, HM2.out]
              by_cases hend : m = 1 + sp
              case pos =>
                have hendI : ((m : Int) == 1 + (sp : Int)) = true := by simp; omega
                have HEND := Lib.hid hend
                clear hend
                gi_wp2
                exact ⟨keepsE HOE.out HLO.out, .inr ⟨rfl, HFT.out, by rw [HPL.out]; exact HEND.out⟩⟩
              case neg =>
                have hendI : ((m : Int) == 1 + (sp : Int)) = false := by simp; omega
                have HEND : Hid (m < 1 + sp) := by show _ < _; omega
                clear hend
                gi_wp2
                exact ⟨keepsE HOE.out HLO.out, only_mono8 HOE.out (fun k e => .inl e), HFT.out, by rw [HPL.out]; exact HEND.out⟩
            case pos =>
              have h0I : (0 : Int) < (n : Int) := by omega
              have hcmp : (Op.bytesLess (bstr k).toList (bstr K).toList || (bstr k).toList == (bstr K).toList) = !Tm.lt K k := by rw [bstr_lt8, bstr_eq_iff]; exact Tm.le_not k K
              cases hlk : Tm.lt K k
              case false =>
                rw [hlk, Bool.not_false] at hcmp
                have HNO : Hid (¬ Tm.Nx la pre x) := fun h => by have := (HNX.out.1 h).2 h0; rw [hlk] at this; cases this
                clear HNX hGv
                gi_wp2
                exact ⟨(HRET.out HNO.out).1, .inl ⟨rfl, (HRET.out HNO.out).2⟩⟩
              case true =>
                rw [hlk, Bool.not_true] at hcmp
                have HYES : Hid (Tm.Nx la pre x) := HNX.out.2 ⟨by rw [hGv], fun _ => hlk⟩
                clear HNX hGv
                gi_wp2_with fail
                refine ⟨trivial, (CallsIn.inRound l (callsIn_wide.2 (wk_delete HW2.out HWS.out (by omega)))).mono ?_⟩
                rintro e w3 ⟨rfl, h3, o3⟩
                have HW3 := Lib.hid h3
                have HO3 := Lib.hid (HO2.out.trans o3)
                have c5 := h3.x5.cell
                clear h3 o3 c3 c4 c9 f4 f9 HW2 HO2 d5 d10
                gi_wp2_with fail
                refine ⟨trivial, (CallsIn.inRound l (callsIn_wide.2 (wk_put HW3.out HWS.out (by have := del_len1 (l := l') k; omega)))).mono ?_⟩
                rintro e w4 ⟨rfl, h4, o4⟩
                have HW4 := Lib.hid h4
                have HO4 := Lib.hid (HO3.out.trans o4)
                have HL4 : Hid ((Tm.ins (Tm.del l' k) (120 :: k) 0).length ≤ 200 + (n + 1)) := by
                  have h1 := del_len1 (l := l') k
                  have h2 := ins_len1 (120 :: k) 0 HW3.out.p2.A.asc
                  show _ ≤ _
                  omega
                obtain ⟨l4, hl4⟩ : ∃ l4, l4 = Tm.ins (Tm.del l' k) (120 :: k) 0 := ⟨_, rfl⟩
                rw [← hl4] at HW4 HL4
                obtain ⟨m, hm⟩ : ∃ m, m = n + 1 := ⟨_, rfl⟩
                have hmI : (n : Int) + 1 = (m : Int) := by omega
                have f10 := HW4.out.x10.frozen
                have c10 := HW4.out.x10.cell
                have k1 := HW4.out.setK HWS.out k
                have d9 := k1.1.x9.cell
                have e9 := k1.1.x9.frozen
                have k2 := k1.1.setN HWS.out m
                have d9' := k2.1.x9.cell
                have d3' := k2.1.x3.cell
                have HE := Lib.hid k2.1
                have HOE := Lib.hid ((HO4.out.trans k1.2).trans k2.2)
                have HM2 := Lib.hid hm
                clear h4 o4 c5 k1 k2 hl4 HW3 HO3 HW4 HO4 hm
                have HFT : Hid (TI (pre ++ [x]) ((w4.setCell ⟨b10, 0, none⟩ (.string (bstr k))).setCell ⟨b9, 0, none⟩ (.int .i64 (m : Int)))) := by
                  show TI _ _
                  rw [HTI.out]
                  refine ⟨l4, ?_, ?_⟩
                  · rw [List.length_append, List.length_singleton, ← HN.out, Tm.lastk_snoc, ← HKX.out, ← HM2.out]; exact HE.out
                  · rw [List.length_append, List.length_singleton, ← HN.out]; exact HL4.out
                have HPL : Hid ((pre ++ [x]).length = m) := by show _ = _; rw [List.length_append, List.length_singleton, ← HN.out, HM2.out]
                by_cases hend : m = 1 + sp
                case pos =>
                  have hendI : ((m : Int) == 1 + (sp : Int)) = true := by simp; omega
                  have HEND := Lib.hid hend
                  clear hend
                  gi_wp2
                  exact ⟨keepsE HOE.out HLO.out, .inr ⟨rfl, HFT.out, by rw [HPL.out]; exact HEND.out⟩⟩
                case neg =>
                  have hendI : ((m : Int) == 1 + (sp : Int)) = false := by simp; omega
                  have HEND : Hid (m < 1 + sp) := by show _ < _; omega
                  clear hend
                  gi_wp2
                  exact ⟨keepsE HOE.out HLO.out, only_mono8 HOE.out (fun k e => .inl e), HFT.out, by rw [HPL.out]; exact HEND.out⟩
      case done =>
        rintro D ys wx hDl hys ⟨hI, hlt⟩ hK
        subst hys
        rw [hTI] at hI
        obtain ⟨l', hwk, hRest⟩ := hI
        obtain ⟨N, hN⟩ : ∃ N, N = ys.length := ⟨_, rfl⟩
        obtain ⟨Ln, hLn⟩ : ∃ Ln, Ln = ys.length := ⟨_, rfl⟩
        have hmn : (if 1 + (sp : Int) < (Ln : Int) then 1 + (sp : Int) else (Ln : Int)) = (N : Int) := by rw [if_neg (by omega)]; omega
        obtain ⟨K, hKK⟩ : ∃ K, K = Tm.lastk ys := ⟨_, rfl⟩
        rw [← hKK] at hwk
        have HWX := Lib.hid hwk; have HDF := Lib.hid hK
        have HDP : Hid (p + 1 < D) := by have := HWK8.out.x4.lt; show _ < _; omega
        have HLA2 : Hid (ys.length = Ln) := hLn.symm
        rw [← hN] at HWX
        have c9 := hwk.x9.cell
        rw [← hN] at c9
        clear hwk hsq hen hTI HTI HOF TI hlt hDl hK hKK hN hLn hRest HWK HLO HAS
        go_wp2_with fail
        refine (nl_get wx (Below.refl _ wx)).mono ?_
        rintro e y1 ⟨rfl, hy1⟩
        go_wp2_with fail
        refine (nl_at (w0 := wx) y1 hy1).mono ?_
        rintro e y2 ⟨rfl, hy2⟩
        have HW2 := Lib.hid (HWX.out.below hy2)
        have HB2 := Lib.hid hy2
        clear hy1 hy2 c9 HWX
        go_upto_region 28 with (fail)
        have HLN : Hid (∀ w', Below y2.heap.size y2 w' → Calls Try.prog 16 #[.pointer (some ⟨t2, 0, none⟩)] w' fun e w3 => e = .returned (.int .i64 (Ln : Int)) ∧ Below y2.heap.size y2 w3) := fun w' hb => by
          refine (p2_len (HW2.out.below hb).p2.swap).mono ?_
          rintro e w3 ⟨rfl, _, h2⟩
          rw [HLA2.out]
          exact ⟨rfl, hb.trans (h2.mono hb.size)⟩
        have HB0 : Hid (Below y2.heap.size y2 y2.drew) := below_dr8 y2
        have SB : Hid (∀ w', Below y2.heap.size y2 w' → w'.cell? ⟨b9, 0, none⟩ = some (.int .i64 (N : Int)) ∧ w'.cell? ⟨b8, 0, none⟩ = some (.pointer (some ⟨t2, 0, none⟩)) ∧ w'.cell? ⟨p, 0, none⟩ = some (.int .u8 (sp : Int)) ∧ w'.cell? ⟨p + 1, 0, none⟩ = some (.bool (boolAt ⟨p + 1, 0, none⟩ w')) ∧ w'.frozen? ⟨p + 1, 0, none⟩ = false) := fun w' hb => by
          have h := HW2.out.below hb
          exact ⟨h.x9.cell, h.x8.cell, h.x3.cell, boolAt_eq h.x4.cell, h.x4.frozen⟩
        have SS : Hid (∀ w', Below y2.heap.size y2 w' → (w'.setCell ⟨p + 1, 0, none⟩ (.bool true)).cell? ⟨b9, 0, none⟩ = some (.int .i64 (N : Int)) ∧ (w'.setCell ⟨p + 1, 0, none⟩ (.bool true)).cell? ⟨b8, 0, none⟩ = some (.pointer (some ⟨t2, 0, none⟩)) ∧ (w'.setCell ⟨p + 1, 0, none⟩ (.bool true)).cell? ⟨p, 0, none⟩ = some (.int .u8 (sp : Int)) ∧ (w'.setCell ⟨p + 1, 0, none⟩ (.bool true)).cell? ⟨p + 1, 0, none⟩ = some (.bool (boolAt ⟨p + 1, 0, none⟩ (w'.setCell ⟨p + 1, 0, none⟩ (.bool true)))) ∧ (w'.setCell ⟨p + 1, 0, none⟩ (.bool true)).frozen? ⟨p + 1, 0, none⟩ = false) := fun w' hb => by
          have h := HW2.out.below hb
          have h4 := h.x4.set (.bool true)
          have hq : ∀ {b : Nat} {t : TypeId} {v : Value}, Boxed w' b t v → b ≠ p + 1 → Boxed (w'.setCell ⟨p + 1, 0, none⟩ (.bool true)) b t v := fun hx hne => (Below.heap_setCell _ _ _ _ hne).trans hx
          exact ⟨(hq h.x9 HWS.out.o9.2.1).cell, (hq h.x8 (boxed_ne h.x8 h.x4 (by decide))).cell, (hq h.x3 (by omega)).cell, boolAt_eq h4.cell, h4.frozen⟩
        obtain ⟨q1, hq1⟩ : ∃ q1 : Int, q1 = 1 + (sp : Int) := ⟨_, rfl⟩
        have hw1 : IntKind.i64.wrap (1 + (sp : Int)) = q1 := by rw [IntKind.wrap_i64]; omega
        have hwa : IntKind.i64.wrap (sp : Int) = (sp : Int) := by rw [IntKind.wrap_i64]; omega
        have hif : min (Ln : Int) q1 = (N : Int) := by rw [hq1, ← hmn]; split <;> omega
        clear hq1 hmn
        have hNN : ((N : Int) == (N : Int)) = true := by simp
        have T1 := Lib.hid True.intro
        have T2 := Lib.hid True.intro
        go_region_held3 (fun w' => w'.cell? ⟨b9, 0, none⟩ = some (.int .i64 (N : Int)) ∧ w'.cell? ⟨b8, 0, none⟩ = some (.pointer (some ⟨t2, 0, none⟩)) ∧ w'.cell? ⟨p, 0, none⟩ = some (.int .u8 (sp : Int)) ∧ w'.cell? ⟨p + 1, 0, none⟩ = some (.bool (boolAt ⟨p + 1, 0, none⟩ w')) ∧ w'.frozen? ⟨p + 1, 0, none⟩ = false) (first | exact SB.out _ HB0.out | exact SB.out _ (by assumption) | exact SS.out _ (by assumption))
          (first
            | (go_at_call 16; clear T1; refine (HLN.out _ HB0.out).mono ?_; rintro e z1 ⟨rfl, hz1⟩)
            | (go_at_call 10; refine (nl_put (w0 := y2) _ hz1).mono ?_; rintro e z2 ⟨rfl, hz2⟩)
            | (go_at_call 12; refine (nl_delete (w0 := y2) _ hz2).mono ?_; rintro e z3 ⟨rfl, hz3⟩)
            | (go_at_call 16; refine (nl_len (w0 := y2) _ hz3).mono ?_; rintro e z4 ⟨rfl, hz4⟩)
            | (go_at_call 24; refine (nl_levels (w0 := y2) _ hz4).mono ?_; rintro e z5 ⟨rfl, hz5⟩)
            | (go_at_call 13; refine (nl_copy (w0 := y2) _ hz5).mono ?_; rintro e z6 ⟨rfl, hz6⟩)
            | (go_at_call 17; refine (nl_rank (w0 := y2) _ hz6).mono ?_; rintro e z7 ⟨rfl, hz7⟩)
            | (go_at_call 21; refine (nl_from (w0 := y2) _ hz7).mono ?_; rintro e z8 ⟨v1, rfl, hs8, hz8⟩)
            | (go_at_call 20; clear T2; refine (nl_taken (w0 := y2) _ hz8 hs8.out).mono ?_; rintro e z9 ⟨x9, q9, rfl, hz9⟩)
            | (go_at_call 22; refine (nl_back (w0 := y2) _ hz9).mono ?_; rintro e z10 ⟨v2, rfl, hs10, hz10⟩)
            | (go_at_call 20; refine (nl_taken (w0 := y2) _ hz10 hs10.out).mono ?_; rintro e z11 ⟨x11, q11, rfl, hz11⟩))
        have h11 := HW2.out.below hz11
        have HX4 : Hid (Boxed (z11.setCell ⟨p + 1, 0, none⟩ (.bool true)) (p + 1) 4 (.bool true)) := h11.x4.set _
        have HBE : Hid (Below W.heap.size W (z11.setCell ⟨p + 1, 0, none⟩ (.bool true))) := h11.p2.bel.setCell (p := ⟨p + 1, 0, none⟩) (Nat.le_succ_of_le HWS.out.lo) _
        have HDE : Hid ((z11.setCell ⟨p + 1, 0, none⟩ (.bool true)).heap[D]? = some (.deferred (some []))) := by
          have hd := heap_lt HDF.out
          have hs2 := HB2.out.size
          refine (Below.heap_setCell _ _ _ _ (by have := HDP.out; show D ≠ p + 1; omega)).trans ?_
          rw [hz11.block D (by omega), HB2.out.block D hd]
          exact HDF.out
        have HDL : Hid (W.heap.size ≤ D) := by have := HWS.out.lo; have := HDP.out; show _ ≤ _; omega
        obtain ⟨z12, hz12⟩ : ∃ z12, z12 = z11.setCell ⟨p + 1, 0, none⟩ (.bool true) := ⟨_, rfl⟩
        rw [← hz12] at HX4 HBE HDE ⊢
        clear h11 hz1 hz2 hz3 hz4 hz5 hz6 hz7 hz8 hz9 hz10 hz11 hs8 hs10 SB SS HLN HB0 hz12 HW2 HB2
        go_wp2
        refine ⟨by simp, .inl ⟨_, _, rfl, run_takeDeferred HDE.out, ?_⟩⟩
        refine ⟨_, results_cellb rfl _ _ (p + 1) true rfl ?_, rfl, ?_⟩
        · exact Boxed.cell ((World.putObj_heap_other (by have := HDP.out; omega)).trans HX4.out)
        · exact HBE.out.grown (grownBy_putObj' _ D _) HBE.out.size (fun k e => by cases e; exact HDL.out)
      case stop =>
        rintro D cd pre wx hDl hpre hIx hK
        rcases hIx with ⟨rfl, pre0, x, rfl, hno⟩ | ⟨rfl, hI, hlt⟩
        · exact absurd (Tm.nx_prefix HAS.out hpre) hno
        rw [hTI] at hI
        obtain ⟨l', hwk, hRest⟩ := hI
        obtain ⟨N, hN⟩ : ∃ N, N = pre.length := ⟨_, rfl⟩
        obtain ⟨Ln, hLn⟩ : ∃ Ln, Ln = la.length := ⟨_, rfl⟩
        have hmn : (if 1 + (sp : Int) < (Ln : Int) then 1 + (sp : Int) else (Ln : Int)) = (N : Int) := by
          have := hpre.length_le
          split <;> omega
        clear hpre
        obtain ⟨K, hKK⟩ : ∃ K, K = Tm.lastk pre := ⟨_, rfl⟩
        rw [← hKK] at hwk
        have HWX := Lib.hid hwk; have HDF := Lib.hid hK
        have HDP : Hid (p + 1 < D) := by have := HWK8.out.x4.lt; show _ < _; omega
        have HLA2 : Hid (la.length = Ln) := hLn.symm
        rw [← hN] at HWX
        have c9 := hwk.x9.cell
        rw [← hN] at c9
        clear hwk hsq hen hTI HTI HOF TI hlt hDl hK hKK hN hLn hRest HWK HLO HAS
        refine wpIn_wide.2 ?_
        go_wp2_with fail
        refine (nl_get wx (Below.refl _ wx)).mono ?_
        rintro e y1 ⟨rfl, hy1⟩
        go_wp2_with fail
        refine (nl_at (w0 := wx) y1 hy1).mono ?_
        rintro e y2 ⟨rfl, hy2⟩
        have HW2 := Lib.hid (HWX.out.below hy2)
        have HB2 := Lib.hid hy2
        clear hy1 hy2 c9 HWX
        go_upto_region 28 with (fail)
        have HLN : Hid (∀ w', Below y2.heap.size y2 w' → Calls Try.prog 16 #[.pointer (some ⟨t2, 0, none⟩)] w' fun e w3 => e = .returned (.int .i64 (Ln : Int)) ∧ Below y2.heap.size y2 w3) := fun w' hb => by
          refine (p2_len (HW2.out.below hb).p2.swap).mono ?_
          rintro e w3 ⟨rfl, _, h2⟩
          rw [HLA2.out]
          exact ⟨rfl, hb.trans (h2.mono hb.size)⟩
        have HB0 : Hid (Below y2.heap.size y2 y2.drew) := below_dr8 y2
        have SB : Hid (∀ w', Below y2.heap.size y2 w' → w'.cell? ⟨b9, 0, none⟩ = some (.int .i64 (N : Int)) ∧ w'.cell? ⟨b8, 0, none⟩ = some (.pointer (some ⟨t2, 0, none⟩)) ∧ w'.cell? ⟨p, 0, none⟩ = some (.int .u8 (sp : Int)) ∧ w'.cell? ⟨p + 1, 0, none⟩ = some (.bool (boolAt ⟨p + 1, 0, none⟩ w')) ∧ w'.frozen? ⟨p + 1, 0, none⟩ = false) := fun w' hb => by
          have h := HW2.out.below hb
          exact ⟨h.x9.cell, h.x8.cell, h.x3.cell, boolAt_eq h.x4.cell, h.x4.frozen⟩
        have SS : Hid (∀ w', Below y2.heap.size y2 w' → (w'.setCell ⟨p + 1, 0, none⟩ (.bool true)).cell? ⟨b9, 0, none⟩ = some (.int .i64 (N : Int)) ∧ (w'.setCell ⟨p + 1, 0, none⟩ (.bool true)).cell? ⟨b8, 0, none⟩ = some (.pointer (some ⟨t2, 0, none⟩)) ∧ (w'.setCell ⟨p + 1, 0, none⟩ (.bool true)).cell? ⟨p, 0, none⟩ = some (.int .u8 (sp : Int)) ∧ (w'.setCell ⟨p + 1, 0, none⟩ (.bool true)).cell? ⟨p + 1, 0, none⟩ = some (.bool (boolAt ⟨p + 1, 0, none⟩ (w'.setCell ⟨p + 1, 0, none⟩ (.bool true)))) ∧ (w'.setCell ⟨p + 1, 0, none⟩ (.bool true)).frozen? ⟨p + 1, 0, none⟩ = false) := fun w' hb => by
          have h := HW2.out.below hb
          have h4 := h.x4.set (.bool true)
          have hq : ∀ {b : Nat} {t : TypeId} {v : Value}, Boxed w' b t v → b ≠ p + 1 → Boxed (w'.setCell ⟨p + 1, 0, none⟩ (.bool true)) b t v := fun hx hne => (Below.heap_setCell _ _ _ _ hne).trans hx
          exact ⟨(hq h.x9 HWS.out.o9.2.1).cell, (hq h.x8 (boxed_ne h.x8 h.x4 (by decide))).cell, (hq h.x3 (by omega)).cell, boolAt_eq h4.cell, h4.frozen⟩
        obtain ⟨q1, hq1⟩ : ∃ q1 : Int, q1 = 1 + (sp : Int) := ⟨_, rfl⟩
        have hw1 : IntKind.i64.wrap (1 + (sp : Int)) = q1 := by rw [IntKind.wrap_i64]; omega
        have hwa : IntKind.i64.wrap (sp : Int) = (sp : Int) := by rw [IntKind.wrap_i64]; omega
        have hif : min (Ln : Int) q1 = (N : Int) := by rw [hq1, ← hmn]; split <;> omega
        clear hq1 hmn
        have hNN : ((N : Int) == (N : Int)) = true := by simp
        have T1 := Lib.hid True.intro
        have T2 := Lib.hid True.intro
        go_region_held3 (fun w' => w'.cell? ⟨b9, 0, none⟩ = some (.int .i64 (N : Int)) ∧ w'.cell? ⟨b8, 0, none⟩ = some (.pointer (some ⟨t2, 0, none⟩)) ∧ w'.cell? ⟨p, 0, none⟩ = some (.int .u8 (sp : Int)) ∧ w'.cell? ⟨p + 1, 0, none⟩ = some (.bool (boolAt ⟨p + 1, 0, none⟩ w')) ∧ w'.frozen? ⟨p + 1, 0, none⟩ = false) (first | exact SB.out _ HB0.out | exact SB.out _ (by assumption) | exact SS.out _ (by assumption))
          (first
            | (go_at_call 16; clear T1; refine (HLN.out _ HB0.out).mono ?_; rintro e z1 ⟨rfl, hz1⟩)
            | (go_at_call 10; refine (nl_put (w0 := y2) _ hz1).mono ?_; rintro e z2 ⟨rfl, hz2⟩)
            | (go_at_call 12; refine (nl_delete (w0 := y2) _ hz2).mono ?_; rintro e z3 ⟨rfl, hz3⟩)
            | (go_at_call 16; refine (nl_len (w0 := y2) _ hz3).mono ?_; rintro e z4 ⟨rfl, hz4⟩)
            | (go_at_call 24; refine (nl_levels (w0 := y2) _ hz4).mono ?_; rintro e z5 ⟨rfl, hz5⟩)
            | (go_at_call 13; refine (nl_copy (w0 := y2) _ hz5).mono ?_; rintro e z6 ⟨rfl, hz6⟩)
            | (go_at_call 17; refine (nl_rank (w0 := y2) _ hz6).mono ?_; rintro e z7 ⟨rfl, hz7⟩)
            | (go_at_call 21; refine (nl_from (w0 := y2) _ hz7).mono ?_; rintro e z8 ⟨v1, rfl, hs8, hz8⟩)
            | (go_at_call 20; clear T2; refine (nl_taken (w0 := y2) _ hz8 hs8.out).mono ?_; rintro e z9 ⟨x9, q9, rfl, hz9⟩)
            | (go_at_call 22; refine (nl_back (w0 := y2) _ hz9).mono ?_; rintro e z10 ⟨v2, rfl, hs10, hz10⟩)
            | (go_at_call 20; refine (nl_taken (w0 := y2) _ hz10 hs10.out).mono ?_; rintro e z11 ⟨x11, q11, rfl, hz11⟩))
        have h11 := HW2.out.below hz11
        have HX4 : Hid (Boxed (z11.setCell ⟨p + 1, 0, none⟩ (.bool true)) (p + 1) 4 (.bool true)) := h11.x4.set _
        have HBE : Hid (Below W.heap.size W (z11.setCell ⟨p + 1, 0, none⟩ (.bool true))) := h11.p2.bel.setCell (p := ⟨p + 1, 0, none⟩) (Nat.le_succ_of_le HWS.out.lo) _
        have HDE : Hid ((z11.setCell ⟨p + 1, 0, none⟩ (.bool true)).heap[D]? = some (.deferred (some []))) := by
          have hd := heap_lt HDF.out
          have hs2 := HB2.out.size
          refine (Below.heap_setCell _ _ _ _ (by have := HDP.out; show D ≠ p + 1; omega)).trans ?_
          rw [hz11.block D (by omega), HB2.out.block D hd]
          exact HDF.out
        have HDL : Hid (W.heap.size ≤ D) := by have := HWS.out.lo; have := HDP.out; show _ ≤ _; omega
        obtain ⟨z12, hz12⟩ : ∃ z12, z12 = z11.setCell ⟨p + 1, 0, none⟩ (.bool true) := ⟨_, rfl⟩
        rw [← hz12] at HX4 HBE HDE ⊢
        clear h11 hz1 hz2 hz3 hz4 hz5 hz6 hz7 hz8 hz9 hz10 hz11 hs8 hs10 SB SS HLN HB0 hz12 HW2 HB2
        go_wp2
        refine ⟨by simp, .inl ⟨_, _, rfl, run_takeDeferred HDE.out, ?_⟩⟩
        refine ⟨_, results_cellb rfl _ _ (p + 1) true rfl ?_, rfl, ?_⟩
        · exact Boxed.cell ((World.putObj_heap_other (by have := HDP.out; omega)).trans HX4.out)
        · exact HBE.out.grown (grownBy_putObj' _ D _) HBE.out.size (fun k e => by cases e; exact HDL.out)
end Go.Proofs.Ytlakolcjgnmllaa
