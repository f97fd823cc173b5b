/- The reference of layer 6: Crash. -/
import Derived.Test.YtofbignggadkiaaSecRef4
import Derived.Test.YtofbignggadkiaaSecFrame
namespace Go.Proofs.Ytofbignggadkiaa
open Go.RowKit
namespace Sm
theorem torn_app : ∀ (l : List Wr) (x : Wr) (ks : List (List UInt8)) (ts : List Int), torn ks (l ++ [x]) ts = (torn ks l ts).set x.i (x.b.take (tear (ts[l.length]?)) ++ ((torn ks l ts).getD x.i []).drop (tear (ts[l.length]?)))
  | [], x, ks, ts => by
    rw [List.nil_append, torn, torn, torn]
    cases ts <;> rfl
  | y :: l, x, ks, ts => by
    rw [List.cons_append, torn, torn, torn_app l x]
    cases ts with
    | nil => simp
    | cons t r => simp
end Sm
theorem max_b (t M : Int) (h : (if t > 0 then t else 0) = M) (W : World) : (Builtin.max_ #[3, 3] 3 #[.int .i64 0, .int .i64 t]).run Try.prog W = .ok (.int .i64 M) W := by
  rw [← h]
  simp [Builtin.max_, Builtin.max2]
theorem min_b (t M : Int) (h : (if t < 64 then t else 64) = M) (W : World) : (Builtin.min_ #[3, 3] 3 #[.int .i64 64, .int .i64 t]).run Try.prog W = .ok (.int .i64 M) W := by
  rw [← h]
  simp [Builtin.min_, Builtin.min2]
theorem st_ext (l : List UInt8) (a b : Nat) : (st l).extract a b = st ((l.drop a).take (b - a)) := by
  apply ByteArray.ext
  simp [st]
set_option maxHeartbeats 4000000 in
set_option maxRecDepth 100000 in
theorem ref6_crash (g kb kc wc : Nat) (wa : Option Addr) (d : Sm.Dv) (ta : Option Addr) (tn tc : Nat) (ts : List Int) (w : World) (h : Dr g kb kc wa wc d w) (hok : Sm.Ok d) (hw : d.ws.length ≤ 1000) (ht : It (.slice ta tn tc) ts w)
    (hta : 0 < ts.length → ∀ a, ta = some a → a.block ≠ g ∧ a.block ≠ kb) :
    Calls Try.prog 23 #[.pointer (some ⟨g, 0, none⟩), .slice ta tn tc] w fun e w' => e = .returned (.tuple #[]) ∧ Only (Fp g kb) w w' ∧ ∃ wa' wc', Dr g kb kc wa' wc' (Sm.crash d ts) w' ∧ (wa' = wa ∨ wa' = none) := by
  have H := Lib.hid h
  have c1 := h.c1; have fz := h.fz; have lt := h.lt
  obtain ⟨K, hK⟩ : ∃ K, K = d.kept.length := ⟨_, rfl⟩
  obtain ⟨M, hM⟩ : ∃ M, M = d.ws.length := ⟨_, rfl⟩
  rw [← hM] at c1
  have HK := Lib.hid hK
  have HM := Lib.hid hM
  have M1 : M ≤ d.ws.length := by omega
  have M2 : d.ws.length ≤ M := by omega
  have htn : tn = ts.length := by obtain ⟨_, _, e⟩ := ht.form; injection e
  have t1 : tn ≤ ts.length := by omega
  have t2 : ts.length ≤ tn := by omega
  have HOK := Lib.hid hok
  have HT := Lib.hid ht
  have HTA := Lib.hid hta
  clear h hM hK hok htn ht hta
  go_enter Try.func23, Try.ntmps23
  go_wp2_with fail
  go_loopw [12] (fun iv wr => ∃ (j : Nat) (ks : List (List UInt8)), j ≤ M ∧ iv = .int .i64 (j : Int) ∧ Hid (ks = Sm.torn d.kept (d.ws.take j) ts) ∧ Hid (Dr g kb kc wa wc { d with kept := ks } wr) ∧ Hid (Only (Fp g kb) w wr)) (fun iv _ => M - (ixOf iv).toNat)
  case atStart => exact ⟨0, d.kept, by omega, rfl, rfl, H.out, Only.refl _ _⟩
  case round =>
    obtain ⟨j, ks, hj, rfl, HKS, HD, HO⟩ := hrel
    have hks : ks.length = K := by rw [HKS.out, Sm.torn_len, HK.out]
    have hk64 : ∀ s ∈ ks, s.length = 64 := by rw [HKS.out]; exact Sm.torn_64 _ _ _ HOK.out.k (fun x hx => HOK.out.w x (List.mem_of_mem_take hx))
    have HKL := Lib.hid hks
    by_cases hlt : j < M
    · have hjl : j < d.ws.length := by omega
      obtain ⟨b, off, ha, hg, e0, e1⟩ := Wv.at HD.out.ws j hjl
      have hx := HOK.out.w d.ws[j] (List.getElem_mem hjl)
      have hnx : Sm.torn d.kept (d.ws.take (j + 1)) ts = ks.set d.ws[j].i (d.ws[j].b.take (Sm.tear (ts[j]?)) ++ (ks.getD d.ws[j].i []).drop (Sm.tear (ts[j]?))) := by
        rw [← List.take_append_getElem hjl, Sm.torn_app, List.length_take, Nat.min_eq_left (by omega), ← HKS.out]
      subst ha
      dsimp only at e0 e1
      generalize d.ws[j] = x at *
      obtain ⟨xi, xb⟩ := x
      dsimp only at e0 e1 hx hnx
      have hxi : (xi : Int) < (K : Int) := by have := HK.out; omega
      obtain ⟨n, hn⟩ : ∃ n, n = Sm.tear (ts[j]?) := ⟨_, rfl⟩
      have hn64 : n ≤ 64 := by rw [hn]; exact Sm.tear_le _
      rw [← hn] at hnx
      obtain ⟨kx, hkx⟩ : ∃ kx, kx = ks.getD xi [] := ⟨_, rfl⟩
      have hkl : kx.length = 64 := by rw [hkx]; exact Sm.getD_64 hk64 (by have := HK.out; omega)
      rw [← hkx] at hnx
      have HNX : Hid (ks.set xi (xb.take n ++ kx.drop n) = Sm.torn d.kept (d.ws.take (j + 1)) ts) := hnx.symm
      have HD1 := Lib.hid (HD.out.keep ((Below.refl _ wr).alloc (Nat.le_refl _) (.cells #[.int .i64 (xi : Int), .string (st xb)] 91)))
      have HO1 := Lib.hid (HO.out.alloc (.cells #[.int .i64 (xi : Int), .string (st xb)] 91))
      have d0 := HD1.out.c0
      dsimp only at d0
      rw [hks] at d0
      have k0 := HD1.out.sector xi (by show xi < ks.length; have := HKL.out; omega)
      dsimp only at k0
      rw [← hkx] at k0
      have kf := HD1.out.kr.frozenAt xi
      obtain ⟨S, hS⟩ : ∃ S, S = st xb := ⟨_, rfl⟩
      obtain ⟨T, hT⟩ : ∃ T, T = st kx := ⟨_, rfl⟩
      have hSz : (n : Int) ≤ (S.size : Int) := by rw [hS, st_size, hx.2]; omega
      have hTz : (n : Int) ≤ (T.size : Int) := by rw [hT, st_size, hkl]; omega
      have hSz2 : S.size ≤ 64 := by rw [hS, st_size, hx.2]; omega
      have hTz2 : T.size ≤ 64 := by rw [hT, st_size, hkl]; omega
      have HS : Hid (S.extract 0 n ++ T.extract n T.size = st (xb.take n ++ kx.drop n)) := by
        show _ = _
        rw [hS, hT, st_ext, st_ext, st_append, st_size, List.drop_zero, Nat.sub_zero, List.take_of_length_le (l := kx.drop n) (by rw [List.length_drop]; omega)]
      rw [← hS] at e1 d0 k0 kf HD1 HO1
      rw [← hT] at k0
      have gl : g < wr.heap.size := HD.out.lt
      have HTJ : Hid (It (.slice ta tn tc) ts wr) := by
        rcases HT.out with h2 | ⟨b2, o2, cap2, e, hc2, hg2, hcell⟩
        · exact .inl h2
        · injection e with e1' e2' e3'
          have hne : 0 < ts.length → b2 ≠ g ∧ b2 ≠ kb := fun h0 => HTA.out h0 _ e1'
          subst e1'; subst e3'
          refine .inr ⟨b2, o2, tc, by rw [e2'], hc2, by have := HO.out.size; omega, fun i hi => ?_⟩
          have hb2 := HO.out.block b2 hg2 (fun e => by rcases e with e | e; exact (hne (by omega)).1 e; exact (hne (by omega)).2 e)
          rw [← hcell i hi]
          simp [World.cell?, hb2]
      clear hnx hks hx hS hT hk64 hkx hkl
      by_cases htj : j < tn
      · have htl : j < ts.length := by omega
        obtain ⟨b3, o3, hta3, hcc, hg3, hc3⟩ := It.at HTJ.out j htl
        subst hta3
        obtain ⟨t, htt⟩ : ∃ t, t = ts[j] := ⟨_, rfl⟩
        rw [← htt] at hc3
        have hn2 : (if (if t > 0 then t else 0) < 64 then (if t > 0 then t else 0) else 64) = (n : Int) := by
          rw [hn, List.getElem?_eq_getElem htl, ← htt, Sm.tear]
          split <;> split <;> omega
        have hmx := max_b t _ rfl
        have hmn := min_b _ _ hn2
        obtain ⟨U, hU⟩ : ∃ U, U = (if t > 0 then t else 0) := ⟨_, rfl⟩
        rw [← hU] at hmx hmn
        clear hn2 hU htt hn
        go_upto_region 6 with (fail)
        obtain ⟨W1, hW1⟩ : ∃ W1, W1 = (wr.alloc (.cells #[.int .i64 (xi : Int), .string S] 91)) := ⟨_, rfl⟩
        have a0 : W1.cell? ⟨wr.heap.size, 0, none⟩ = some (.int .i64 (xi : Int)) := by rw [hW1, Lib.cell_of_heap (heap_alloc_new wr _)]; rfl
        have a1 : W1.cell? ⟨wr.heap.size, 1, none⟩ = some (.string S) := by rw [hW1, Lib.cell_of_heap (heap_alloc_new wr _)]; rfl
        rw [← hW1] at d0 k0 kf HD1 HO1 ⊢
        clear hW1 e0 e1 HTJ
        go_region
        all_goals go_wp2
        all_goals refine ⟨⟨j + 1, _, by omega, by go_num, HNX, ?_, ?_⟩, by simp [ixOf]; omega⟩
        all_goals first
        | exact (HD1.out.setKept xi _ _ HS.out).keep ⟨rfl, rfl, rfl, Nat.le_refl _, fun _ _ => rfl⟩
        | exact (HO1.out.setCell (q := ⟨kb, xi, none⟩) (.inl (.inr rfl)) _).drew
      · have hnz : n = 0 := by rw [hn, List.getElem?_eq_none (by omega)]; rfl
        subst hnz
        have q : decide ((j : Int) < (tn : Int)) = false := by simp; omega
        clear hn
        go_upto_region 6 with (fail)
        obtain ⟨W1, hW1⟩ : ∃ W1, W1 = (wr.alloc (.cells #[.int .i64 (xi : Int), .string S] 91)) := ⟨_, rfl⟩
        have a0 : W1.cell? ⟨wr.heap.size, 0, none⟩ = some (.int .i64 (xi : Int)) := by rw [hW1, Lib.cell_of_heap (heap_alloc_new wr _)]; rfl
        have a1 : W1.cell? ⟨wr.heap.size, 1, none⟩ = some (.string S) := by rw [hW1, Lib.cell_of_heap (heap_alloc_new wr _)]; rfl
        rw [← hW1] at d0 k0 kf HD1 HO1 ⊢
        clear hW1 e0 e1 HTJ
        go_region
        all_goals go_wp2
        all_goals refine ⟨⟨j + 1, _, by omega, by go_num, HNX, ?_, ?_⟩, by simp [ixOf]; omega⟩
        all_goals first
        | exact (HO1.out.setCell (q := ⟨kb, xi, none⟩) (.inl (.inr rfl)) _).drew
        | exact (HD1.out.setKept xi _ _ (by first | exact HS.out | simpa using HS.out)).keep ⟨rfl, rfl, rfl, Nat.le_refl _, fun _ _ => rfl⟩
    · have hjm : j = M := by omega
      have HKF : Hid (ks = Sm.torn d.kept d.ws ts) := by show _ = _; rw [HKS.out, hjm, HM.out, List.take_length]
      have HD1 := HD.out.c1
      have HD2 := HD.out.c2
      have hfz := HD.out.fz
      have hlt2 := HD.out.lt
      dsimp only at HD1 HD2
      rw [← HM.out] at HD1
      have HDW := (HD.out.setWs (wc' := 0) (a' := none) [] 0 rfl (.inl ⟨_, _, rfl, rfl⟩) (fun a e => by cases e))
      have HDX := Lib.hid (HDW.setLeft (-1))
      have hc2 := HDW.c2
      dsimp only at HDX hc2
      rw [HKF.out] at HDX
      have O3 : Hid (Only (Fp g kb) w ((wr.setCell ⟨g, 1, none⟩ (.slice none 0 0)).setCell ⟨g, 2, none⟩ (.int .i64 (-1)))) := (HO.out.setCell (q := ⟨g, 1, none⟩) (.inl (.inl rfl)) _).setCell (q := ⟨g, 2, none⟩) (.inl (.inl rfl)) _
      clear HKS hjm HDW
      go_wp2
      go_end0
      exact ⟨rfl, O3.out, none, 0, HDX.out, .inr rfl⟩
end Go.Proofs.Ytofbignggadkiaa
