/- Package sector: Flush. -/
import Derived.Test.YtofbignggadkiaaSecC5
namespace Go.Proofs.Ytofbignggadkiaa
open Go.RowKit

/-- where write j lies -/
theorem Dk.wr_at {g kb nb : Nat} {wa : Option Addr} {wc : Nat} {lim : Bool} {lf : Int} {nw : List (List UInt8)} {d : Sm.Dv} {w : World} (h : Dk g kb nb wa wc lim lf nw d w) (j : Nat) (hj : j < d.ws.length) :
    ∃ b, wa = some ⟨b, 0, none⟩ ∧ d.ws.length ≤ wc ∧ w.rangeAt b (j * 65) (.int .i64 (d.ws[j].i : Int) :: yc d.ws[j].b) := by
  have h1 := h.ws
  rcases h1.2 with ⟨_, e⟩ | ⟨b, cap, cur, hv, _, hg, hnc, _⟩
  · omega
  · injection hv with e1 e2 e3
    have hc := h1.cells (g := b) (by rw [e1]; rfl)
    refine ⟨b, e1, by omega, fun i v hv => ?_⟩
    have hi : i < 65 := by
      have := (List.getElem?_eq_some_iff.1 hv).1
      rw [List.length_cons, yc_length, (h.ok.w _ (List.getElem_mem hj)).2] at this
      omega
    have h2 := hc (j * 65 + i) v (by rw [kcs_get d.ws j i d.ws[j] (fun x hx => (h.ok.w x hx).2) (List.getElem?_eq_getElem hj) hi]; exact hv)
    rwa [add_pl, Nat.zero_add] at h2
theorem apply_step (k : List (List UInt8)) (l : List Sm.Wr) (j : Nat) (hj : j < l.length) : Sm.apply k (l.take (j + 1)) = (Sm.apply k (l.take j)).set l[j].i l[j].b := by
  have h2 : ∀ (l : List Sm.Wr) (x : Sm.Wr) (k : List (List UInt8)), Sm.apply k (l ++ [x]) = (Sm.apply k l).set x.i x.b := by
    intro l
    induction l with
    | nil => intros; rfl
    | cons y r ih => intro x k; rw [List.cons_append, Sm.apply, Sm.apply, ih]
  rw [← List.take_append_getElem hj, h2]
theorem infoW2 : (Try.prog.info? 89).map (·.size) = some 65 := by kernel_rfl
theorem Nv.flush {nw : List (List UInt8)} {d : Sm.Dv} (hv : Nv nw d) (hok : Sm.Ok d) : Nv nw { d with kept := Sm.apply d.kept d.ws, ws := [] } := by
  intro i hi
  show _ = (Sm.apply d.kept d.ws).getD i []
  have hi2 : i < (Sm.apply d.kept d.ws).length := hi
  rw [Sm.apply_len] at hi2
  rw [Sm.apply_at _ _ _ (fun x hx => (hok.w x hx).1)]
  exact hv i hi2
set_option maxHeartbeats 4000000 in
set_option maxRecDepth 100000 in
theorem sec_flush (g kb nb : Nat) (wa : Option Addr) (wc : Nat) (lim : Bool) (lf : Int) (nw : List (List UInt8)) (d : Sm.Dv) (w : World) (h : Dk g kb nb wa wc lim lf nw d w) (hv : Nv nw d) (hlim : Lim d) :
    Calls Try.prog 52 #[.pointer (some ⟨g, 0, none⟩)] w fun e w' => e = .returned (.int .i64 (Sm.flush d).2) ∧ Only (Kf g kb nb wa) w w' ∧ ∃ wa' wc' lf' nw', Dk g kb nb wa' wc' lim lf' nw' (Sm.flush d).1 w' ∧ Nv nw' (Sm.flush d).1 ∧ (∀ k, Kf g kb nb wa' k → Kf g kb nb wa k ∨ w.heap.size ≤ k) := by
  have HF := Lib.hid (sec_off g kb nb wa wc lim lf nw d w h)
  have H := Lib.hid h
  have HV := Lib.hid hv
  have hck : Sm.check d 0 0 = if d.left = 0 then 60 else 0 := by
    unfold Sm.check; rw [if_neg (by have := h.po; omega)]
  by_cases hc : d.left = 0
  · have HR : Hid (Sm.flush d = (d, 60)) := by show _ = _; unfold Sm.flush; rw [hck, if_pos hc, if_neg (by decide)]
    have hd : decide (d.left = 0) = true := by simpa using hc
    rw [HR.out]
    rw [hd] at HF
    clear HR h hc hck hd hv
    go_enter Try.func52, Try.ntmps52
    go_wp2_with fail
    refine HF.out.mono ?_
    rintro e w1 ⟨rfl, rfl⟩
    go_wp2
    go_ret
    exact ⟨rfl, Only.refl _ _, wa, wc, lf, nw, H.out, HV.out, fun _ e => .inl e⟩
  have HR : Hid (Sm.flush d = (Sm.count { d with kept := Sm.apply d.kept d.ws, ws := [] }, 0)) := by show _ = _; unfold Sm.flush; rw [hck, if_neg hc, if_pos rfl]
  have hd : decide (d.left = 0) = false := by simpa using hc
  rw [HR.out]
  rw [hd] at HF
  have HN0 := Lib.hid hc
  have c2 := h.c2
  obtain ⟨K, hK⟩ : ∃ K, K = d.kept.length := ⟨_, rfl⟩
  obtain ⟨M, hM⟩ : ∃ M, M = d.ws.length := ⟨_, rfl⟩
  rw [← hM] at c2
  have HK := Lib.hid hK
  have HM := Lib.hid hM
  have HLIM := Lib.hid hlim
  have M1 : M ≤ d.ws.length := by omega
  have M2 : d.ws.length ≤ M := by omega
  have M3 : M ≤ 1000 := by have := hlim.w; omega
  obtain ⟨A, hA⟩ : ∃ A : Array Value, A = #[.int .i64 0] ++ Array.replicate 64 (.int .u8 0) := ⟨_, rfl⟩
  have HZ : Hid (∀ W, (zeroValue 89).run Try.prog W = .ok (.agg A) W) := by
    show ∀ W, _
    rw [hA]
    exact (zero_of_info (n := 65) (by kernel_rfl)).1
  have HAS : Hid (A.size = 65) := by show _ = _; rw [hA]; rfl
  clear HR hc h hM hK hck hd hv hA hlim
  go_enter Try.func52, Try.ntmps52
  go_wp2_with fail
  refine HF.out.mono ?_
  rintro e w1 ⟨rfl, rfl⟩
  clear HF
  go_wp2_with fail
  go_loopw [14] (fun iv wr => ∃ (j : Nat) (ks : List (List UInt8)), j ≤ M ∧ iv = .int .i64 (j : Int) ∧ Hid (ks = Sm.apply d.kept (d.ws.take j)) ∧ Hid (Dk g kb nb wa wc lim lf nw { d with kept := ks } wr) ∧ Hid (Only (Kf g kb nb wa) w wr)) (fun iv _ => M - (ixOf iv).toNat)
  case atStart => exact ⟨0, d.kept, by omega, rfl, rfl, H.out, Only.refl _ _⟩
  case round =>
    obtain ⟨j, ks, hj, rfl, HKS, HD, HO⟩ := hrel
    have HKL : Hid (ks.length = K) := by show _ = _; rw [HKS.out, Sm.apply_len, HK.out]
    by_cases hlt : j < M
    · have hjl : j < d.ws.length := by omega
      obtain ⟨b, ha, hwc, hrg⟩ := HD.out.wr_at j hjl
      have hx := HD.out.ok.w d.ws[j] (List.getElem_mem hjl)
      have hnx := apply_step d.kept d.ws j hjl
      rw [← HKS.out] at hnx
      subst ha
      dsimp only at hx hrg
      generalize d.ws[j] = x at *
      obtain ⟨xi, xb⟩ := x
      dsimp only at hx hrg hnx
      obtain ⟨hx1, hx2⟩ := hx
      have HNX : Hid (ks.set xi xb = Sm.apply d.kept (d.ws.take (j + 1))) := hnx.symm
      obtain ⟨cs, hcs⟩ : ∃ cs, cs = yc xb := ⟨_, rfl⟩
      obtain ⟨C, hC⟩ : ∃ C : List Value, C = .int .i64 (xi : Int) :: cs := ⟨_, rfl⟩
      rw [← hcs, ← hC] at hrg
      have hl64 : cs.length = 64 := by rw [hcs, yc_length]; exact hx2
      have hl65 : C.length = 65 := by rw [hC, List.length_cons, hl64]
      have HRG := Lib.hid hrg
      have HI : Hid ((Try.prog.info? 89).map (·.size) = some C.length) := by show _ = _; rw [hl65]; exact infoW2
      have HAC : Hid (C.toArray.all (·.oneCell') = true) := all_oneCell_toArray (by
        rw [hC, hcs]
        intro v hv
        rcases List.mem_cons.1 hv with rfl | hv
        · rfl
        · exact yc_one _ v hv)
      have HL65 := Lib.hid hl65
      have HCS := Lib.hid hcs; have HC := Lib.hid hC; have HX1 : Hid (xi < ks.length) := hx1; have HX2 := Lib.hid hx2
      have hxi : (xi : Int) < (K : Int) := by have := HKL.out; have := HX1.out; omega
      have hjM : (j : Int) < (M : Int) := by omega
      clear hnx hx1 hx2 hcs hC hl65 hrg HKS
      go_wp2_with (first
        | (with_reducible refine wpList_load_mid ?_ 89 (.tmp 16) ?_ b (j * 65) ?_ C _ ?_ Try.underlying89 ?_ ?_ ?_
           · rfl
           · rfl
           · rfl
           · exact HRG.out
           · rfl
           · exact HI.out)
        | (with_reducible refine wpList_alloc_of ?_ 89 ?_ (.agg A) A ?_ ?_ ?_
           · rfl
           · rfl
           · exact HZ.out
           · rfl)
        | (with_reducible refine wpList_store_last ?_ 89 (.tmp 4) (.tmp 17) ?_ wr A C.toArray ?_ ?_ ?_ ?_ ?_ ?_ ?_
           · rfl
           · rfl
           · rfl
           · rfl
           · rfl
           · exact HI.out
           · rw [HAS.out]; exact HL65.out.symm
           · exact HAC.out))
      obtain ⟨W1, hW1⟩ : ∃ W1, W1 = wr.alloc (.cells C.toArray 89) := ⟨_, rfl⟩
      have hgh : W1.heap[wr.heap.size]? = some (.cells C.toArray 89 (0, 0)) := by rw [hW1, heap_alloc_new]
      have HD1 : Hid (Dk g kb nb (some ⟨b, 0, none⟩) wc lim lf nw { d with kept := ks } W1.drew) := by
        show Dk _ _ _ _ _ _ _ _ _ _
        rw [hW1]; exact (HD.out.below ((Below.refl _ wr).alloc (Nat.le_refl _) _)).below (below_drew0 _)
      have HO1 : Hid (Only (Kf g kb nb (some ⟨b, 0, none⟩)) w W1.drew) := by
        show Only _ _ _
        rw [hW1]; exact (HO.out.alloc _).drew
      have hlh : kb ≠ wr.heap.size := by have := HD.out.kr.lt; omega
      have hgk : g ≠ kb := HD.out.e1
      have p0 : W1.drew.cell? ⟨g, 0, none⟩ = some (.slice (some ⟨kb, 0, none⟩) K K) := by have := HD1.out.c0; dsimp only at this; rw [HKL.out] at this; exact this
      have p1 : W1.drew.cell? ⟨wr.heap.size, 0, none⟩ = some (.int .i64 (xi : Int)) := by
        rw [World.cell?_drew, Lib.cell_of_heap hgh, HC.out]; rfl
      have p2 : W1.drew.rangeAt wr.heap.size 1 cs := fun k v hv => by
        rw [World.cell?_drew, Lib.cell_of_heap hgh, HC.out]
        rw [List.getElem?_toArray, Nat.add_comm 1 k, List.getElem?_cons_succ]; exact hv
      have p3 : W1.drew.there kb (xi * 64) 64 := HD1.out.kr.th xi HX1.out
      have S0 := Lib.hid (show W1.drew.cell? ⟨g, 0, none⟩ = some (.slice (some ⟨kb, 0, none⟩) K K) ∧ W1.drew.cell? ⟨wr.heap.size, 0, none⟩ = some (.int .i64 (xi : Int)) ∧ W1.drew.rangeAt wr.heap.size 1 cs ∧ W1.drew.there kb (xi * 64) 64 from ⟨p0, p1, p2, p3⟩)
      have S1 := Lib.hid (show (W1.drew.setCells kb (xi * 64) cs).cell? ⟨g, 0, none⟩ = some (.slice (some ⟨kb, 0, none⟩) K K) ∧ (W1.drew.setCells kb (xi * 64) cs).cell? ⟨wr.heap.size, 0, none⟩ = some (.int .i64 (xi : Int)) ∧ (W1.drew.setCells kb (xi * 64) cs).rangeAt wr.heap.size 1 cs ∧ (W1.drew.setCells kb (xi * 64) cs).there kb (xi * 64) 64 from
        ⟨by rw [World.cell?_setCells_out _ _ _ _ _ (fun e _ => absurd e hgk)]; exact p0, by rw [World.cell?_setCells_out _ _ _ _ _ (fun e _ => absurd e.symm hlh)]; exact p1, World.rangeAt_setCells_apart p2 _ _ _ (.inl (Ne.symm hlh)), World.there_setCells p3 _ _ _⟩)
      have hu := Try.underlying87
      have hi : (Try.prog.info? 87).map (·.size) = some cs.length := by rw [hl64]; exact infoB2
      have h1c : ∀ v ∈ cs, v.oneCell' = true := by rw [HCS.out]; exact yc_one _
      have HD2 : Hid (Dk g kb nb (some ⟨b, 0, none⟩) wc lim lf nw { d with kept := ks.set xi xb } (W1.drew.setCells kb (xi * 64) cs)) := by
        have h1 := HD1.out.setKept xi HX1.out xb (by rw [HX2.out]; omega)
        have h2 : xb ++ List.drop xb.length (ks.getD xi []) = xb := by
          rw [List.drop_eq_nil_of_le (by rw [Sm.getD_64 HD1.out.ok.k HX1.out, HX2.out]; exact Nat.le_refl _), List.append_nil]
        dsimp only at h1
        rw [h2, ← HCS.out] at h1
        exact h1
      have HO2 : Hid (Only (Kf g kb nb (some ⟨b, 0, none⟩)) w (W1.drew.setCells kb (xi * 64) cs)) := HO1.out.setCells (.inl (.inr (.inl rfl))) _ _
      rw [← hW1]
      clear hW1 hgh HD HO hlh hgk p0 p1 p2 p3 HD1 HO1 HRG HI HAC
      go_upto_region 8 with (fail)
      go_region_held3 (fun w' => w'.cell? ⟨g, 0, none⟩ = some (.slice (some ⟨kb, 0, none⟩) K K) ∧ w'.cell? ⟨wr.heap.size, 0, none⟩ = some (.int .i64 (xi : Int)) ∧ w'.rangeAt wr.heap.size 1 cs ∧ w'.there kb (xi * 64) 64) (first | exact S0.out | exact S1.out) (fail)
      clear S0 S1 hu hi h1c
      go_wp2
      go_roundw
      case rel => exact ⟨j + 1, ks.set xi xb, by omega, by go_num, HNX, HD2, HO2⟩
      case measure => simp [ixOf]; omega
    · have hjm : j = M := by omega
      have HKF : Hid (ks = Sm.apply d.kept d.ws) := by show _ = _; rw [HKS.out, hjm, HM.out, List.take_length]
      have c2 := HD.out.c2
      have hfz := HD.out.fz
      have hlt2 := HD.out.lt
      dsimp only at c2
      rw [← HM.out] at c2
      have HDW := Lib.hid (HD.out.setWs (wc' := 0) (wa' := none) (n' := 0) [] rfl (World.ownsRow_nil _ _ _ _) (fun a e => by cases e) (fun x hx => by cases hx))
      dsimp only at HDW
      have HN := Lib.hid (sec_count g kb nb none 0 lim lf _ _ _ HDW.out ⟨HLIM.out.c0, HLIM.out.c1⟩ HN0.out HLIM.out.l1)
      have O3 : Hid (Only (Kf g kb nb wa) w (wr.setCell ⟨g, 2, none⟩ (.slice none 0 0))) := HO.out.setCell (q := ⟨g, 2, none⟩) (.inl (.inl rfl)) _
      have HFL := Lib.hid (HV.out.flush H.out.ok)
      clear HKS hjm HLIM
      go_wp2_with fail
      refine HN.out.mono ?_
      rintro e w5 ⟨rfl, ⟨lf', hd5⟩, ho5⟩
      have HRW := O3.out.trans (ho5.mono fun k _ e => .inl e)
      rw [HKF.out] at hd5
      go_wp2
      go_ret
      exact ⟨rfl, HRW, none, 0, lf', _, hd5, HFL.out, fun k hk => .inl (by
        rcases hk with hk | hk | hk | ⟨_, e, _⟩
        · exact .inl hk
        · exact .inr (.inl hk)
        · exact .inr (.inr (.inl hk))
        · cases e)⟩
end Go.Proofs.Ytofbignggadkiaa
