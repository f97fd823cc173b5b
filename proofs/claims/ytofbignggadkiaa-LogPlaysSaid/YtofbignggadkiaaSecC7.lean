/- Package sector: Crash. -/
import Derived.Test.YtofbignggadkiaaSecC6
namespace Go.Proofs.Ytofbignggadkiaa
open Go.RowKit

/-- a copy into cells that may be written, at a step of a region that draws its order -/
theorem step_copy_cells {P : Program} {ops : Array Oper} {o : Oper} {a : Act} {w : World} {K : Act → World → Prop} {Q : Exit → Act → World → Prop} {E : Prop} (hgd : o.guard = none) (d s : Operand) (dT sT : TypeId)
    (ho : o.op = .call { callee := .builtin .copy, args := #[d, s], argTypes := #[dT, sT] }) (elem : TypeId) (hu : P.underlying dT = some (.slice elem)) (hsz : (P.info? elem).map (·.size) = some 1)
    (b off dLen dCap : Nat) (ad : Addr) (sLen sCap : Nat) (hd : a.eval d = .slice (some ⟨b, off, none⟩) dLen dCap) (hs : a.eval s = .slice (some ad) sLen sCap)
    (cs : List Value) (hn : cs.length = Nat.min sLen dLen) (hsrc : ∀ j v, cs[j]? = some v → w.cell? (ad.add j) = some v) (ht : w.there b off cs.length) (h1 : ∀ v ∈ cs, v.oneCell' = true)
    (h : K (a.put o.dst (goInt cs.length)) (w.setCells b off cs)) : if Region.wanted o (yielded ops a.tmps) = true then Oper.wp P o a w K Q else E := by
  have hw : Region.wanted o (yielded ops a.tmps) = true := by simp [Region.wanted, hgd]
  rw [if_pos hw]
  have hrun := run_copy_cells (P := P) w dT sT o.type elem b off dLen dCap ad sLen sCap cs hu hsz hn hsrc (fun j hj => (ht j hj).1) (fun j hj => (ht j hj).2) h1
  unfold Oper.wp
  simp [execOp, ho, resolve, invoke, builtin, hd, hs, hrun, Result.andThen]
  exact h
theorem it_only {v : Value} {l : List Int} {w w' : World} {p : Nat → Prop} (h : It v l w) (ho : Only p w w') (hne : ∀ b, v.ownBlock = some b → 0 < l.length → ¬ p b) : It v l w' := by
  rcases h with h | ⟨g, off, cap, hv, hc, hg, hcell⟩
  · exact .inl h
  · by_cases h0 : 0 < l.length
    · have hb := ho.block g hg (hne g (by rw [hv]; rfl) h0)
      exact .inr ⟨g, off, cap, hv, hc, by have := ho.size; omega, fun j hj => by rw [← hcell j hj]; simp [World.cell?, hb]⟩
    · exact .inl ⟨some ⟨g, off, none⟩, cap, by rw [hv]; congr 1; omega, List.eq_nil_of_length_eq_zero (by omega)⟩
/-- what is newest behind a part of a crash -/
def Tn (nw ks nws : List (List UInt8)) (l : List Sm.Wr) : Prop := ∀ i, i < ks.length → nws.getD i [] = if l.any (fun x => x.i == i) = true then ks.getD i [] else nw.getD i []
theorem Tn.start (nw ks : List (List UInt8)) : Tn nw ks nw [] := fun i _ => by simp
theorem Tn.step {nw ks nws : List (List UInt8)} {l : List Sm.Wr} (h : Tn nw ks nws l) (x : Sm.Wr) (hx : x.i < ks.length) (hn : nws.length = ks.length) (s : List UInt8) : Tn nw (ks.set x.i s) (nws.set x.i s) (l ++ [x]) := by
  intro i hi
  rw [List.length_set] at hi
  rw [Sm.getD_set _ _ _ _ (by rw [hn]; exact hx), Sm.getD_set _ _ _ _ hx, List.any_append]
  by_cases e : x.i = i
  · subst e; simp
  · rw [if_neg e, if_neg e, h i hi]
    simp [e]
theorem Tn.done {nw ks nws : List (List UInt8)} {d : Sm.Dv} {ts : List Int} (h : Tn nw ks nws d.ws) (hv : Nv nw d) (hok : Sm.Ok d) (hk : ks = Sm.torn d.kept d.ws ts) : Nv nws { d with kept := ks, ws := [], left := -1 } := by
  intro i hi
  show nws.getD i [] = ks.getD i []
  have hi2 : i < ks.length := hi
  rw [h i hi2]
  by_cases e : d.ws.any (fun x => x.i == i) = true
  · rw [if_pos e]
  · rw [if_neg e]
    have hne : ∀ x ∈ d.ws, x.i ≠ i := fun x hx e2 => e (List.any_eq_true.2 ⟨x, hx, by simpa using e2⟩)
    have hil : i < d.kept.length := by rw [hk, Sm.torn_len] at hi2; exact hi2
    rw [hv i hil, Sm.last_none i d.ws _ hne, hk, Sm.torn_other i d.ws _ _ (fun x hx => ⟨(hok.w x hx).1, hne x hx⟩)]
set_option maxHeartbeats 4000000 in
set_option maxRecDepth 100000 in
theorem sec_crash (g kb nb : Nat) (wa : Option Addr) (wc : Nat) (lim : Bool) (lf : Int) (nw : List (List UInt8)) (d : Sm.Dv) (ta : Option Addr) (tn tc : Nat) (ts : List Int) (w : World) (h : Dk g kb nb wa wc lim lf nw d w) (hv : Nv nw d) (hw : d.ws.length ≤ 1000) (ht : It (.slice ta tn tc) ts w)
    (hta : 0 < ts.length → ∀ a, ta = some a → ¬ Kf g kb nb wa a.block) :
    Calls Try.prog 22 #[.pointer (some ⟨g, 0, none⟩), .slice ta tn tc] w fun e w' => e = .returned (.tuple #[]) ∧ Only (Kf g kb nb wa) w w' ∧ ∃ wa' wc' lim' lf' nw', Dk g kb nb wa' wc' lim' lf' nw' (Sm.crash d ts) w' ∧ Nv nw' (Sm.crash d ts) ∧ (∀ k, Kf g kb nb wa' k → Kf g kb nb wa k ∨ w.heap.size ≤ k) := by
  have H := Lib.hid h
  have HV := Lib.hid hv
  have HTA := Lib.hid hta
  have c2 := h.c2
  obtain ⟨K, hK⟩ : ∃ K, K = d.kept.length := ⟨_, rfl⟩
  obtain ⟨M, hM⟩ : ∃ M, M = d.ws.length := ⟨_, rfl⟩
  rw [← hM] at c2
  have HK := Lib.hid hK
  have HM := Lib.hid hM
  have HT := Lib.hid ht
  have M1 : M ≤ d.ws.length := by omega
  have M2 : d.ws.length ≤ M := by omega
  have M3 : M ≤ 1000 := by omega
  obtain ⟨A, hA⟩ : ∃ A : Array Value, A = #[.int .i64 0] ++ Array.replicate 64 (.int .u8 0) := ⟨_, rfl⟩
  have HZ : Hid (∀ W, (zeroValue 89).run Try.prog W = .ok (.agg A) W) := by
    show ∀ W, _
    rw [hA]
    exact (zero_of_info (n := 65) (by kernel_rfl)).1
  have HAS : Hid (A.size = 65) := by show _ = _; rw [hA]; rfl
  clear h hM hK hv hA hw ht hta
  go_enter Try.func22, Try.ntmps22
  go_wp2_with fail
  go_loopw [13] (fun iv wr => ∃ (j : Nat) (ks nws : List (List UInt8)), j ≤ M ∧ iv = .int .i64 (j : Int) ∧ Hid (ks = Sm.torn d.kept (d.ws.take j) ts) ∧ Hid (Tn nw ks nws (d.ws.take j)) ∧ Hid (Dk g kb nb wa wc lim lf nws { d with kept := ks } wr) ∧ Hid (Only (Kf g kb nb wa) w wr)) (fun iv _ => M - (ixOf iv).toNat)
  case atStart => exact ⟨0, d.kept, nw, by omega, rfl, rfl, Tn.start _ _, H.out, Only.refl _ _⟩
  case round =>
    obtain ⟨j, ks, nws, hj, rfl, HKS, HTN, HD, HO⟩ := hrel
    have HKL : Hid (ks.length = K) := by show _ = _; rw [HKS.out, Sm.torn_len, HK.out]
    by_cases hlt : j < M
    · have hjl : j < d.ws.length := by omega
      obtain ⟨b, ha, hwc, hrg⟩ := HD.out.wr_at j hjl
      have hx := HD.out.ok.w d.ws[j] (List.getElem_mem hjl)
      have hnx : Sm.torn d.kept (d.ws.take (j + 1)) ts = ks.set d.ws[j].i (d.ws[j].b.take (Sm.tear (ts[j]?)) ++ (ks.getD d.ws[j].i []).drop (Sm.tear (ts[j]?))) := by
        rw [← List.take_append_getElem hjl, Sm.torn_app, List.length_take, Nat.min_eq_left (by omega), ← HKS.out]
      have hts := HTN.out.step d.ws[j] hx.1 HD.out.nl (d.ws[j].b.take (Sm.tear (ts[j]?)) ++ (ks.getD d.ws[j].i []).drop (Sm.tear (ts[j]?)))
      rw [List.take_append_getElem hjl] at hts
      subst ha
      dsimp only at hx hrg
      generalize d.ws[j] = x at *
      obtain ⟨xi, xb⟩ := x
      dsimp only at hx hrg hnx hts
      obtain ⟨hx1, hx2⟩ := hx
      obtain ⟨n, hn⟩ : ∃ n, n = Sm.tear (ts[j]?) := ⟨_, rfl⟩
      have hn64 : n ≤ 64 := by rw [hn]; exact Sm.tear_le _
      rw [← hn] at hnx hts
      obtain ⟨s, hs⟩ : ∃ s, s = xb.take n ++ (ks.getD xi []).drop n := ⟨_, rfl⟩
      rw [← hs] at hnx hts
      have HNX : Hid (ks.set xi s = Sm.torn d.kept (d.ws.take (j + 1)) ts) := hnx.symm
      have HTS := Lib.hid hts
      obtain ⟨cs, hcs⟩ : ∃ cs, cs = yc xb := ⟨_, rfl⟩
      obtain ⟨C, hC⟩ : ∃ C : List Value, C = .int .i64 (xi : Int) :: cs := ⟨_, rfl⟩
      obtain ⟨cn, hcn⟩ : ∃ cn, cn = yc (xb.take n) := ⟨_, rfl⟩
      obtain ⟨sv, hsv⟩ : ∃ sv, sv = yc s := ⟨_, rfl⟩
      rw [← hcs, ← hC] at hrg
      have hl64 : cs.length = 64 := by rw [hcs, yc_length]; exact hx2
      have hl65 : C.length = 65 := by rw [hC, List.length_cons, hl64]
      have hlt' : (xb.take n).length = n := by rw [List.length_take]; omega
      have hcl : cn.length = n := by rw [hcn, yc_length]; exact hlt'
      have HRG := Lib.hid hrg
      have HI : Hid ((Try.prog.info? 89).map (·.size) = some C.length) := by show _ = _; rw [hl65]; exact infoW2
      have HAC : Hid (C.toArray.all (·.oneCell') = true) := all_oneCell_toArray (by
        rw [hC, hcs]
        intro v hv
        rcases List.mem_cons.1 hv with rfl | hv
        · rfl
        · exact yc_one _ v hv)
      have HCN1 : Hid (∀ v ∈ cn, v.oneCell' = true) := by show ∀ v ∈ cn, _; rw [hcn]; exact yc_one _
      have HL65 := Lib.hid hl65
      have HCS := Lib.hid hcs; have HC := Lib.hid hC; have HX1 : Hid (xi < ks.length) := hx1; have HX2 := Lib.hid hx2
      have HCN := Lib.hid hcn; have HS := Lib.hid hs; have HNN := Lib.hid hn; have HCL := Lib.hid hcl; have HL64 := Lib.hid hl64; have HSV := Lib.hid hsv; have HLT := Lib.hid hlt'
      have hxi : (xi : Int) < (K : Int) := by have := HKL.out; have := HX1.out; omega
      have hjM : (j : Int) < (M : Int) := by omega
      clear hnx hts hx1 hx2 hcs hC hl65 hrg HKS HTN hcn hs hn hcl hl64 hsv hlt'
      go_wp2_with (first
        | (with_reducible refine wpList_load_mid ?_ 89 (.tmp 16) ?_ b (j * 65) ?_ C _ ?_ Try.underlying89 ?_ ?_ ?_
           · rfl
           · rfl
           · rfl
           · exact HRG.out
           · rfl
           · exact HI.out)
        | (with_reducible refine wpList_alloc_of ?_ 89 ?_ (.agg A) A ?_ ?_ ?_
           · rfl
           · rfl
           · exact HZ.out
           · rfl)
        | (with_reducible refine wpList_store_last ?_ 89 (.tmp 5) (.tmp 17) ?_ wr A C.toArray ?_ ?_ ?_ ?_ ?_ ?_ ?_
           · rfl
           · rfl
           · rfl
           · rfl
           · rfl
           · exact HI.out
           · rw [HAS.out]; exact HL65.out.symm
           · exact HAC.out))
      obtain ⟨W1, hW1⟩ : ∃ W1, W1 = wr.alloc (.cells C.toArray 89) := ⟨_, rfl⟩
      have hgh : W1.heap[wr.heap.size]? = some (.cells C.toArray 89 (0, 0)) := by rw [hW1, heap_alloc_new]
      have HD1 : Hid (Dk g kb nb (some ⟨b, 0, none⟩) wc lim lf nws { d with kept := ks } W1.drew) := by
        show Dk _ _ _ _ _ _ _ _ _ _
        rw [hW1]; exact (HD.out.below ((Below.refl _ wr).alloc (Nat.le_refl _) _)).below (below_drew0 _)
      have HO1 : Hid (Only (Kf g kb nb (some ⟨b, 0, none⟩)) w W1.drew) := by
        show Only _ _ _
        rw [hW1]; exact (HO.out.alloc _).drew
      have hlh : kb ≠ wr.heap.size := by have := HD.out.kr.lt; omega
      have HNB : Hid (nb ≠ wr.heap.size) := by have := HD.out.nr.lt; exact (by omega : nb ≠ wr.heap.size)
      have hgk : g ≠ kb := HD.out.e1
      have p0 : W1.drew.cell? ⟨g, 0, none⟩ = some (.slice (some ⟨kb, 0, none⟩) K K) := by have := HD1.out.c0; dsimp only at this; rw [HKL.out] at this; exact this
      have p1 : W1.drew.cell? ⟨wr.heap.size, 0, none⟩ = some (.int .i64 (xi : Int)) := by
        rw [World.cell?_drew, Lib.cell_of_heap hgh, HC.out]; rfl
      have p2 : W1.drew.rangeAt wr.heap.size 1 cs := fun k v hv => by
        rw [World.cell?_drew, Lib.cell_of_heap hgh, HC.out]
        rw [List.getElem?_toArray, Nat.add_comm 1 k, List.getElem?_cons_succ]; exact hv
      have p3 : W1.drew.there kb (xi * 64) 64 := HD1.out.kr.th xi HX1.out
      have pT : It (.slice ta tn tc) ts W1.drew := it_only HT.out HO1.out (fun b2 e h0 hp => by
        cases ta with
        | none => cases e
        | some a => injection e with e; exact HTA.out h0 a rfl (by rw [e]; exact hp))
      have HKE : Hid (∀ W, It (.slice ta tn tc) ts W → Calls Try.prog 46 #[.slice ta tn tc, .int .i64 (j : Int)] W fun e w' => e = .returned (.int .i64 (n : Int)) ∧ W = w') := fun W hW => by rw [HNN.out]; exact sec_kept ta tn tc ts j W hW
      have hsub : ∀ k v, cn[k]? = some v → cs[k]? = some v := fun k v hv => by
        rw [HCN.out, yc_get, List.getElem?_take] at hv
        rw [HCS.out, yc_get]
        split at hv
        · exact hv
        · cases hv
      have HCP : Hid (∀ k v, cn[k]? = some v → W1.drew.cell? ((⟨wr.heap.size, 1, none⟩ : Addr).add k) = some v) := fun k v hv => by rw [add_pl]; exact p2 k v (hsub k v hv)
      have HTH : Hid (W1.drew.there kb (xi * 64) cn.length) := fun k hk => p3 k (by have := HCL.out; omega)
      have HMN : Hid (cn.length = Nat.min n 64) := by show _ = _; rw [HCL.out]; exact (Nat.min_eq_left hn64).symm
      obtain ⟨W2, hW2⟩ : ∃ W2, W2 = W1.drew.setCells kb (xi * 64) cn := ⟨_, rfl⟩
      have S0 := Lib.hid (show W1.drew.cell? ⟨g, 0, none⟩ = some (.slice (some ⟨kb, 0, none⟩) K K) ∧ W1.drew.cell? ⟨wr.heap.size, 0, none⟩ = some (.int .i64 (xi : Int)) ∧ Hid (It (.slice ta tn tc) ts W1.drew) from ⟨p0, p1, pT⟩)
      have hkb : ∀ b2, (Value.slice ta tn tc).ownBlock = some b2 → 0 < ts.length → b2 ≠ kb := fun b2 e h0 e2 => by
        cases ta with
        | none => cases e
        | some a => injection e with e; exact HTA.out h0 a rfl (.inr (.inl (by rw [e, e2])))
      have S1 := Lib.hid (show W2.cell? ⟨g, 0, none⟩ = some (.slice (some ⟨kb, 0, none⟩) K K) ∧ W2.cell? ⟨wr.heap.size, 0, none⟩ = some (.int .i64 (xi : Int)) ∧ Hid (It (.slice ta tn tc) ts W2) from
        ⟨by rw [hW2, World.cell?_setCells_out _ _ _ _ _ (fun e _ => absurd e hgk)]; exact p0, by rw [hW2, World.cell?_setCells_out _ _ _ _ _ (fun e _ => absurd e.symm hlh)]; exact p1, by
          rw [hW2]; exact it_only pT (Only.setCells (p := fun k => k = kb) (Only.refl _ _) (.inl rfl) _ _) hkb⟩)
      have HW2 := Lib.hid hW2
      rw [← hW1]
      clear hW1 hW2 hgh hlh hgk p0 p1 p2 p3 pT hsub hkb
      have hn64i : (n : Int) ≤ 64 := by omega
      go_upto_region 4 with (fail)
      go_region_held3 (fun w' => w'.cell? ⟨g, 0, none⟩ = some (.slice (some ⟨kb, 0, none⟩) K K) ∧ w'.cell? ⟨wr.heap.size, 0, none⟩ = some (.int .i64 (xi : Int)) ∧ Hid (It (.slice ta tn tc) ts w')) (first | exact S0.out | exact S1.out)
        (first
        | (go_at_call 46; refine (HKE.out _ S0.out.2.2.out).mono ?_; rintro e w5 ⟨rfl, rfl⟩)
        | (refine step_copy_cells rfl (.tmp 25) (.tmp 30) 39 39 rfl 5 Try.underlying39 (by kernel_rfl) kb (xi * 64) 64 64 ⟨wr.heap.size, 1, none⟩ n 64 (by rfl) (by rfl) cn HMN.out HCP.out HTH.out HCN1.out ?_; rw [← HW2.out]))
      have HD2 : Hid (Dk g kb nb (some ⟨b, 0, none⟩) wc lim lf nws { d with kept := ks.set xi s } W2) := by
        have h1 := HD1.out.setKept xi HX1.out (xb.take n) (by rw [HLT.out]; exact hn64)
        dsimp only at h1
        rw [HLT.out, ← HS.out, ← HCN.out, ← HW2.out] at h1
        exact h1
      have HO2 : Hid (Only (Kf g kb nb (some ⟨b, 0, none⟩)) w W2) := by
        show Only _ _ _
        rw [HW2.out]; exact HO1.out.setCells (.inl (.inr (.inl rfl))) _ _
      have HX3 : Hid (xi < (ks.set xi s).length) := by show _ < _; rw [List.length_set]; exact HX1.out
      have hs64 : s.length = 64 := by
        have := Sm.getD_64 HD2.out.ok.k (i := xi) HX3.out
        dsimp only at this
        rw [Sm.getD_set _ _ _ _ HX1.out, if_pos rfl] at this
        exact this
      have hsl : sv.length = 64 := by rw [HSV.out, yc_length]; exact hs64
      have hh0 : W2.cell? ⟨wr.heap.size, 0, none⟩ = some (.int .i64 (xi : Int)) := S1.out.2.1
      have hks : (ks.set xi s).length = K := by rw [List.length_set]; exact HKL.out
      have p0 : W2.drew.cell? ⟨g, 0, none⟩ = some (.slice (some ⟨kb, 0, none⟩) K K) := S1.out.1
      have p1 : W2.drew.cell? ⟨g, 1, none⟩ = some (.slice (some ⟨nb, 0, none⟩) K K) := by have := HD2.out.c1; dsimp only at this; rw [hks] at this; exact this
      have p2 : W2.drew.rangeAt kb (xi * 64) sv := by
        have := HD2.out.kr.cs xi HX3.out
        dsimp only at this
        rw [Sm.getD_set _ _ _ _ HX1.out, if_pos rfl, ← HSV.out] at this
        exact this
      have p3 : W2.drew.there nb (xi * 64) 64 := HD2.out.nr.th xi (by rw [HD2.out.nl]; exact HX3.out)
      have hnk : kb ≠ nb := HD2.out.e3
      have hgn : g ≠ nb := HD2.out.e2
      have hhn : nb ≠ wr.heap.size := HNB.out
      have T0 := Lib.hid (show W2.drew.cell? ⟨g, 0, none⟩ = some (.slice (some ⟨kb, 0, none⟩) K K) ∧ W2.drew.cell? ⟨g, 1, none⟩ = some (.slice (some ⟨nb, 0, none⟩) K K) ∧ W2.drew.cell? ⟨wr.heap.size, 0, none⟩ = some (.int .i64 (xi : Int)) ∧ W2.drew.rangeAt kb (xi * 64) sv ∧ W2.drew.there nb (xi * 64) 64 from ⟨p0, p1, hh0, p2, p3⟩)
      have T1 := Lib.hid (show (W2.drew.setCells nb (xi * 64) sv).cell? ⟨g, 0, none⟩ = some (.slice (some ⟨kb, 0, none⟩) K K) ∧ (W2.drew.setCells nb (xi * 64) sv).cell? ⟨g, 1, none⟩ = some (.slice (some ⟨nb, 0, none⟩) K K) ∧ (W2.drew.setCells nb (xi * 64) sv).cell? ⟨wr.heap.size, 0, none⟩ = some (.int .i64 (xi : Int)) ∧ (W2.drew.setCells nb (xi * 64) sv).rangeAt kb (xi * 64) sv ∧ (W2.drew.setCells nb (xi * 64) sv).there nb (xi * 64) 64 from
        ⟨by rw [World.cell?_setCells_out _ _ _ _ _ (fun e _ => absurd e hgn)]; exact p0, by rw [World.cell?_setCells_out _ _ _ _ _ (fun e _ => absurd e hgn)]; exact p1, by rw [World.cell?_setCells_out _ _ _ _ _ (fun e _ => absurd e.symm hhn)]; exact hh0, World.rangeAt_setCells_apart p2 _ _ _ (.inl hnk), World.there_setCells p3 _ _ _⟩)
      have HD3 : Hid (Dk g kb nb (some ⟨b, 0, none⟩) wc lim lf (nws.set xi s) { d with kept := ks.set xi s } (W2.drew.setCells nb (xi * 64) sv)) := by
        show Dk _ _ _ _ _ _ _ _ _ _
        rw [HSV.out]
        exact (HD2.out.below (below_drew0 _)).setNew xi HX3.out s hs64
      have HO3 : Hid (Only (Kf g kb nb (some ⟨b, 0, none⟩)) w (W2.drew.setCells nb (xi * 64) sv)) := HO2.out.drew.setCells (.inl (.inr (.inr (.inl rfl)))) _ _
      have hu := Try.underlying87
      have hi : (Try.prog.info? 87).map (·.size) = some sv.length := by rw [hsl]; exact infoB2
      have h1c : ∀ v ∈ sv, v.oneCell' = true := by rw [HSV.out]; exact yc_one _
      clear p0 p1 p2 p3 hnk hgn hhn hh0 hks hs64 HD2 HO2 S0 S1 HD1 HO1 HRG HI HAC HKE HCP HTH HMN
      go_upto_region 5 with (fail)
      go_region_held3 (fun w' => w'.cell? ⟨g, 0, none⟩ = some (.slice (some ⟨kb, 0, none⟩) K K) ∧ w'.cell? ⟨g, 1, none⟩ = some (.slice (some ⟨nb, 0, none⟩) K K) ∧ w'.cell? ⟨wr.heap.size, 0, none⟩ = some (.int .i64 (xi : Int)) ∧ w'.rangeAt kb (xi * 64) sv ∧ w'.there nb (xi * 64) 64) (first | exact T0.out | exact T1.out) (fail)
      clear T0 T1 hu hi h1c
      go_wp2
      go_roundw
      case rel => exact ⟨j + 1, ks.set xi s, nws.set xi s, by omega, by go_num, HNX, HTS, HD3, HO3⟩
      case measure => simp [ixOf]; omega
    · have hjm : j = M := by omega
      have hkf : ks = Sm.torn d.kept d.ws ts := by rw [HKS.out, hjm, HM.out, List.take_length]
      have htn : Tn nw ks nws d.ws := by have := HTN.out; rw [hjm, HM.out, List.take_length] at this; exact this
      have HNV := Lib.hid (htn.done HV.out H.out.ok hkf)
      have HKF := Lib.hid hkf
      have c2 := HD.out.c2
      have hfz := HD.out.fz
      have hlt2 := HD.out.lt
      dsimp only at c2
      rw [← HM.out] at c2
      have hdw := HD.out.setWs (wc' := 0) (wa' := none) (n' := 0) [] rfl (World.ownsRow_nil _ _ _ _) (fun a e => by cases e) (fun x hx => by cases hx)
      have c4 := hdw.c4
      have c5 : ((wr.setCell ⟨g, 2, none⟩ (.slice none 0 0)).setCell ⟨g, 4, none⟩ (.bool false)).cell? ⟨g, 5, none⟩ = some (.int .i64 lf) := (cell_keep _ _ _ _ _ (by decide)).trans hdw.c5
      have HDX := Lib.hid (hdw.setLim false 0 (-1) (fun _ => rfl) (fun e => by cases e))
      dsimp only at HDX
      have O3 : Hid (Only (Kf g kb nb wa) w (((wr.setCell ⟨g, 2, none⟩ (.slice none 0 0)).setCell ⟨g, 4, none⟩ (.bool false)).setCell ⟨g, 5, none⟩ (.int .i64 0))) := ((HO.out.setCell (q := ⟨g, 2, none⟩) (.inl (.inl rfl)) _).setCell (q := ⟨g, 4, none⟩) (.inl (.inl rfl)) _).setCell (q := ⟨g, 5, none⟩) (.inl (.inl rfl)) _
      clear HKS hjm HTN hkf htn hdw
      go_wp2
      go_end0
      have hd := HDX.out
      have hnv := HNV.out
      rw [HKF.out] at hd hnv
      exact ⟨rfl, O3.out, none, 0, false, 0, nws, hd, hnv, fun k hk => .inl (by
        rcases hk with hk | hk | hk | ⟨_, e, _⟩
        · exact .inl hk
        · exact .inr (.inl hk)
        · exact .inr (.inr (.inl hk))
        · cases e)⟩
end Go.Proofs.Ytofbignggadkiaa
