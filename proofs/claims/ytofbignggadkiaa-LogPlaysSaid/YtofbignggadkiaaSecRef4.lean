/- The reference of layer 6: Flush. -/
import Derived.Test.YtofbignggadkiaaSecRa
import Derived.BigRegion
import Derived.BigQuiet
import Derived.Deep.DeepCutAuto
import Derived.Deep.CutBlock
namespace Go.Proofs.Ytofbignggadkiaa
open Go.RowKit

theorem sc_set : ∀ (l : List (List UInt8)) (i : Nat) (b : List UInt8), (sc l).set i (.string (st b)) = sc (l.set i b) := fun l i b => by unfold sc; rw [List.map_set]
theorem Dr.setKept {g kb kc wc : Nat} {wa : Option Addr} {d : Sm.Dv} {w : World} (h : Dr g kb kc wa wc d w) (i : Nat) (b : List UInt8) (s : ByteArray) (hs : s = st b) : Dr g kb kc wa wc { d with kept := d.kept.set i b } (w.setCell ⟨kb, i, none⟩ (.string s)) := by
  subst hs
  have hl : (d.kept.set i b).length = d.kept.length := by simp
  have other : ∀ o, (w.setCell ⟨kb, i, none⟩ (.string (st b))).cell? ⟨g, o, none⟩ = w.cell? ⟨g, o, none⟩ := fun o => World.cell?_setCell_other w ⟨kb, i, none⟩ ⟨g, o, none⟩ _ (fun e => by injection e with e1 _; exact h.ne e1)
  refine ⟨?_, (other 1).trans h.c1, (other 2).trans h.c2, (other 3).trans h.c3, fun o => by have := h.fz o; simpa using this, by have := h.lt; simpa using this, ?_, h.ne, h.ws.set kb i _ (fun a n c e => (h.wne a (by injection e)).2), h.wne⟩
  · show _ = some (Value.slice (some ⟨kb, 0, none⟩) (d.kept.set i b).length kc)
    rw [hl]; exact (other 0).trans h.c0
  · show (w.setCell ⟨kb, i, none⟩ (.string (st b))).ownsRow 0 9 1 (.slice (some ⟨kb, 0, none⟩) (d.kept.set i b).length kc) (d.kept.set i b).length (sc (d.kept.set i b))
    rw [hl, ← sc_set]; exact (h.kr.stored i _).1
/-- which blocks a device of the reference may change -/
def Fp (g kb : Nat) : Nat → Prop := fun k => k = g ∨ k = kb
theorem Dr.keepO {g kb kc wc : Nat} {wa : Option Addr} {d : Sm.Dv} {w w' : World} {p : Nat → Prop} (h : Dr g kb kc wa wc d w) (ho : Only p w w') (hg : ¬ p g) (hk : ¬ p kb) (hw : ∀ a, wa = some a → ¬ p a.block) : Dr g kb kc wa wc d w' := by
  have hb := ho.block g h.lt hg
  have hc : ∀ o, w'.cell? ⟨g, o, none⟩ = w.cell? ⟨g, o, none⟩ := fun o => by simp [World.cell?, hb]
  have hf : ∀ o, w'.frozen? ⟨g, o, none⟩ = w.frozen? ⟨g, o, none⟩ := fun o => by simp [World.frozen?, hb]
  refine ⟨(hc 0).trans h.c0, (hc 1).trans h.c1, (hc 2).trans h.c2, (hc 3).trans h.c3, fun o => (hf o).trans (h.fz o), by have := h.lt; have := ho.size; omega, ?_, h.ne, ?_, h.wne⟩
  · obtain ⟨h1, h2⟩ := h.kr
    refine ⟨h1, ?_⟩
    rcases h2 with h2 | ⟨b, cap, cur, hv, hB, hg2, rest⟩
    · exact .inl h2
    · injection hv with e1 e2 e3
      injection e1 with e1
      injection e1 with e1 _
      subst e1
      exact .inr ⟨kb, cap, cur, by rw [e3], hB, by rw [ho.block kb (heap_lt hg2) hk]; exact hg2, rest⟩
  · rcases h.ws with h2 | ⟨b, off, cap, e, hc2, hg2, hcell⟩
    · exact .inl h2
    · refine .inr ⟨b, off, cap, e, hc2, by have := ho.size; omega, fun i u hi => ?_⟩
      injection e with e1 _ _
      have hb2 := ho.block b hg2 (hw _ e1)
      rw [← hcell i u hi]
      simp [World.cell?, hb2]
set_option maxHeartbeats 4000000 in
set_option maxRecDepth 100000 in
theorem ref6_flush (g kb kc wc : Nat) (wa : Option Addr) (d : Sm.Dv) (w : World) (h : Dr g kb kc wa wc d w) (hok : Sm.Ok d) (hw : d.ws.length ≤ 1000) (hc : 0 ≤ d.calls ∧ d.calls ≤ 1000000) (hf : -1 ≤ d.left ∧ d.left ≤ 9223372036854775807) :
    Calls Try.prog 41 #[.pointer (some ⟨g, 0, none⟩)] w fun e w' => e = .returned (.int .i64 (Sm.flush d).2) ∧ Only (Fp g kb) w w' ∧ ∃ wa' wc', Dr g kb kc wa' wc' (Sm.flush d).1 w' ∧ (wa' = wa ∨ wa' = none) := by
  have H := Lib.hid h
  have HC : Hid (∀ W, Dr g kb kc wa wc d W → Calls Try.prog 44 #[.pointer (some ⟨g, 0, none⟩), .int .i64 0, .string ⟨#[]⟩] W fun e w' => e = .returned (.int .i64 (Sm.check d 0 0)) ∧ W = w') := fun W hW => ref6_check g kb kc wc wa d 0 ⟨#[]⟩ W hW (by decide)
  by_cases hk : Sm.check d 0 0 = 0
  case neg =>
    have HR : Hid (Sm.flush d = (d, Sm.check d 0 0)) := by show _ = _; unfold Sm.flush; rw [if_neg hk]
    have q : (Sm.check d 0 0 == 0) = false := by rw [beq_eq_false_iff_ne]; exact hk
    rw [HR.out]
    clear HR h hk
    generalize Sm.check d 0 0 = E at *
    go_enter Try.func41, Try.ntmps41
    go_wp2_with fail
    refine (HC.out _ H.out).mono ?_
    rintro e w1 ⟨rfl, rfl⟩
    go_wp2
    go_ret
    exact ⟨rfl, Only.refl _ _, wa, wc, H.out, .inl rfl⟩
  have HR : Hid (Sm.flush d = (Sm.count { d with kept := Sm.apply d.kept d.ws, ws := [] }, 0)) := by show _ = _; unfold Sm.flush; rw [if_pos hk]
  rw [hk] at HC
  rw [HR.out]
  have c0 := h.c0; have c1 := h.c1; have fz := h.fz; have lt := h.lt
  obtain ⟨K, hK⟩ : ∃ K, K = d.kept.length := ⟨_, rfl⟩
  obtain ⟨M, hM⟩ : ∃ M, M = d.ws.length := ⟨_, rfl⟩
  rw [← hK] at c0
  rw [← hM] at c1
  have HK := Lib.hid hK
  have HM := Lib.hid hM
  have M1 : M ≤ d.ws.length := by omega
  have M2 : d.ws.length ≤ M := by omega
  have HOK := Lib.hid hok
  clear HR hk h hM hK hok
  go_enter Try.func41, Try.ntmps41
  go_wp2_with fail
  refine (HC.out _ H.out).mono ?_
  rintro e w1 ⟨rfl, rfl⟩
  go_wp2_with fail
  go_loopw [15] (fun iv wr => ∃ (j : Nat) (ks : List (List UInt8)), j ≤ M ∧ iv = .int .i64 (j : Int) ∧ Hid (ks = Sm.apply d.kept (d.ws.take j)) ∧ Hid (Dr g kb kc wa wc { d with kept := ks } wr) ∧ Hid (Only (Fp g kb) w wr)) (fun iv _ => M - (ixOf iv).toNat)
  case atStart => exact ⟨0, d.kept, by omega, rfl, rfl, H.out, Only.refl _ _⟩
  case round =>
    obtain ⟨j, ks, hj, rfl, HKS, HD, HO⟩ := hrel
    have hks : ks.length = K := by rw [HKS.out, Sm.apply_len, HK.out]
    have HKL := Lib.hid hks
    by_cases hlt : j < M
    · have hjl : j < d.ws.length := by omega
      obtain ⟨b, off, ha, hg, e0, e1⟩ := Wv.at HD.out.ws j hjl
      have hx := HOK.out.w d.ws[j] (List.getElem_mem hjl)
      have hnx : Sm.apply d.kept (d.ws.take (j + 1)) = (Sm.apply d.kept (d.ws.take j)).set d.ws[j].i d.ws[j].b := by
        have h2 : ∀ (l : List Sm.Wr) (x : Sm.Wr) (k : List (List UInt8)), Sm.apply k (l ++ [x]) = (Sm.apply k l).set x.i x.b := by
          intro l
          induction l with
          | nil => intros; rfl
          | cons y r ih => intro x k; rw [List.cons_append, Sm.apply, Sm.apply, ih]
        rw [← List.take_append_getElem hjl, h2]
      rw [← HKS.out] at hnx
      subst ha
      dsimp only at e0 e1
      generalize d.ws[j] = x at *
      obtain ⟨xi, xb⟩ := x
      dsimp only at e0 e1 hx hnx
      have hxi : (xi : Int) < (K : Int) := by have := HK.out; omega
      have HNX : Hid (ks.set xi xb = Sm.apply d.kept (d.ws.take (j + 1))) := hnx.symm
      have HD1 := Lib.hid (HD.out.keep ((Below.refl _ wr).alloc (Nat.le_refl _) (.cells #[.int .i64 (xi : Int), .string (st xb)] 91)))
      have HO1 := Lib.hid (HO.out.alloc (.cells #[.int .i64 (xi : Int), .string (st xb)] 91))
      have d0 := HD1.out.c0
      dsimp only at d0
      rw [hks] at d0
      have k0 := HD1.out.sector xi (by show xi < ks.length; have := HKL.out; omega)
      have kf := HD1.out.kr.frozenAt xi
      obtain ⟨S, hS⟩ : ∃ S, S = st xb := ⟨_, rfl⟩
      have HS := Lib.hid hS
      rw [← hS] at e1 d0 k0 kf HD1 HO1
      have gl : g < wr.heap.size := HD.out.lt
      clear hnx hks hx hS
      go_upto_region 6 with (fail)
      go_region
      go_wp2
      refine ⟨⟨j + 1, ks.set xi xb, by omega, by go_num, HNX, ?_, ?_⟩, by simp [ixOf]; omega⟩
      · exact (HD1.out.setKept xi xb S HS.out).keep ⟨rfl, rfl, rfl, Nat.le_refl _, fun _ _ => rfl⟩
      · exact (HO1.out.setCell (q := ⟨kb, xi, none⟩) (.inl (.inr rfl)) _).drew
    · have hjm : j = M := by omega
      have HKF : Hid (ks = Sm.apply d.kept d.ws) := by show _ = _; rw [HKS.out, hjm, HM.out, List.take_length]
      have HD1 := HD.out.c1
      have hfz := HD.out.fz
      have hlt2 := HD.out.lt
      dsimp only at HD1
      rw [← HM.out] at HD1
      have HDW := Lib.hid (HD.out.setWs (wc' := 0) (a' := none) [] 0 rfl (.inl ⟨_, _, rfl, rfl⟩) (fun a e => by cases e))
      dsimp only at HDW
      have HN := Lib.hid (ref6_count g kb kc 0 none _ _ HDW.out hc hf)
      have O3 : Hid (Only (Fp g kb) w (wr.setCell ⟨g, 1, none⟩ (.slice none 0 0))) := HO.out.setCell (q := ⟨g, 1, none⟩) (.inl (.inl rfl)) _
      clear HKS hjm
      go_wp2_with fail
      refine HN.out.mono ?_
      rintro e w4 ⟨rfl, hd, ho⟩
      go_wp2
      go_ret
      rw [HKF.out] at hd
      exact ⟨rfl, O3.out.trans (ho.mono fun i _ e => .inl e), none, 0, hd, .inr rfl⟩
end Go.Proofs.Ytofbignggadkiaa
