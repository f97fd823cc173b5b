/- Package tree: the functions that From and Back hand back, for every loop body. -/
import Derived.Test.YtdchapcpimhjaaaTreF4
namespace Go.Proofs.Ytdchapcpimhjaaa
open Go.RowKit Go.Shelf

attribute [local go_sem] Oper.semAt_some

theorem yield_any {m : Nat} (m' : Nat) {P : Program} {l : Nat} {args : Array Value} {W : World} {R : Ending → World → Prop} (h : YieldAt Fence.wide m P l args W R) : YieldAt Fence.wide m' P l args W R := by
  obtain ⟨fn, tmps, assign, body, hy, hR⟩ := h
  exact ⟨fn, tmps, assign, body, hy, hR.1, fun c cs _ => hR.2 c cs (room_wide _)⟩
set_option maxHeartbeats 2000000 in
set_option maxRecDepth 100000 in
theorem tre_from1 {ex : Nat → Prop} {m Bt Bk h lo : Nat} {v : Value} {t : Tm.T} {k : Tm.K} {w : World} (hp : Tp ex v h t w) (hlo : h = 0 ∨ 1 ≤ lo) (hw : Tm.Wf h lo t) (ha : Tm.Asc (Tm.flat h t))
    (hbt : w.cell? ⟨Bt, 0, none⟩ = some v) (hbk : w.cell? ⟨Bk, 0, none⟩ = some (.string (bstr k))) (hlt : Bt < w.heap.size) (hlk : Bk < w.heap.size) :
    SeqStopsK Fence.wide (m + 1) Try.prog 41 #[.pointer (some ⟨Bt, 0, none⟩), .pointer (some ⟨Bk, 0, none⟩)] en8 (Only ex)
      (fun xs => xs = Tm.from_ (Tm.flat h t) k) (fun pre => pre <+: Tm.from_ (Tm.flat h t) k) (Tm.from_ (Tm.flat h t) k).length w := fun l J Jx W hbw hJ _ hY h0 => by
  have hY2 : ∀ m', Yl8 ex m' l (Tm.from_ (Tm.flat h t) k).length J Jx := fun m' pre x W1 hj hl => yield_any m' (hY pre x W1 hj hl)
  have HTP := Lib.hid (hp.below hbw)
  obtain ⟨L, hL⟩ : ∃ L, L = Tm.from_ (Tm.flat h t) k := ⟨_, rfl⟩
  have HFR : Hid (∀ w1 p m', Below W.heap.size W w1 → Tn ex h p t w1 → CallsIn Fence.wide m' Try.prog 43 #[.pointer (some ⟨p, 0, none⟩), .string (bstr k), .func (.yield l) #[] #[]] w1 fun e w2 => ∃ b : Bool, e = .returned (.bool b) ∧ Hid (L = L ∧ ((∃ xs, xs = L ∧ J xs w2) ∨ ∃ pre, pre <+: L ∧ Jx pre w2))) := fun w1 p m' hb hT => by
    refine (tre_from hJ hY2 (pre0 := []) hT hlo hw ha (by simp) (ab8 hJ h0 hb)).mono ?_
    rintro e w2 (⟨rfl, h1, _⟩ | ⟨rfl, q, h1, h2⟩)
    · exact ⟨true, rfl, rfl, .inl ⟨_, rfl, by rw [hL]; simpa using h1⟩⟩
    · exact ⟨false, rfl, rfl, .inr ⟨q, by rw [hL]; exact h1, by simpa using h2⟩⟩
  rw [← hL]
  have HCE : Hid (∀ w1, Below W.heap.size W w1 → w1.cell? ⟨Bt, 0, none⟩ = some v ∧ w1.cell? ⟨Bk, 0, none⟩ = some (.string (bstr k))) := fun w1 hb =>
    ⟨((hbw.trans (hb.mono hbw.size)).cell (p := ⟨Bt, 0, none⟩) hlt).trans hbt, ((hbw.trans (hb.mono hbw.size)).cell (p := ⟨Bk, 0, none⟩) hlk).trans hbk⟩
  clear hY hY2 hp hbw hJ h0 hL hw ha hbt hbk hlo
  generalize bstr k = S at *
  refine callsIn_of_wp Try.func41 rfl trivial ?_ rfl
  simp only [Try.ntmps41, List.size_toArray, List.length_cons, List.length_nil, Nat.reduceAdd, Nat.reduceSub, Array.replicate_succ, Array.replicate_zero, List.push_toArray, List.append_toArray, List.nil_append, List.cons_append]
  gi_wp2_with fail
  have hmix : Try.prog.follows .mixedOrders = true := by kernel_rfl
  obtain ⟨ct, ck⟩ := HCE.out W.drew (below_dr8 W)
  gi_region_with_o (first
    | ((try refine ⟨trivial, ?_⟩); (try refine ⟨fun h => (by cases h), ?_⟩); refine (callsIn_wide.2 (HTP.out W.drew (below_dr8 W))).mono ?_; rintro e w1 ⟨p, rfl, hT, hb1⟩; have ck1 := (HCE.out w1 ((below_dr8 W).trans (hb1.mono (Nat.le_refl _)))).2)
    | ((try refine ⟨trivial, ?_⟩); (try refine ⟨fun h => (by cases h), ?_⟩); refine (HFR.out w1 p _ ((below_dr8 W).trans (hb1.mono (Nat.le_refl _))) hT.out).mono ?_; rintro e w2 ⟨b, rfl, hE⟩))
  all_goals
    have HE := Lib.hid hE.out.2
    clear hE hT hb1 HFR HTP HCE
    gi_wp2
    go_end0
    exact ⟨⟨_, rfl⟩, HE.out⟩
end Go.Proofs.Ytdchapcpimhjaaa
