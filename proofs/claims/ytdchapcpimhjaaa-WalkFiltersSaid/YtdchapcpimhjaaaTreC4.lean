/- Package tree: leaf, inner. -/
import Derived.Test.YtdchapcpimhjaaaTreC3
import Derived.OwnWalk
import Derived.Laws.OwnMore
namespace Go.Proofs.Ytdchapcpimhjaaa
open Go.RowKit

theorem Tm.keys_head : ∀ {h : Nat} {t : Tm.T}, Tm.Wf h 4 t → (Tm.keys h t).getD 0 [] = Tm.fk h t ∧ 0 < (Tm.keys h t).length
  | 0, .inner _, h => h.elim
  | _ + 1, .leaf _, h => h.elim
  | 0, .leaf l, hw => by
    have h4 := hw.1
    cases l with
    | nil => simp at h4
    | cons a r => exact ⟨rfl, Nat.succ_pos _⟩
  | h + 1, .inner ks, hw => by
    have h4 : 4 ≤ ks.length := hw.1
    cases ks with
    | nil => simp at h4
    | cons a r =>
      refine ⟨?_, Nat.succ_pos _⟩
      obtain ⟨v, r2, e⟩ := Tm.fk_head (Tm.wf_ne (hw.2.2 a List.mem_cons_self))
      show Tm.fk h a = Tm.fk (h + 1) (.inner (a :: r))
      rw [show Tm.fk (h + 1) (.inner (a :: r)) = ((Tm.flats h (a :: r)).head?.map (·.1)).getD [] from rfl, Tm.flats_cons, e]
      rfl
theorem tre_leaf {ex : Nat → Prop} {l : List Tm.E} {ka va : Option Addr} {kc vc : Nat} {W : World} {n m : Nat} (hn : n = l.length) (hm : m = l.length) (hk : Rv ex ka n kc (sk (l.map (·.1))) W) (hv : Rv ex va m vc (iv (l.map (·.2))) W) (hx : ¬ ex W.heap.size) (hkc : kc ≤ 64) (hvc : vc ≤ 64) (hfk : Fm ka n kc) (hfv : Fm va m vc) :
    Calls Try.prog 68 #[.slice ka n kc, .slice va m vc] W fun e w' => e = .returned (ptr W.heap.size) ∧ Tn ex 0 W.heap.size (.leaf l) w' ∧ Below W.heap.size W w' := by
  subst hn hm
  have HT : Hid (∀ w', w' = W.alloc (.cells #[.slice ka l.length kc, .slice va l.length vc, .slice none 0 0, .int .i64 (l.length : Int)] 90) → Tn ex 0 W.heap.size (.leaf l) w' ∧ Below W.heap.size W w') := fun w' e => by
    subst e
    have hb := one_b8 W (.cells #[.slice ka l.length kc, .slice va l.length vc, .slice none 0 0, .int .i64 (l.length : Int)] 90)
    exact ⟨⟨l, rfl, hx, ka, kc, va, vc, none, 0, heap_alloc_new W _, hk.below hb, hv.below hb, ⟨hkc, hvc, by omega⟩, hfk, hfv⟩, hb⟩
  clear hk hv hx hkc hvc hfk hfv
  generalize l.length = n at *
  go_enter Try.func68, Try.ntmps68
  go_wp2
  go_ret
  exact ⟨rfl, HT.out _ rfl⟩
theorem add_pl8 (g off j : Nat) : (⟨g, off, none⟩ : Addr).add j = ⟨g, off + j, none⟩ := by unfold Addr.add; split <;> simp_all
theorem own_keep_of {w w' : World} {B : Nat} {e : TypeId} {size n : Nat} {v : Value} {xs : List Value} (h : w.ownsRow B e size v n xs) (hb : Below w.heap.size w w') : w'.ownsRow B e size v n xs := by
  obtain ⟨h1, h2⟩ := h
  refine ⟨h1, ?_⟩
  rcases h2 with h2 | ⟨g, cap, cur, hv, hB, hg, rest⟩
  · exact .inl h2
  · exact .inr ⟨g, cap, cur, hv, hB, by rw [hb.block g (heap_lt hg)]; exact hg, rest⟩
theorem info1st8 : (Try.prog.info? 9).map (fun i => (i.zero, i.size, i.bytes)) = some (some (.string ⟨#[]⟩), 1, 16) := by kernel_rfl
/-- behind some children: the keys so far, the node -/
structure InS (h : Nat) (W : World) (g p : Nat) (ba : Option Addr) (n bc : Nat) (ks : List Tm.T) (i : Nat) (wr : World) : Prop where
  own : wr.ownsRow W.heap.size 9 1 (.slice (some ⟨g, 0, none⟩) n n) n (sk ((ks.take i).map (Tm.fk h)) ++ List.replicate (n - i) (.string ⟨#[]⟩))
  nb : wr.heap[p]? = some (.cells #[.slice (some ⟨g, 0, none⟩) n n, .slice none 0 0, .slice ba n bc, .int .i64 ((Tm.flats h (ks.take i)).length : Int)] 90 (0, 0))
  ne : g < p
  gg : W.heap.size ≤ g
  b : Below W.heap.size W wr
theorem InS.stepKey {h : Nat} {W wr : World} {g p : Nat} {ba : Option Addr} {n bc : Nat} {ks : List Tm.T} {i : Nat} (hi : InS h W g p ba n bc ks i wr) (hn : i < ks.length) (hnk : n = ks.length) (x : Value) (hx : x = .string (bstr (Tm.fk h (ks.getD i (.leaf []))))) (w2 : World) (hw2 : w2 = (wr.setCell ⟨g, i, none⟩ x).drew) :
    w2.ownsRow W.heap.size 9 1 (.slice (some ⟨g, 0, none⟩) n n) n (sk ((ks.take (i + 1)).map (Tm.fk h)) ++ List.replicate (n - (i + 1)) (.string ⟨#[]⟩)) ∧ w2.heap[p]? = some (.cells #[.slice (some ⟨g, 0, none⟩) n n, .slice none 0 0, .slice ba n bc, .int .i64 ((Tm.flats h (ks.take i)).length : Int)] 90 (0, 0)) ∧ Below W.heap.size W w2 := by
  subst hw2
  have ho : wr.ownsRow W.heap.size 9 1 (.slice (some ⟨g, 0, none⟩) n n) n (sk ((ks.take i).map (Tm.fk h)) ++ List.replicate (n - i) (.string ⟨#[]⟩)) := hi.own
  have hst := (ho.stored i x).1
  refine ⟨?_, ?_, ?_⟩
  · have e : (sk ((ks.take i).map (Tm.fk h)) ++ List.replicate (n - i) (Value.string ⟨#[]⟩)).set i x = sk ((ks.take (i + 1)).map (Tm.fk h)) ++ List.replicate (n - (i + 1)) (.string ⟨#[]⟩) := by
      have hl : (sk ((ks.take i).map (Tm.fk h))).length = i := by simp [sk]; omega
      rw [List.set_append_right _ _ (by omega), hl, Nat.sub_self, show n - i = (n - (i + 1)) + 1 by omega, List.replicate_succ, List.set_cons_zero, hx]
      have : ks.take (i + 1) = ks.take i ++ [ks.getD i (.leaf [])] := by
        rw [List.take_add_one, List.getElem?_eq_getElem hn]
        simp [List.getD, List.getElem?_eq_getElem hn]
      rw [this]
      simp [sk]
    rw [← e]; exact hst
  · show (wr.setCell ⟨g, i, none⟩ x).heap[p]? = _
    rw [Below.heap_setCell _ _ _ _ (by have := hi.ne; show p ≠ g; omega)]
    exact hi.nb
  · have hb := hi.b
    exact ⟨hb.os, hb.tape, hb.output, by show W.heap.size ≤ (wr.setCell _ x).heap.size; simpa [World.setCell] using hb.size, fun k hk => (Below.heap_setCell _ _ _ _ (by have := hi.gg; show k ≠ g; omega)).trans (hb.block k hk)⟩
theorem own_set_other {w : World} {B : Nat} {e : TypeId} {g n c : Nat} {vs : List Value} (h : w.ownsRow B e 1 (.slice (some ⟨g, 0, none⟩) n c) n vs) (a : Addr) (x : Value) (ha : a.block ≠ g) : (w.setCell a x).ownsRow B e 1 (.slice (some ⟨g, 0, none⟩) n c) n vs := by
  obtain ⟨h1, h2⟩ := h
  refine ⟨h1, ?_⟩
  rcases h2 with ⟨e, _⟩ | ⟨b, cap, cur, hv, hB, hg, rest⟩
  · cases e
  · have hv' := hv
    injection hv' with e1 e2 e3
    injection e1 with e1
    injection e1 with e1
    subst e1
    exact .inr ⟨g, cap, cur, hv, hB, by rw [Below.heap_setCell _ _ _ _ (Ne.symm ha)]; exact hg, rest⟩
theorem InS.done {h : Nat} {W w2 : World} {g p : Nat} {ba : Option Addr} {n bc : Nat} {ks : List Tm.T} {i : Nat} {s0 s1 : Int} (hne : g < p) (hgg : W.heap.size ≤ g)
    (ho : w2.ownsRow W.heap.size 9 1 (.slice (some ⟨g, 0, none⟩) n n) n (sk ((ks.take (i + 1)).map (Tm.fk h)) ++ List.replicate (n - (i + 1)) (.string ⟨#[]⟩)))
    (hn : w2.heap[p]? = some (.cells #[.slice (some ⟨g, 0, none⟩) n n, .slice none 0 0, .slice ba n bc, .int .i64 s0] 90 (0, 0))) (hb : Below W.heap.size W w2) (hs1 : s1 = ((Tm.flats h (ks.take (i + 1))).length : Int)) :
    InS h W g p ba n bc ks (i + 1) (w2.setCell ⟨p, 3, none⟩ (.int .i64 s1)).drew := by
  refine ⟨own_set_other ho ⟨p, 3, none⟩ _ (by show p ≠ g; omega), ?_, hne, hgg, ⟨hb.os, hb.tape, hb.output, by show W.heap.size ≤ (w2.setCell _ _).heap.size; simpa [World.setCell] using hb.size, fun k hk => (Below.heap_setCell _ _ _ _ (by show k ≠ p; omega)).trans (hb.block k hk)⟩⟩
  show (w2.setCell ⟨p, 3, none⟩ (.int .i64 s1)).heap[p]? = _
  rw [← hs1]
  have hl := heap_lt hn
  simp [World.setCell, hl]
  rw [Array.getElem_modify, if_pos rfl, (Array.getElem?_eq_some_iff.1 hn).2]
  rfl
set_option maxHeartbeats 4000000 in
set_option maxRecDepth 100000 in
theorem tre_inner {ex : Nat → Prop} {h n bc : Nat} {ba : Option Addr} {ks : List Tm.T} {ps : List Nat} {W : World} (hb : Rv ex ba n bc (pv ps) W) (hl : ps.length = ks.length) (hn1 : 1 ≤ n) (hn : n ≤ 20) (hbc64 : bc ≤ 64) (hk : ∀ j, j < n → Tn ex h (ps.getD j 0) (ks.getD j (.leaf [])) W) (hw : ∀ t ∈ ks, Tm.Wf h 4 t) (hs : (Tm.flats h ks).length ≤ 1000000) (hex : ∀ k, W.heap.size ≤ k → ¬ ex k) :
    Calls Try.prog 65 #[.slice ba n bc] W fun e w' => ∃ p, e = .returned (ptr p) ∧ Tn ex (h + 1) p (.inner ks) w' ∧ Below W.heap.size W w' := by
  obtain ⟨i0, hi0, hz0, hz1, hz2⟩ := info_of8 info1st8
  have HI0 := Lib.hid hi0; have HZ0 := Lib.hid hz0; have HZ1 := Lib.hid hz1; have HZ2 := Lib.hid hz2
  have hnp : n = ps.length := by have := hb.ln; simpa [pv] using this
  have hnk : n = ks.length := by omega
  obtain ⟨bg, boff, hba, hbc, hbg, hbcell⟩ := hb.at (by omega)
  have HBC : Hid (∀ j, j < n → W.cell? ⟨bg, boff + j, none⟩ = some (ptr (ps.getD j 0))) := fun j hj => by rw [hbcell j hj, pv_get ps (by omega)]
  have HB := Lib.hid hb; have HK := Lib.hid hk; have HW := Lib.hid hw; have HSZ := Lib.hid hs; have HEX := Lib.hid hex; have HNK := Lib.hid hnk; have HL := Lib.hid hl; have HCP : Hid (Cp n 0 bc) := ⟨by omega, by omega, hbc64⟩
  subst hba
  clear hbc64 hb hl hk hw hs hex hbcell hi0 hz0 hz1 hz2 hnp hnk
  go_enter Try.func65, Try.ntmps65
  go_wp2_with (at_make; refine wpList_make_full _ rfl (.tmp 8) (.tmp 8) 22 rfl W.heap.size 9 i0 (.string ⟨#[]⟩) 1 Try.underlying22 HI0.out HZ0.out HZ1.out .i64 .i64 (n : Int) (n : Int) n rfl rfl rfl rfl ?ma ?mb ?mc ?_)
  case ma => rw [HZ2.out]; omega
  case mb => unfold maxLen; omega
  case mc => exact Nat.le_refl _
  intro w1 hown hgrow
  obtain ⟨g, hg⟩ : ∃ g, g = W.heap.size := ⟨_, rfl⟩
  obtain ⟨p, hp⟩ : ∃ p, p = w1.heap.size := ⟨_, rfl⟩
  have hb1 : Below W.heap.size W w1 := (Below.refl _ W).grown hgrow (Nat.le_refl _) (fun k e => by cases e)
  have hgp : g < p := by have := (hown.lt W.heap.size rfl).2; omega
  rw [toList_madeCells_one] at hown
  have HIN : Hid (InS h W g p (some ⟨bg, boff, none⟩) n bc ks 0 (w1.alloc (.cells #[.slice (some ⟨g, 0, none⟩) n n, .slice none 0 0, .slice (some ⟨bg, boff, none⟩) n bc, .int .i64 0] 90))) := by
    have hb2 := one_b8 w1 (.cells #[.slice (some ⟨g, 0, none⟩) n n, .slice none 0 0, .slice (some ⟨bg, boff, none⟩) n bc, .int .i64 0] 90)
    refine ⟨?_, ?_, hgp, by omega, hb1.trans (hb2.mono hb1.size)⟩
    · simpa [sk, hg] using own_keep_of hown hb2
    · rw [hp]; exact heap_alloc_new w1 _
  have HEX2 : Hid (W.heap.size ≤ g ∧ g < p) := ⟨by omega, hgp⟩
  go_upto_region 2 with (fail)
  rw [← hg, ← hp]
  clear hown hgrow hb1 hgp
  have HG := Lib.hid hg
  clear hg hp
  go_wp2_with fail
  go_loopw [4, 5, 14] (fun _ _ iv wr => ∃ i : Nat, i ≤ n ∧ iv = .int .i64 (i : Int) ∧ Hid (InS h W g p (some ⟨bg, boff, none⟩) n bc ks i wr)) (fun _ _ iv _ => n - (ixOf iv).toNat)
  case atStart => exact ⟨0, Nat.zero_le _, rfl, HIN.out⟩
  case round =>
    clear HIN
    obtain ⟨i, hi, rfl, HI⟩ := hrel
    have hwr := HI.out.b.size
    by_cases hlt : i < n
    · have hiI : (i : Int) < (n : Int) := by omega
      have hil : i < ks.length := by rw [← HNK.out]; exact hlt
      obtain ⟨q, hq⟩ : ∃ q, q = ps.getD i 0 := ⟨_, rfl⟩
      obtain ⟨t, ht⟩ : ∃ t, t = ks.getD i (.leaf []) := ⟨_, rfl⟩
      have htn := HK.out i hlt
      have hcell := (HI.out.b.cell (p := ⟨bg, boff + i, none⟩) hbg).trans (HBC.out i hlt)
      have hwt := HW.out _ (Tm.getD_mem hil)
      rw [← hq] at hcell
      rw [← hq, ← ht] at htn
      rw [← ht] at hwt
      obtain ⟨hkh, hkp⟩ := Tm.keys_head hwt
      have hqx := htn.lt.1
      obtain ⟨ka, kc, va, vn, vc, b2, bn, bc2, hnb, hrk, _, _, _⟩ := htn.node
      obtain ⟨kg, koff, rfl, hkc, hkg, hkcell⟩ := hrk.at hkp
      have hk0 := hkcell 0 hkp
      rw [sk_get _ hkp, hkh, Nat.add_zero] at hk0
      obtain ⟨kn, hkn⟩ : ∃ kn, kn = (Tm.keys h t).length := ⟨_, rfl⟩
      obtain ⟨sz, hsz⟩ : ∃ sz : Int, sz = ((Tm.flat h t).length : Int) := ⟨_, rfl⟩
      obtain ⟨X, hX⟩ : ∃ X, X = bstr (Tm.fk h t) := ⟨_, rfl⟩
      rw [← hX] at hk0
      unfold ptr at hcell
      have HTI := Lib.hid (show Tm.flats h (ks.take (i + 1)) = Tm.flats h (ks.take i) ++ Tm.flat h t from by
        rw [List.take_add_one, List.getElem?_eq_getElem hil, ht, Tm.flats_app]
        simp only [Option.toList_some, Tm.flats_one, List.getD, List.getElem?_eq_getElem hil, Option.getD_some])
      obtain ⟨s0, hs0⟩ : ∃ s0 : Int, s0 = ((Tm.flats h (ks.take i)).length : Int) := ⟨_, rfl⟩
      obtain ⟨s1, hs1⟩ : ∃ s1 : Int, s1 = ((Tm.flats h (ks.take (i + 1))).length : Int) := ⟨_, rfl⟩
      have hss : s0 + sz = s1 := by rw [hs0, hs1, hsz, HTI.out, List.length_append]; omega
      have hsb : 0 ≤ s0 ∧ 0 ≤ sz ∧ s1 ≤ 1000000 := by
        have h1 := HSZ.out
        have h2 : (Tm.flats h (ks.take (i + 1))).length ≤ (Tm.flats h ks).length := by
          conv => rhs; rw [← List.take_append_drop (i + 1) ks, Tm.flats_app, List.length_append]
          omega
        omega
      obtain ⟨hsb0, hsb1, hsb2⟩ := hsb
      have q0 : W.cell? ⟨q, 0, none⟩ = some (.slice (some ⟨kg, koff, none⟩) kn kc) := by rw [Lib.cell_of_heap hnb, hkn]; rfl
      have q3 : W.cell? ⟨q, 3, none⟩ = some (.int .i64 sz) := by rw [Lib.cell_of_heap hnb, hsz]; rfl
      have hk1 : 0 < kn := by omega
      have hk2 : (0 : Int) < (kn : Int) := by omega
      have hkc2 : kn ≤ kc := by omega
      -- the key
      have S0 : Hid (wr.cell? ⟨p, 0, none⟩ = some (.slice (some ⟨g, 0, none⟩) n n) ∧ wr.cell? ⟨q, 0, none⟩ = some (.slice (some ⟨kg, koff, none⟩) kn kc) ∧ wr.cell? ⟨kg, koff, none⟩ = some (.string X)) :=
        ⟨by rw [Lib.cell_of_heap HI.out.nb]; rfl, (HI.out.b.cell (p := ⟨q, 0, none⟩) hqx).trans q0, (HI.out.b.cell (p := ⟨kg, koff, none⟩) hkg).trans hk0⟩
      obtain ⟨w2, hw2⟩ : ∃ w2, w2 = (wr.setCell ⟨g, i, none⟩ (.string X)).drew := ⟨_, rfl⟩
      have hst := HI.out.stepKey hil HNK.out (.string X) (by rw [hX, ht]) w2 hw2
      have S1 : Hid (w2.cell? ⟨p, 0, none⟩ = some (.slice (some ⟨g, 0, none⟩) n n) ∧ w2.cell? ⟨q, 0, none⟩ = some (.slice (some ⟨kg, koff, none⟩) kn kc) ∧ w2.cell? ⟨kg, koff, none⟩ = some (.string X)) :=
        ⟨by rw [Lib.cell_of_heap hst.2.1]; rfl, (hst.2.2.cell (p := ⟨q, 0, none⟩) hqx).trans q0, (hst.2.2.cell (p := ⟨kg, koff, none⟩) hkg).trans hk0⟩
      have gcell : wr.cell? ⟨g, i, none⟩ = some (.string ⟨#[]⟩) := by
        have h1 := HI.out.own.cells (g := g) rfl i (.string ⟨#[]⟩) (by
          have hl : (sk ((ks.take i).map (Tm.fk h))).length = i := by simp [sk]; omega
          rw [List.getElem?_append_right (by omega), hl, Nat.sub_self, List.getElem?_replicate, if_pos (by omega)])
        rw [add_pl8, Nat.zero_add] at h1
        exact h1
      have gfz : ∀ o, wr.frozen? ⟨g, o, none⟩ = false := fun o => by
        obtain ⟨_, h2⟩ := HI.out.own
        rcases h2 with ⟨e, _⟩ | ⟨b, cap, cur, e, _, hg2, _⟩
        · cases e
        · injection e with e1
          injection e1 with e1
          injection e1 with e1
          subst e1
          exact Lib.frozen_of_heap (w := wr) hg2 o
      have glt : g < wr.heap.size := (HI.out.own.lt g rfl).2
      have HS0 := Lib.hid hs0; have HS1 := Lib.hid hs1
      have HST := Lib.hid hst; have HW2 := Lib.hid hw2
      have Q3 := Lib.hid q3
      clear hst hnb hrk hkcell htn hwt hkh hkp hX hq ht hkn hk0 q0 q3 hsz hs0 hs1 hkg
      go_upto_region 5 with (fail)
      go_region_held3 (fun w' => w'.cell? ⟨p, 0, none⟩ = some (.slice (some ⟨g, 0, none⟩) n n) ∧ w'.cell? ⟨q, 0, none⟩ = some (.slice (some ⟨kg, koff, none⟩) kn kc) ∧ w'.cell? ⟨kg, koff, none⟩ = some (.string X)) (first | exact S0.out | (rw [← HW2.out]; exact S1.out)) (fail)
      rw [← HW2.out]
      have p3 : w2.cell? ⟨p, 3, none⟩ = some (.int .i64 s0) := by rw [Lib.cell_of_heap HST.out.2.1, HS0.out]; rfl
      have q3 : w2.cell? ⟨q, 3, none⟩ = some (.int .i64 sz) := (HST.out.2.2.cell (p := ⟨q, 3, none⟩) hqx).trans Q3.out
      have pfz : ∀ o, w2.frozen? ⟨p, o, none⟩ = false := fun o => Lib.frozen_of_heap (w := w2) HST.out.2.1 o
      clear gcell gfz S0 S1 hcell hw2 HW2
      go_upto_region 6 with (fail)
      go_region
      have HI2 := Lib.hid (InS.done HEX2.out.2 HEX2.out.1 HST.out.1 HST.out.2.1 HST.out.2.2 HS1.out)
      clear p3 q3 pfz HST
      go_wp2_with fail
      go_roundw
      case rel => exact ⟨i + 1, by omega, by go_num, HI2⟩
      case measure => simp [ixOf]; omega
    · have hie : i = n := by omega
      have hln : ¬ (i : Int) < (n : Int) := by omega
      have HEND : Hid (Tn ex (h + 1) p (.inner ks) wr ∧ Below W.heap.size W wr) := by
        obtain ⟨h1, h2, h3, h4, h5⟩ := HI.out
        have e1 : ks.take i = ks := List.take_of_length_le (by rw [hie, HNK.out]; exact Nat.le_refl _)
        rw [e1] at h1 h2
        rw [hie, Nat.sub_self, List.replicate_zero, List.append_nil] at h1
        have hrv := Rv.of_own h1 HEX.out
        refine ⟨⟨ks, ps, rfl, HEX.out _ (by omega), HL.out, ⟨some ⟨g, 0, none⟩, n, none, 0, some ⟨bg, boff, none⟩, bc, ?_, ?_, ?_, HCP.out⟩, fun j hj => (HK.out j (by rw [HNK.out]; exact hj)).below h5⟩, h5⟩
        · unfold Nb; rw [← HNK.out]; exact h2
        · rw [← HNK.out]; exact hrv
        · rw [← HNK.out]; exact HB.out.below h5
      clear HI hie hlt
      go_wp2
      go_ret
      exact ⟨p, rfl, HEND.out⟩
end Go.Proofs.Ytdchapcpimhjaaa
