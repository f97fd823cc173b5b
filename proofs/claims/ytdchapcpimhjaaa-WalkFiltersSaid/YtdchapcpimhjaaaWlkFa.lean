/- Layer 9: what a tree hands out from a key on, to a loop that is told what comes. -/
import Derived.RangeFuncWrites
import Derived.RangeFuncBound
import Derived.RangeFuncCalls
import Derived.RangeFuncLeaves
import Derived.Shelf.Abstract
import Derived.Shelf.RegionOpen
import Derived.WalkKit
import Derived.OwnWalkIn
import Derived.TacticsInMore
import Derived.LoopNIn
import Derived.LoopIn
import Derived.BigRegionIn
import Derived.Test.YtdchapcpimhjaaaTreG1
import Derived.Test.YtdchapcpimhjaaaWlkL
import Derived.Test.YtdchapcpimhjaaaTreF6
namespace Go.Proofs.Ytdchapcpimhjaaa
open Go.RowKit Go.Shelf

attribute [local go_sem] Oper.semAt_some

/-- what abides new blocks -/
def Ab9 {β : Type} (J : β → World → Prop) : Prop := ∀ s W W', J s W → Below W.heap.size W W' → J s W'
theorem ab9 {β : Type} {J : β → World → Prop} {s : β} {W W' : World} (hJ : Ab9 J) (h : J s W) (hb : Below W.heap.size W W') : J s W' := hJ s W W' h hb
/-- a pair as a loop body gets it -/
def en9 (x : Tm.E) : Array Value := #[.string (bstr x.1), .int .i64 x.2]
/-- what a loop body is known to do, at each pair -/
def Yl9 (ex : Nat → Prop) (m l : Nat) (L0 : List Tm.E) (J Jx : List Tm.E → World → Prop) : Prop :=
  ∀ pre x W1, J pre W1 → pre ++ [x] <+: L0 → YieldAt Fence.wide m Try.prog l (en9 x) W1 fun e W' =>
    (e = .returned (.bool true) ∧ J (pre ++ [x]) W' ∧ Only ex W1 W') ∨ (e = .returned (.bool false) ∧ Jx (pre ++ [x]) W')
/-- how a part of a walk ends -/
def Fr9 (ex : Nat → Prop) (J Jx : List Tm.E → World → Prop) (pre0 L : List Tm.E) (W : World) (e : Ending) (W' : World) : Prop :=
  (e = .returned (.bool true) ∧ J (pre0 ++ L) W' ∧ Only ex W W') ∨ (e = .returned (.bool false) ∧ ∃ pre, pre <+: L ∧ Jx (pre0 ++ pre) W')
set_option maxHeartbeats 2000000 in
set_option maxRecDepth 100000 in
theorem wlk_fromL {ex : Nat → Prop} {p m ly : Nat} {l L0 : List Tm.E} {k : Tm.K} {J Jx : List Tm.E → World → Prop} {pre0 : List Tm.E} {W : World} (ht : Tn ex 0 p (.leaf l) W) (hc : l.length ≤ 8) (ha : Tm.Asc l) (hJ : Ab9 J)
    (hY : Yl9 ex m ly L0 J Jx) (hN : pre0 ++ Tm.from_ l k <+: L0) (h0 : J pre0 W) :
    CallsIn Fence.wide (m + 1) Try.prog 43 #[ptr p, .string (bstr k), .func (.yield ly) #[] #[]] W (Fr9 ex J Jx pre0 (Tm.from_ l k) W) := by
  have HKID := Lib.hid (tre_hasKids ht)
  have hak := Tm.keys_asc 0 (.leaf l) trivial ha
  have HF0 := tre_find k ht (show l.length ≤ 100 by omega) hak
  have hrk := (Tm.rank_leaf l k ha).2
  obtain ⟨l', el, hxp, ka, kc, va, vc, ba, bc, hnb, hk, hv, hcp⟩ := ht
  injection el with el
  subst el
  have hfl := Tm.fnd_le (l.map (·.1)) k
  rw [List.length_map] at hfl
  obtain ⟨f, hf⟩ : ∃ f, f = Tm.fnd (l.map (·.1)) k := ⟨_, rfl⟩
  obtain ⟨o, ho⟩ : ∃ o, o = Tm.fok (l.map (·.1)) k := ⟨_, rfl⟩
  rw [show Tm.keys 0 (.leaf l) = l.map (·.1) from rfl, ← hf, ← ho] at HF0
  rw [← hf] at hrk hfl
  rw [hrk] at hN ⊢
  obtain ⟨n, hn⟩ : ∃ n, n = l.length := ⟨_, rfl⟩
  rw [← hn] at hnb hk hv hfl hc
  have HF : Hid (Calls Try.prog 63 #[.pointer (some ⟨p, 0, none⟩), .string (bstr k)] W fun e w' => e = .returned (.tuple #[.int .i64 (f : Int), .bool o]) ∧ Below W.heap.size W w') := HF0
  have HK : Hid (Calls Try.prog 61 #[.pointer (some ⟨p, 0, none⟩)] W fun e w' => e = .returned (.bool false) ∧ W = w') := HKID.out
  have p0 : W.cell? ⟨p, 0, none⟩ = some (.slice ka n kc) := by rw [Lib.cell_of_heap hnb]; rfl
  have p1 : W.cell? ⟨p, 1, none⟩ = some (.slice va n vc) := by rw [Lib.cell_of_heap hnb]; rfl
  have hpl : p < W.heap.size := heap_lt hnb
  -- what a round reads
  have HRD : Hid (∀ wr, Only ex W wr → wr.cell? ⟨p, 0, none⟩ = some (.slice ka n kc) ∧ wr.cell? ⟨p, 1, none⟩ = some (.slice va n vc) ∧ ∀ j, j < n → ∃ (kg koff vg voff : Nat) (X : ByteArray) (x : Int) (e : Tm.E), ka = some ⟨kg, koff, none⟩ ∧ va = some ⟨vg, voff, none⟩ ∧ n ≤ kc ∧ n ≤ vc ∧ wr.cell? ⟨kg, koff + j, none⟩ = some (.string X) ∧ wr.cell? ⟨vg, voff + j, none⟩ = some (.int .i64 x) ∧ Hid (X = bstr e.1 ∧ x = e.2 ∧ l[j]? = some e)) := fun wr ho' => by
    refine ⟨(cell_only8 ho' (q := ⟨p, 0, none⟩) hpl hxp).trans p0, (cell_only8 ho' (q := ⟨p, 1, none⟩) hpl hxp).trans p1, fun j hj => ?_⟩
    obtain ⟨kg, koff, rfl, hkc, hkg, hkx, hkcell⟩ := hk.row (by omega)
    obtain ⟨vg, voff, rfl, hvc, hvg, hvx, hvcell⟩ := hv.row (by omega)
    have hjl : j < l.length := by omega
    refine ⟨kg, koff, vg, voff, bstr l[j].1, l[j].2, l[j], rfl, rfl, hkc, hvc, (cell_only8 ho' (q := ⟨kg, koff + j, none⟩) hkg hkx).trans ?_, (cell_only8 ho' (q := ⟨vg, voff + j, none⟩) hvg hvx).trans ?_, rfl, rfl, List.getElem?_eq_getElem hjl⟩
    · rw [hkcell j hj, sk_get _ (by simpa using hjl)]
      simp [List.getD, List.getElem?_eq_getElem hjl]
    · rw [hvcell j hj, iv_get _ (by simpa using hjl)]
      simp [List.getD, List.getElem?_eq_getElem hjl]
  have HTK : Hid (∀ j e, f ≤ j → l[j]? = some e → (l.drop f).take (j - f) ++ [e] = (l.drop f).take (j + 1 - f) ∧ ((l.drop f).take (j - f)).length < (l.drop f).length) := fun j e hj he => by
    have hjl : j < l.length := (List.getElem?_eq_some_iff.1 he).1
    constructor
    · rw [show j + 1 - f = (j - f) + 1 by omega, List.take_add_one, List.getElem?_drop, show f + (j - f) = j by omega, he]
      rfl
    · rw [List.length_take, List.length_drop]; omega
  have HN := Lib.hid hN
  have HLE : Hid (∀ j, n ≤ j → f ≤ j → (l.drop f).take (j - f) = l.drop f) := fun j hj hfj => List.take_of_length_le (by rw [List.length_drop]; omega)
  have HJ := Lib.hid hJ; have HY := Lib.hid hY; have H0 := Lib.hid h0
  clear HKID HF0 hnb hk hv hcp hak hrk hf ho p0 p1 hxp hN hJ hY h0 hn ha
  generalize bstr k = S at *
  unfold ptr
  refine callsIn_of_wp Try.func43 rfl trivial ?_ rfl
  simp only [Try.ntmps43, List.size_toArray, List.length_cons, List.length_nil, Nat.reduceAdd, Nat.reduceSub, Array.replicate_succ, Array.replicate_zero, List.push_toArray, List.append_toArray, List.nil_append, List.cons_append]
  gi_wp2_with fail
  refine ⟨trivial, (callsIn_wide.2 HK.out).mono ?_⟩
  rintro e w0 ⟨rfl, rfl⟩
  gi_wp2_with fail
  refine ⟨trivial, (callsIn_wide.2 HF.out).mono ?_⟩
  rintro e w1 ⟨rfl, hb1⟩
  have HO1 : Hid (Only ex W w1) := only_of8 hb1
  have HJ1 : Hid (J (pre0 ++ (l.drop f).take (f - f)) w1) := by
    show J _ _
    rw [Nat.sub_self, List.take_zero, List.append_nil]
    exact ab9 HJ.out H0.out hb1
  clear hb1
  gi_wp2_with fail
  gi_loopw [11] (fun iv wr => ∃ j : Nat, f ≤ j ∧ j ≤ n ∧ iv = .int .i64 (j : Int) ∧ Hid (J (pre0 ++ (l.drop f).take (j - f)) wr) ∧ Hid (Only ex W wr)) (fun iv _ => n - (ixOf iv).toNat)
  case atStart => exact ⟨f, Nat.le_refl _, hfl, rfl, HJ1.out, HO1.out⟩
  case round =>
    clear HJ1 HO1 H0
    obtain ⟨j, hfj, hj, rfl, HJr, HOr⟩ := hrel
    obtain ⟨c0, c1, hcell⟩ := HRD.out wr HOr.out
    by_cases hlt : j < n
    case neg =>
      have hjI : ¬ (j : Int) < (n : Int) := by omega
      have HE : Hid (Fr9 ex J Jx pre0 (l.drop f) W (.returned (.bool true)) wr) := .inl ⟨rfl, by
        have := HJr.out
        rw [HLE.out j (by omega) hfj] at this
        exact this, HOr.out⟩
      clear HRD HTK HLE hcell HJr HOr hlt
      gi_wp2
      go_ret
      exact HE.out
    case pos =>
      obtain ⟨kg, koff, vg, voff, X, x, e, rfl, rfl, hkc, hvc, k0, v0, HX⟩ := hcell j hlt
      have hjI : (j : Int) < (n : Int) := by omega
      have hb : Below wr.heap.size wr wr.drew := below_dr8 wr
      obtain ⟨ht1, ht2⟩ := HTK.out j e hfj HX.out.2.2
      obtain ⟨fn, tmps, assign, body, hyy, hR⟩ := HY.out _ e wr.drew (ab9 HJ.out HJr.out hb) (by rw [List.append_assoc, ht1]; exact ((List.prefix_append_right_inj _).2 (List.take_prefix _ _)).trans HN.out)
      simp only [en9, ← HX.out.1, ← HX.out.2.1] at hyy
      have HR : Hid (RoundIn Fence.wide m Try.prog ly fn tmps assign body wr.drew fun e1 W' => ∃ b : Bool, e1 = .returned (.bool b) ∧ Hid ((b = true → J (pre0 ++ (l.drop f).take (j - f) ++ [e]) W' ∧ Only ex wr.drew W') ∧ (b = false → Jx (pre0 ++ (l.drop f).take (j - f) ++ [e]) W'))) := hR.mono fun e1 W' h => by
        rcases h with ⟨rfl, h1, h2⟩ | ⟨rfl, h1⟩
        · exact ⟨true, rfl, fun _ => ⟨h1, h2⟩, fun h => (by cases h)⟩
        · exact ⟨false, rfl, fun h => (by cases h), fun _ => h1⟩
      have HT := Lib.hid ht1
      clear hcell hR ht1 ht2 hb HJr
      gi_wp2_with fail
      have hmix : Try.prog.follows .mixedOrders = true := by kernel_rfl
      gi_region_with_o ((try refine ⟨fun h => (by cases h), ?_⟩); refine HR.out.mono ?_; rintro e1 W1 ⟨b, rfl, hB⟩)
      all_goals
        have HB := Lib.hid hB.out
        clear hB HR hmix
        cases b with
        | true =>
          obtain ⟨h1, h2⟩ := HB.out.1 rfl
          have HJ2 : Hid (J (pre0 ++ (l.drop f).take (j + 1 - f)) W1) := by
            show J _ _
            rw [← HT.out, ← List.append_assoc]; exact h1
          have HO2 : Hid (Only ex W W1) := (HOr.out.trans (only_of8 (below_dr8 wr))).trans h2
          clear HB h1 h2 HX hyy k0 v0 c0 c1
          gi_wp2_with fail
          go_roundw
          case rel => exact ⟨j + 1, by omega, by omega, by go_num, HJ2, HO2⟩
          case measure => simp [ixOf]; omega
        | false =>
          have HF2 : Hid (Fr9 ex J Jx pre0 (l.drop f) W (.returned (.bool false)) W1) := .inr ⟨rfl, (l.drop f).take (j + 1 - f), List.take_prefix _ _, by
            have := HB.out.2 rfl
            rw [List.append_assoc, HT.out] at this
            exact this⟩
          clear HB HX hyy k0 v0 c0 c1
          gi_wp2
          go_ret
          exact HF2.out
end Go.Proofs.Ytdchapcpimhjaaa
/- Layer 9: what any node hands out from a key on. -/
namespace Go.Proofs.Ytdchapcpimhjaaa
open Go.RowKit Go.Shelf

attribute [local go_sem] Oper.semAt_some

theorem fr9_app (A C : List Tm.E) (k : Tm.K) : Tm.from_ (A ++ C) k = Tm.from_ A k ++ Tm.from_ C k := by simp [Tm.from_]
theorem fr9_lo {A : List Tm.E} {k : Tm.K} (h : Tm.Lo A k) : Tm.from_ A k = [] := by
  unfold Tm.from_
  rw [List.filter_eq_nil_iff]
  intro p hp
  rw [h p hp]; decide
set_option maxHeartbeats 2000000 in
set_option maxRecDepth 100000 in
theorem wlk_from {ex : Nat → Prop} {ly : Nat} {k : Tm.K} {L0 : List Tm.E} {J Jx : List Tm.E → World → Prop} (hJ : Ab9 J) (hY : ∀ m, Yl9 ex m ly L0 J Jx) : ∀ {h lo p m : Nat} {t : Tm.T} {pre0 : List Tm.E} {W : World}, Tn ex h p t W → (h = 0 ∨ 1 ≤ lo) → Tm.Wf h lo t → Tm.Asc (Tm.flat h t) →
    pre0 ++ Tm.from_ (Tm.flat h t) k <+: L0 → J pre0 W →
    CallsIn Fence.wide m Try.prog 43 #[ptr p, .string (bstr k), .func (.yield ly) #[] #[]] W (Fr9 ex J Jx pre0 (Tm.from_ (Tm.flat h t) k) W)
  | 0, _, _, _, .inner _, _, _, ht, _, _, _, _, _ => by obtain ⟨l, e, _⟩ := ht; cases e
  | _ + 1, _, _, _, .leaf _, _, _, ht, _, _, _, _, _ => by obtain ⟨l, ps, e, _⟩ := ht; cases e
  | 0, lo, p, m, .leaf l, pre0, W, ht, _, hw, ha, hN, h0 => callsIn_wide.2 (callsIn_wide.1 (wlk_fromL ht hw.2 ha hJ (hY m) hN h0))
  | h + 1, lo, p, m, .inner ks, pre0, W, ht, hlo, hw, ha, hN, h0 => by
    obtain ⟨h1, h2, h3⟩ := hw
    have hlo1 : 1 ≤ lo := by omega
    have HKID := Lib.hid (tre_hasKids ht)
    have hkd : decide (0 < (Tm.T.inner ks).ks.length) = true := decide_eq_true (show 0 < ks.length by omega)
    rw [hkd] at HKID
    have HK : Hid (Calls Try.prog 61 #[.pointer (some ⟨p, 0, none⟩)] W fun e w' => e = .returned (.bool true) ∧ W = w') := HKID.out
    have hak := Tm.keys_asc (h + 1) (.inner ks) h3 ha
    obtain ⟨i, hi⟩ : ∃ i, i = Tm.chd (ks.map (Tm.fk h)) k := ⟨_, rfl⟩
    obtain ⟨hil, hA, hC, hfl⟩ := Tm.split (i := i) k h3 (by omega) ha hi
    have HC : Hid (∀ w, Below W.heap.size W w → Calls Try.prog 62 #[.pointer (some ⟨p, 0, none⟩), .string (bstr k)] w fun e w' => e = .returned (.int .i64 (i : Int)) ∧ Below w.heap.size w w') := fun w hbw => by
      have := tre_child k (ht.below hbw) (show ks.length ≤ 100 by omega) hak
      rw [show Tm.keys (h + 1) (.inner ks) = ks.map (Tm.fk h) from rfl, ← hi] at this
      exact this
    obtain ⟨L, hL⟩ : ∃ L, L = Tm.from_ (Tm.flat (h + 1) (.inner ks)) k := ⟨_, rfl⟩
    rw [← hL] at hN ⊢
    have hLd : L = Tm.from_ (Tm.flats h (ks.drop i)) k := by
      rw [hL, Tm.flat_succ]
      conv => lhs; rw [← List.take_append_drop i ks, Tm.flats_app, fr9_app, fr9_lo hA, List.nil_append]
    obtain ⟨n, hn⟩ : ∃ n, n = ks.length := ⟨_, rfl⟩
    have HQ : Hid (∀ j, i + j < n → Tm.from_ (Tm.flats h ((ks.drop i).take (j + 1))) k = Tm.from_ (Tm.flats h ((ks.drop i).take j)) k ++ Tm.from_ (Tm.flat h (ks.getD (i + j) (.leaf []))) k ∧ Tm.from_ (Tm.flats h ((ks.drop i).take (j + 1))) k <+: L) := fun j hj => by
      have hjl : i + j < ks.length := by omega
      constructor
      · rw [List.take_add_one, List.getElem?_drop, List.getElem?_eq_getElem hjl, Tm.flats_app, fr9_app]
        simp only [Option.toList_some, Tm.flats_one, List.getD, List.getElem?_eq_getElem hjl, Option.getD_some]
      · refine ⟨Tm.from_ (Tm.flats h ((ks.drop i).drop (j + 1))) k, ?_⟩
        rw [← fr9_app, ← Tm.flats_app, List.take_append_drop, hLd]
    have HQE : Hid (∀ j, n ≤ i + j → Tm.from_ (Tm.flats h ((ks.drop i).take j)) k = L) := fun j hj => by
      rw [List.take_of_length_le (by rw [List.length_drop]; omega), hLd]
    have HQ0 : Hid (Tm.from_ (Tm.flats h ((ks.drop i).take 0)) k = []) := by show _ = _; simp [Tm.flats, Tm.from_]
    obtain ⟨bg, boff, bc, p2, hbc, hbc64, hbg, hpl, hkid⟩ := ht.each (by omega)
    have HKD : Hid (∀ w j m pre, Only ex W w → i + j < n → pre ++ Tm.from_ (Tm.flat h (ks.getD (i + j) (.leaf []))) k <+: L0 → J pre w → ∃ y, w.cell? ⟨bg, boff + i + j, none⟩ = some (.pointer (some ⟨y, 0, none⟩)) ∧ Hid (CallsIn Fence.wide m Try.prog 43 #[.pointer (some ⟨y, 0, none⟩), .string (bstr k), .func (.yield ly) #[] #[]] w (Fr9 ex J Jx pre (Tm.from_ (Tm.flat h (ks.getD (i + j) (.leaf []))) k) w))) := fun w j m pre ho hj hpN hpJ => by
      obtain ⟨y, hyc, hyT⟩ := hkid (i + j) (by omega)
      have hbx : ¬ ex bg := by
        obtain ⟨ks', ps, el, hxp, hpl2, ⟨ka, kc, va, vc, ba, bc', hnb, hk, hv, hcp⟩, hj'⟩ := ht
        injection el with el
        subst el
        rw [Lib.cell_of_heap hnb] at p2
        injection p2 with p2
        injection p2 with e1 e2 e3
        subst e1
        obtain ⟨g', off', e, _, _, hx, _⟩ := hv.row (by omega)
        injection e with e
        injection e with e
        rw [e]; exact hx
      refine ⟨y, ?_, ?_⟩
      · rw [show boff + i + j = boff + (i + j) by omega]
        exact (cell_only8 ho (q := ⟨bg, boff + (i + j), none⟩) hbg hbx).trans hyc
      · have hjl : i + j < ks.length := by omega
        refine wlk_from hJ hY (hyT.keep ho) (.inr (show 1 ≤ 4 by decide)) (h3 _ (Tm.getD_mem hjl)) ?_ hpN hpJ
        have := ha
        rw [Tm.flat_succ, Tm.flats_split h ks hjl] at this
        exact (Tm.asc_app (Tm.asc_app this).2.1).1
    rw [← hn] at p2 hbc hil
    have HN := Lib.hid hN; have HJ := Lib.hid hJ; have H0 := Lib.hid h0
    have hP2 : Hid (∀ w, Below W.heap.size W w → w.cell? ⟨p, 2, none⟩ = some (.slice (some ⟨bg, boff, none⟩) n bc)) := fun w hb => (hb.cell (p := ⟨p, 2, none⟩) hpl).trans p2
    have hi0 : (0 : Int) ≤ (i : Int) := by omega
    have hin : (i : Int) ≤ (n : Int) := by omega
    have hnb : (n : Int) ≤ (bc : Int) := by omega
    have hbi : ¬ bc = i := by omega
    have hn8 : n ≤ 8 := by omega
    clear HKID hak ht h1 h3 hlo hlo1 hkd hi hA hC hfl ha hN h0 hL hLd hn hkid p2 h2
    generalize bstr k = S at *
    unfold ptr
    refine callsIn_of_wp Try.func43 rfl trivial ?_ rfl
    simp only [Try.ntmps43, List.size_toArray, List.length_cons, List.length_nil, Nat.reduceAdd, Nat.reduceSub, Array.replicate_succ, Array.replicate_zero, List.push_toArray, List.append_toArray, List.nil_append, List.cons_append]
    gi_wp2_with fail
    refine ⟨trivial, fun h => (by cases h), (callsIn_wide.2 HK.out).mono ?_⟩
    rintro e w0 ⟨rfl, rfl⟩
    gi_wp2_with fail
    have hmix : Try.prog.follows .mixedOrders = true := by kernel_rfl
    have pd := hP2.out W.drew (below_dr8 W)
    gi_region_with_o ((try refine ⟨trivial, ?_⟩); (try refine ⟨fun h => (by cases h), ?_⟩); refine (callsIn_wide.2 (HC.out W.drew (below_dr8 W))).mono ?_; rintro e w1 ⟨rfl, hb1⟩; have pd1 := hP2.out w1 ((below_dr8 W).trans (hb1.mono (Nat.le_refl _))))
    all_goals
      have hbw : Below W.heap.size W w1 := (below_dr8 W).trans (hb1.mono (Nat.le_refl _))
      have HO1 : Hid (Only ex W w1) := only_of8 hbw
      have HJ1 : Hid (J (pre0 ++ Tm.from_ (Tm.flats h ((ks.drop i).take 0)) k) w1) := by
        show J _ _
        rw [HQ0.out, List.append_nil]
        exact ab9 HJ.out H0.out hbw
      obtain ⟨r, hr⟩ : ∃ r, r = n - i := ⟨_, rfl⟩
      obtain ⟨c2, hc2⟩ : ∃ c2, c2 = bc - i := ⟨_, rfl⟩
      rw [← hr, ← hc2]
      have hrn : i + r = n := by omega
      have hrc : r ≤ c2 := by omega
      have hr8 : r ≤ 8 := by omega
      clear hb1 hbw pd pd1 hmix hr hc2 H0 HQ0 hP2
      gi_wp2_with fail
      gi_loopw [23] (fun iv wr => ∃ j : Nat, j ≤ r ∧ iv = .int .i64 (j : Int) ∧ Hid (J (pre0 ++ Tm.from_ (Tm.flats h ((ks.drop i).take j)) k) wr) ∧ Hid (Only ex W wr)) (fun iv _ => r - (ixOf iv).toNat)
      case atStart => exact ⟨0, Nat.zero_le _, rfl, HJ1.out, HO1.out⟩
      case round =>
        clear HJ1 HO1
        obtain ⟨j, hj, rfl, HJr, HOr⟩ := hrel
        by_cases hlt : j < r
        case neg =>
          have hjI : ¬ (j : Int) < (r : Int) := by omega
          have HE : Hid (Fr9 ex J Jx pre0 L W (.returned (.bool true)) wr) := .inl ⟨rfl, by
            have := HJr.out
            rw [HQE.out j (by omega)] at this
            exact this, HOr.out⟩
          clear HQ HQE HKD HJr HOr hlt
          gi_wp2
          go_ret
          exact HE.out
        case pos =>
          have hjI : (j : Int) < (r : Int) := by omega
          obtain ⟨hq1, hq2⟩ := HQ.out j (by omega)
          obtain ⟨y, yc, HFR⟩ := HKD.out wr j (m - 1) _ HOr.out (by omega) (by
            rw [List.append_assoc, ← hq1]
            exact ((List.prefix_append_right_inj _).2 hq2).trans HN.out) HJr.out
          have HQ1 := Lib.hid hq1; have HQ2 := Lib.hid hq2
          clear HKD HQ HQE hq1 hq2 HJr
          gi_wp2_with fail
          refine ⟨trivial, fun h => (by cases h), HFR.out.mono ?_⟩
          rintro e1 w2 (⟨rfl, hJ2, hO2⟩ | ⟨rfl, q, hq, hx⟩)
          · have HJ2 : Hid (J (pre0 ++ Tm.from_ (Tm.flats h ((ks.drop i).take (j + 1))) k) w2) := by
              show J _ _
              rw [HQ1.out, ← List.append_assoc]; exact hJ2
            have HO2 : Hid (Only ex W w2) := HOr.out.trans hO2
            clear hJ2 hO2 HFR HOr yc
            gi_wp2_with fail
            go_roundw
            case rel => exact ⟨j + 1, by omega, by go_num, HJ2, HO2⟩
            case measure => simp [ixOf]; omega
          · have HF2 : Hid (Fr9 ex J Jx pre0 L W (.returned (.bool false)) w2) := .inr ⟨rfl, Tm.from_ (Tm.flats h ((ks.drop i).take j)) k ++ q, by
              refine List.IsPrefix.trans ?_ HQ2.out
              rw [HQ1.out]
              exact (List.prefix_append_right_inj _).2 hq, by rw [← List.append_assoc]; exact hx⟩
            clear hx hq HFR HOr yc
            gi_wp2
            go_ret
            exact HF2.out
end Go.Proofs.Ytdchapcpimhjaaa
/- Layer 9: From, as something to loop over. -/
namespace Go.Proofs.Ytdchapcpimhjaaa
open Go.RowKit Go.Shelf

attribute [local go_sem] Oper.semAt_some

/-- a tree or nil, and its pairs, apart from what a loop may write -/
def Tz (ex : Nat → Prop) (B : Nat) (v : Value) (l : List Tm.E) (w : World) : Prop :=
  ∃ ex0 hh tt lo, Tp ex0 v hh tt w ∧ (hh = 0 ∨ 1 ≤ lo) ∧ Tm.Wf hh lo tt ∧ Tm.Asc (Tm.flat hh tt) ∧ Tm.flat hh tt = l ∧ (l = [] ∨ ex0 = Kx ex B)
theorem Tz.below {ex : Nat → Prop} {B : Nat} {v : Value} {l : List Tm.E} {w w' : World} (h : Tz ex B v l w) (hb : Below w.heap.size w w') : Tz ex B v l w' := by
  obtain ⟨ex0, hh, tt, lo, hp, h1⟩ := h
  exact ⟨ex0, hh, tt, lo, hp.below hb, h1⟩
theorem Tq.tz {ex : Nat → Prop} {v : Value} {l : List Tm.E} {W : World} (h : Tq ex v l W) (hex : ∀ k, W.heap.size ≤ k → ¬ ex k) : Tz ex W.heap.size v l W := h.top hex
set_option maxHeartbeats 2000000 in
set_option maxRecDepth 100000 in
theorem wlk_from1 {ex D : Nat → Prop} {Bt Bk h lo : Nat} {v : Value} {t : Tm.T} {k : Tm.K} {w : World} (hp : Tp ex v h t w) (hlo : h = 0 ∨ 1 ≤ lo) (hw : Tm.Wf h lo t) (ha : Tm.Asc (Tm.flat h t)) (hD : Tm.from_ (Tm.flat h t) k = [] ∨ ∀ k, (D k ∨ w.heap.size ≤ k) → ex k)
    (hbt : w.cell? ⟨Bt, 0, none⟩ = some v) (hbk : w.cell? ⟨Bk, 0, none⟩ = some (.string (bstr k))) (hlt : Bt < w.heap.size) (hlk : Bk < w.heap.size) :
    SeqX 41 #[.pointer (some ⟨Bt, 0, none⟩), .pointer (some ⟨Bk, 0, none⟩)] en9 (Tm.from_ (Tm.flat h t) k) D w := fun m c l J Jx W hbw hcD hl1 hl2 hJV hJ hJx hJxV hY h0 => by
  have hJ9 : Ab9 J := fun s X Y hs hb => hJ s X Y hs (only_of8 hb)
  have hY2 : ∀ m', Yl9 ex m' l (Tm.from_ (Tm.flat h t) k) J Jx := fun m' pre x W1 hj hl => by
    refine (hY m' pre x W1 hj hl).mono ?_
    rintro e W' (⟨rfl, h1, h2⟩ | ⟨rfl, h1, h2⟩)
    · refine .inl ⟨rfl, h1, ?_⟩
      rcases hD with hD | hD
      · rw [hD] at hl
        exact absurd hl (by simp)
      · exact only_w h2.1 (fun k hk => hD k (by
          rcases hk with hk | rfl
          · exact .inl (hcD W1 k (hJV _ _ hj).1 hk)
          · exact .inr hl1))
    · exact .inr ⟨rfl, h1⟩
  have HTP := Lib.hid (hp.below hbw)
  obtain ⟨L, hL⟩ : ∃ L, L = Tm.from_ (Tm.flat h t) k := ⟨_, rfl⟩
  have HFR : Hid (∀ w1 p m', Below W.heap.size W w1 → Tn ex h p t w1 → CallsIn Fence.wide m' Try.prog 43 #[.pointer (some ⟨p, 0, none⟩), .string (bstr k), .func (.yield l) #[] #[]] w1 fun e w2 => ∃ b : Bool, e = .returned (.bool b) ∧ Hid (L = L ∧ (J L w2 ∨ ∃ pre, pre <+: L ∧ Jx pre w2))) := fun w1 p m' hb hT => by
    refine (wlk_from hJ9 hY2 (pre0 := []) hT hlo hw ha (by simp) (ab9 hJ9 h0 hb)).mono ?_
    rintro e w2 (⟨rfl, h1, _⟩ | ⟨rfl, q, h1, h2⟩)
    · exact ⟨true, rfl, rfl, .inl (by rw [hL]; simpa using h1)⟩
    · exact ⟨false, rfl, rfl, .inr ⟨q, by rw [hL]; exact h1, by simpa using h2⟩⟩
  rw [← hL]
  have HCE : Hid (∀ w1, Below W.heap.size W w1 → w1.cell? ⟨Bt, 0, none⟩ = some v ∧ w1.cell? ⟨Bk, 0, none⟩ = some (.string (bstr k))) := fun w1 hb =>
    ⟨((hbw.trans (hb.mono hbw.size)).cell (p := ⟨Bt, 0, none⟩) hlt).trans hbt, ((hbw.trans (hb.mono hbw.size)).cell (p := ⟨Bk, 0, none⟩) hlk).trans hbk⟩
  clear hY hY2 hp hbw hJ h0 hL hw ha hbt hbk hlo hJ9 hJx hcD hl1 hl2 hJV hJxV hD
  generalize bstr k = S at *
  refine callsIn_of_wp Try.func41 rfl trivial ?_ rfl
  simp only [Try.ntmps41, List.size_toArray, List.length_cons, List.length_nil, Nat.reduceAdd, Nat.reduceSub, Array.replicate_succ, Array.replicate_zero, List.push_toArray, List.append_toArray, List.nil_append, List.cons_append]
  gi_wp2_with fail
  have hmix : Try.prog.follows .mixedOrders = true := by kernel_rfl
  obtain ⟨ct, ck⟩ := HCE.out W.drew (below_dr8 W)
  gi_region_with_o (first
    | ((try refine ⟨trivial, ?_⟩); (try refine ⟨fun h => (by cases h), ?_⟩); refine (callsIn_wide.2 (HTP.out W.drew (below_dr8 W))).mono ?_; rintro e w1 ⟨p, rfl, hT, hb1⟩; have ck1 := (HCE.out w1 ((below_dr8 W).trans (hb1.mono (Nat.le_refl _)))).2)
    | ((try refine ⟨trivial, ?_⟩); (try refine ⟨fun h => (by cases h), ?_⟩); refine (HFR.out w1 p _ ((below_dr8 W).trans (hb1.mono (Nat.le_refl _))) hT.out).mono ?_; rintro e w2 ⟨b, rfl, hE⟩))
  all_goals
    have HE := Lib.hid hE.out.2
    clear hE hT hb1 HFR HTP HCE
    gi_wp2
    go_end0
    exact ⟨⟨_, rfl⟩, HE.out⟩
theorem wlk_seqFrom {ex : Nat → Prop} {B : Nat} {l : List Tm.E} {k : Tm.K} {W : World} {o : Option Addr} (hv : Tz ex B (.pointer o) l W) (hB : B ≤ W.heap.size) :
    Calls Try.prog 15 #[.pointer o, .string (bstr k)] W fun e w' => ∃ g lb, e = .returned (.func (.func g) #[] lb) ∧ Hid ((∀ args w, (callFunc g args).run Try.prog w = .ok (.enter g args) w) ∧ SeqX g lb en9 (Tm.from_ l k) (Kx ex B) w') ∧ Below W.heap.size W w' := by
  obtain ⟨ex0, hh, tt, lo, hp, hlo, hw, ha, rfl, hl⟩ := hv
  refine tre_From.mono ?_
  rintro e w' ⟨rfl, rfl⟩
  have hb : Below W.heap.size W ((W.alloc (.cells #[.pointer o] 24)).alloc (.cells #[.string (bstr k)] 9)) := (one_b8 _ _).alloc (by simp) _
  obtain ⟨b0, b1⟩ := boxes8 W (.pointer o) (bstr k) 24 9
  refine ⟨_, _, rfl, ⟨enters_of Try.func41 (by kernel_rfl) rfl, ?_⟩, hb⟩
  refine wlk_from1 (hp.below hb) hlo hw ha ?_ b0 b1 (by simp; omega) (by simp)
  rcases hl with hl | rfl
  · exact .inl (by rw [hl]; rfl)
  · refine .inr (fun k hk => ?_)
    rcases hk with hk | hk
    · exact hk
    · simp only [World.size_alloc] at hk
      exact .inr (by omega)
end Go.Proofs.Ytdchapcpimhjaaa
