/- Package tree: what a leaf hands out from a key on, backwards, for every loop body. -/
import Derived.RangeFuncWrites
import Derived.RangeFuncBound
import Derived.RangeFuncCalls
import Derived.RangeFuncLeaves
import Derived.Shelf.Abstract
import Derived.Shelf.RegionOpen
import Derived.WalkKit
import Derived.OwnWalkIn
import Derived.TacticsInMore
import Derived.LoopNIn
import Derived.LoopIn
import Derived.BigRegionIn
import Derived.Test.YtlakolcjgnmllaaTreF2
namespace Go.Proofs.Ytlakolcjgnmllaa
open Go.RowKit Go.Shelf

attribute [local go_sem] Oper.semAt_some

set_option maxHeartbeats 2000000 in
set_option maxRecDepth 100000 in
theorem tre_backL {ex : Nat → Prop} {p m B ly N : Nat} {l : List Tm.E} {k : Tm.K} {J Jx : List Tm.E → World → Prop} {pre0 : List Tm.E} {W : World} (ht : Tn ex 0 p (.leaf l) W) (hc : l.length ≤ 8) (ha : Tm.Asc l) (hJ : AbidesFrom B J)
    (hY : Yl8 ex m ly N J Jx) (hN : pre0.length + (Tm.back l k).length ≤ N) (h0 : J pre0 W) :
    CallsIn Fence.wide (m + 1) Try.prog 37 #[ptr p, .string (bstr k), .func (.yield ly) #[] #[]] W (Fr8 ex J Jx pre0 (Tm.back l k) W) := by
  have HKID := Lib.hid (tre_hasKids ht)
  have hak := Tm.keys_asc 0 (.leaf l) trivial ha
  have HF0 := tre_find k ht (show l.length ≤ 100 by omega) hak
  have hrk := Tm.back_leaf l k ha
  obtain ⟨l', el, hxp, ka, kc, va, vc, ba, bc, hnb, hk, hv, hcp⟩ := ht
  injection el with el
  subst el
  have hfl := Tm.fnd_le (l.map (·.1)) k
  rw [List.length_map] at hfl
  obtain ⟨f, hf⟩ : ∃ f, f = Tm.fnd (l.map (·.1)) k := ⟨_, rfl⟩
  obtain ⟨o, ho⟩ : ∃ o, o = Tm.fok (l.map (·.1)) k := ⟨_, rfl⟩
  rw [show Tm.keys 0 (.leaf l) = l.map (·.1) from rfl, ← hf, ← ho] at HF0
  obtain ⟨q, hq⟩ : ∃ q, q = if o = true then f + 1 else f := ⟨_, rfl⟩
  rw [← hf, ← ho, ← hq] at hrk
  rw [← hf] at hfl
  rw [hrk] at hN ⊢
  have hq1 : o = true → q = f + 1 := fun e => by rw [hq, if_pos e]
  have hq2 : o = false → q = f := fun e => by rw [hq, e]; rfl
  have hql : q ≤ l.length := by
    rw [hq]
    split
    · rename_i h
      rw [ho] at h
      unfold Tm.fok at h
      have h2 := of_decide_eq_true h
      have := (List.getElem?_eq_some_iff.1 h2).1
      rw [List.length_map, ← hf] at this
      omega
    · exact hfl
  obtain ⟨n, hn⟩ : ∃ n, n = l.length := ⟨_, rfl⟩
  rw [← hn] at hnb hk hv hfl hc
  have HF : Hid (Calls Try.prog 33 #[.pointer (some ⟨p, 0, none⟩), .string (bstr k)] W fun e w' => e = .returned (.tuple #[.int .i64 (f : Int), .bool o]) ∧ Below W.heap.size W w') := HF0
  have HK : Hid (Calls Try.prog 31 #[.pointer (some ⟨p, 0, none⟩)] W fun e w' => e = .returned (.bool false) ∧ W = w') := HKID.out
  have p0 : W.cell? ⟨p, 0, none⟩ = some (.slice ka n kc) := by rw [Lib.cell_of_heap hnb]; rfl
  have p1 : W.cell? ⟨p, 1, none⟩ = some (.slice va n vc) := by rw [Lib.cell_of_heap hnb]; rfl
  have hpl : p < W.heap.size := heap_lt hnb
  -- what a round reads
  have HRD : Hid (∀ wr, Only ex W wr → wr.cell? ⟨p, 0, none⟩ = some (.slice ka n kc) ∧ wr.cell? ⟨p, 1, none⟩ = some (.slice va n vc) ∧ ∀ j, j < n → ∃ (kg koff vg voff : Nat) (X : ByteArray) (x : Int) (e : Tm.E), ka = some ⟨kg, koff, none⟩ ∧ va = some ⟨vg, voff, none⟩ ∧ n ≤ kc ∧ n ≤ vc ∧ wr.cell? ⟨kg, koff + j, none⟩ = some (.string X) ∧ wr.cell? ⟨vg, voff + j, none⟩ = some (.int .i64 x) ∧ Hid (X = bstr e.1 ∧ x = e.2 ∧ l[j]? = some e)) := fun wr ho' => by
    refine ⟨(cell_only8 ho' (q := ⟨p, 0, none⟩) hpl hxp).trans p0, (cell_only8 ho' (q := ⟨p, 1, none⟩) hpl hxp).trans p1, fun j hj => ?_⟩
    obtain ⟨kg, koff, rfl, hkc, hkg, hkx, hkcell⟩ := hk.row (by omega)
    obtain ⟨vg, voff, rfl, hvc, hvg, hvx, hvcell⟩ := hv.row (by omega)
    have hjl : j < l.length := by omega
    refine ⟨kg, koff, vg, voff, bstr l[j].1, l[j].2, l[j], rfl, rfl, hkc, hvc, (cell_only8 ho' (q := ⟨kg, koff + j, none⟩) hkg hkx).trans ?_, (cell_only8 ho' (q := ⟨vg, voff + j, none⟩) hvg hvx).trans ?_, rfl, rfl, List.getElem?_eq_getElem hjl⟩
    · rw [hkcell j hj, sk_get _ (by simpa using hjl)]
      simp [List.getD, List.getElem?_eq_getElem hjl]
    · rw [hvcell j hj, iv_get _ (by simpa using hjl)]
      simp [List.getD, List.getElem?_eq_getElem hjl]
  have HTK : Hid (∀ c e, c < q → l[c]? = some e → ((l.take q).reverse).take (q - (c + 1)) ++ [e] = ((l.take q).reverse).take (q - c) ∧ (((l.take q).reverse).take (q - (c + 1))).length < ((l.take q).reverse).length) := fun c e hj he => by
    have hjl : c < l.length := (List.getElem?_eq_some_iff.1 he).1
    constructor
    · rw [show q - c = (q - (c + 1)) + 1 by omega, List.take_add_one]
      congr 1
      rw [List.getElem?_reverse (by rw [List.length_take]; omega), List.length_take, List.getElem?_take]
      rw [show min q l.length - 1 - (q - (c + 1)) = c by omega, if_pos hj, he]; rfl
    · simp; omega
  have HN := Lib.hid hN
  have HLE : Hid (((l.take q).reverse).take (q - 0) = (l.take q).reverse) := List.take_of_length_le (by simp; omega)
  have HJ := Lib.hid hJ; have HY := Lib.hid hY; have H0 := Lib.hid h0
  have hqn : q ≤ n := by omega
  clear HKID HF0 hnb hk hv hcp hak hrk hf ho p0 p1 hxp hN hJ hY h0 hn ha hq hql
  generalize bstr k = S at *
  unfold ptr
  refine callsIn_of_wp Try.func37 rfl trivial ?_ rfl
  simp only [Try.ntmps37, List.size_toArray, List.length_cons, List.length_nil, Nat.reduceAdd, Nat.reduceSub, Array.replicate_succ, Array.replicate_zero, List.push_toArray, List.append_toArray, List.nil_append, List.cons_append]
  gi_wp2_with fail
  refine ⟨trivial, (callsIn_wide.2 HK.out).mono ?_⟩
  rintro e w0 ⟨rfl, rfl⟩
  gi_wp2_with fail
  refine ⟨trivial, (callsIn_wide.2 HF.out).mono ?_⟩
  rintro e w1 ⟨rfl, hb1⟩
  have HO1 : Hid (Only ex W w1) := only_of8 hb1
  have HJ1 : Hid (J (pre0 ++ ((l.take q).reverse).take (q - q)) w1) := by
    show J _ _
    rw [Nat.sub_self, List.take_zero, List.append_nil]
    exact ab8 HJ.out H0.out hb1
  clear hb1
  obtain ⟨qi, hqi⟩ : ∃ qi : Int, qi = (q : Int) - 1 := ⟨_, rfl⟩
  have hqt : o = true → (f : Int) = qi := fun e => by have := hq1 e; omega
  have hqf : o = false → (f : Int) - 1 = qi := fun e => by have := hq2 e; omega
  clear hq1 hq2
  rcases o with _ | _
  case' false => replace hqf := hqf rfl
  case' true => replace hqf := hqt rfl
  all_goals clear hqt
  all_goals gi_wp2_with fail
  all_goals
   gi_loopw [10] (fun iv wr => ∃ (c : Nat) (ci : Int), c ≤ q ∧ ci + 1 = (c : Int) ∧ iv = .int .i64 ci ∧ Hid (J (pre0 ++ ((l.take q).reverse).take (q - c)) wr) ∧ Hid (Only ex W wr)) (fun iv _ => (ixOf iv + 1).toNat)
   case atStart => exact ⟨q, _, Nat.le_refl _, by omega, rfl, HJ1.out, HO1.out⟩
   case round =>
    clear HJ1 HO1 H0
    obtain ⟨c, ci, hj, hci, rfl, HJr, HOr⟩ := hrel
    obtain ⟨c0, c1, hcell⟩ := HRD.out wr HOr.out
    cases c with
    | zero =>
      obtain rfl : ci = -1 := by omega
      have HE : Hid (Fr8 ex J Jx pre0 (l.take q).reverse W (.returned (.bool true)) wr) := .inl ⟨rfl, by
        have := HJr.out
        rw [HLE.out] at this
        exact this, HOr.out⟩
      clear HRD HTK HLE hcell HJr HOr
      gi_wp2
      go_ret
      exact HE.out
    | succ j =>
      obtain rfl : ci = (j : Int) := by omega
      have hlt : j < n := by omega
      have hj0 : (0 : Int) ≤ (j : Int) := by omega
      obtain ⟨kg, koff, vg, voff, X, x, e, rfl, rfl, hkc, hvc, k0, v0, HX⟩ := hcell j hlt
      have hjI : (j : Int) < (n : Int) := by omega
      have hb : Below wr.heap.size wr wr.drew := below_dr8 wr
      obtain ⟨ht1, ht2⟩ := HTK.out j e (by omega) HX.out.2.2
      obtain ⟨fn, tmps, assign, body, hyy, hR⟩ := HY.out _ e wr.drew (ab8 HJ.out HJr.out hb) (by rw [List.length_append]; have := HN.out; omega)
      simp only [en8, ← HX.out.1, ← HX.out.2.1] at hyy
      have HR : Hid (RoundIn Fence.wide m Try.prog ly fn tmps assign body wr.drew fun e1 W' => ∃ b : Bool, e1 = .returned (.bool b) ∧ Hid ((b = true → J (pre0 ++ ((l.take q).reverse).take (q - (j + 1)) ++ [e]) W' ∧ Only ex wr.drew W') ∧ (b = false → Jx (pre0 ++ ((l.take q).reverse).take (q - (j + 1)) ++ [e]) W'))) := hR.mono fun e1 W' h => by
        rcases h with ⟨rfl, h1, h2⟩ | ⟨rfl, h1⟩
        · exact ⟨true, rfl, fun _ => ⟨h1, h2⟩, fun h => (by cases h)⟩
        · exact ⟨false, rfl, fun h => (by cases h), fun _ => h1⟩
      have HT := Lib.hid ht1
      clear hcell hR ht1 ht2 hb HJr
      gi_wp2_with fail
      have hmix : Try.prog.follows .mixedOrders = true := by kernel_rfl
      gi_region_with_o ((try refine ⟨fun h => (by cases h), ?_⟩); refine HR.out.mono ?_; rintro e1 W1 ⟨b, rfl, hB⟩)
      all_goals
        have HB := Lib.hid hB.out
        clear hB HR hmix
        cases b with
        | true =>
          obtain ⟨h1, h2⟩ := HB.out.1 rfl
          have HJ2 : Hid (J (pre0 ++ ((l.take q).reverse).take (q - j)) W1) := by
            show J _ _
            rw [← HT.out, ← List.append_assoc]; exact h1
          have HO2 : Hid (Only ex W W1) := (HOr.out.trans (only_of8 (below_dr8 wr))).trans h2
          clear HB h1 h2 HX hyy k0 v0 c0 c1
          gi_wp2_with fail
          go_roundw
          case rel => exact ⟨j, (j : Int) - 1, by omega, by omega, by go_num, HJ2, HO2⟩
          case measure => simp [ixOf]
        | false =>
          have HF2 : Hid (Fr8 ex J Jx pre0 (l.take q).reverse W (.returned (.bool false)) W1) := .inr ⟨rfl, ((l.take q).reverse).take (q - j), List.take_prefix _ _, by
            have := HB.out.2 rfl
            rw [List.append_assoc, HT.out] at this
            exact this⟩
          clear HB HX hyy k0 v0 c0 c1
          gi_wp2
          go_ret
          exact HF2.out
end Go.Proofs.Ytlakolcjgnmllaa
