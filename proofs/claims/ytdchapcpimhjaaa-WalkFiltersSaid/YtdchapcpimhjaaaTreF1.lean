/- Package tree: what a leaf hands out from a key on, for every loop body. -/
import Derived.RangeFuncWrites
import Derived.RangeFuncBound
import Derived.RangeFuncCalls
import Derived.RangeFuncLeaves
import Derived.Shelf.Abstract
import Derived.Shelf.RegionOpen
import Derived.WalkKit
import Derived.OwnWalkIn
import Derived.TacticsInMore
import Derived.LoopNIn
import Derived.LoopIn
import Derived.BigRegionIn
import Derived.Test.YtdchapcpimhjaaaTreD5
namespace Go.Proofs.Ytdchapcpimhjaaa
open Go.RowKit Go.Shelf

attribute [local go_sem] Oper.semAt_some

theorem ab8 {β : Type} {B : Nat} {J : β → World → Prop} {s : β} {W W' : World} (hJ : AbidesFrom B J) (h : J s W) (hb : Below W.heap.size W W') : J s W' :=
  hJ s W W' none h ⟨hb.os, hb.tape, hb.output, hb.size, fun k hk _ => hb.block k hk⟩ (fun r e => by cases e)
/-- a pair as a loop body gets it -/
def en8 (x : Tm.E) : Array Value := #[.string (bstr x.1), .int .i64 x.2]
/-- what a loop body is known to do, at each pair -/
def Yl8 (ex : Nat → Prop) (m l N : Nat) (J Jx : List Tm.E → World → Prop) : Prop :=
  ∀ pre x W1, J pre W1 → pre.length < N → YieldAt Fence.wide m Try.prog l (en8 x) W1 fun e W' =>
    (e = .returned (.bool true) ∧ J (pre ++ [x]) W' ∧ Only ex W1 W') ∨ (e = .returned (.bool false) ∧ Jx (pre ++ [x]) W')
/-- how a part of a walk ends -/
def Fr8 (ex : Nat → Prop) (J Jx : List Tm.E → World → Prop) (pre0 L : List Tm.E) (W : World) (e : Ending) (W' : World) : Prop :=
  (e = .returned (.bool true) ∧ J (pre0 ++ L) W' ∧ Only ex W W') ∨ (e = .returned (.bool false) ∧ ∃ pre, pre <+: L ∧ Jx (pre0 ++ pre) W')
set_option maxHeartbeats 2000000 in
set_option maxRecDepth 100000 in
theorem tre_fromL {ex : Nat → Prop} {p m B ly N : Nat} {l : List Tm.E} {k : Tm.K} {J Jx : List Tm.E → World → Prop} {pre0 : List Tm.E} {W : World} (ht : Tn ex 0 p (.leaf l) W) (hc : l.length ≤ 8) (ha : Tm.Asc l) (hJ : AbidesFrom B J)
    (hY : Yl8 ex m ly N J Jx) (hN : pre0.length + (Tm.from_ l k).length ≤ N) (h0 : J pre0 W) :
    CallsIn Fence.wide (m + 1) Try.prog 43 #[ptr p, .string (bstr k), .func (.yield ly) #[] #[]] W (Fr8 ex J Jx pre0 (Tm.from_ l k) W) := by
  have HKID := Lib.hid (tre_hasKids ht)
  have hak := Tm.keys_asc 0 (.leaf l) trivial ha
  have HF0 := tre_find k ht (show l.length ≤ 100 by omega) hak
  have hrk := (Tm.rank_leaf l k ha).2
  obtain ⟨l', el, hxp, ka, kc, va, vc, ba, bc, hnb, hk, hv, hcp⟩ := ht
  injection el with el
  subst el
  have hfl := Tm.fnd_le (l.map (·.1)) k
  rw [List.length_map] at hfl
  obtain ⟨f, hf⟩ : ∃ f, f = Tm.fnd (l.map (·.1)) k := ⟨_, rfl⟩
  obtain ⟨o, ho⟩ : ∃ o, o = Tm.fok (l.map (·.1)) k := ⟨_, rfl⟩
  rw [show Tm.keys 0 (.leaf l) = l.map (·.1) from rfl, ← hf, ← ho] at HF0
  rw [← hf] at hrk hfl
  rw [hrk] at hN ⊢
  obtain ⟨n, hn⟩ : ∃ n, n = l.length := ⟨_, rfl⟩
  rw [← hn] at hnb hk hv hfl hc
  have HF : Hid (Calls Try.prog 63 #[.pointer (some ⟨p, 0, none⟩), .string (bstr k)] W fun e w' => e = .returned (.tuple #[.int .i64 (f : Int), .bool o]) ∧ Below W.heap.size W w') := HF0
  have HK : Hid (Calls Try.prog 61 #[.pointer (some ⟨p, 0, none⟩)] W fun e w' => e = .returned (.bool false) ∧ W = w') := HKID.out
  have p0 : W.cell? ⟨p, 0, none⟩ = some (.slice ka n kc) := by rw [Lib.cell_of_heap hnb]; rfl
  have p1 : W.cell? ⟨p, 1, none⟩ = some (.slice va n vc) := by rw [Lib.cell_of_heap hnb]; rfl
  have hpl : p < W.heap.size := heap_lt hnb
  -- what a round reads
  have HRD : Hid (∀ wr, Only ex W wr → wr.cell? ⟨p, 0, none⟩ = some (.slice ka n kc) ∧ wr.cell? ⟨p, 1, none⟩ = some (.slice va n vc) ∧ ∀ j, j < n → ∃ (kg koff vg voff : Nat) (X : ByteArray) (x : Int) (e : Tm.E), ka = some ⟨kg, koff, none⟩ ∧ va = some ⟨vg, voff, none⟩ ∧ n ≤ kc ∧ n ≤ vc ∧ wr.cell? ⟨kg, koff + j, none⟩ = some (.string X) ∧ wr.cell? ⟨vg, voff + j, none⟩ = some (.int .i64 x) ∧ Hid (X = bstr e.1 ∧ x = e.2 ∧ l[j]? = some e)) := fun wr ho' => by
    refine ⟨(cell_only8 ho' (q := ⟨p, 0, none⟩) hpl hxp).trans p0, (cell_only8 ho' (q := ⟨p, 1, none⟩) hpl hxp).trans p1, fun j hj => ?_⟩
    obtain ⟨kg, koff, rfl, hkc, hkg, hkx, hkcell⟩ := hk.row (by omega)
    obtain ⟨vg, voff, rfl, hvc, hvg, hvx, hvcell⟩ := hv.row (by omega)
    have hjl : j < l.length := by omega
    refine ⟨kg, koff, vg, voff, bstr l[j].1, l[j].2, l[j], rfl, rfl, hkc, hvc, (cell_only8 ho' (q := ⟨kg, koff + j, none⟩) hkg hkx).trans ?_, (cell_only8 ho' (q := ⟨vg, voff + j, none⟩) hvg hvx).trans ?_, rfl, rfl, List.getElem?_eq_getElem hjl⟩
    · rw [hkcell j hj, sk_get _ (by simpa using hjl)]
      simp [List.getD, List.getElem?_eq_getElem hjl]
    · rw [hvcell j hj, iv_get _ (by simpa using hjl)]
      simp [List.getD, List.getElem?_eq_getElem hjl]
  have HTK : Hid (∀ j e, f ≤ j → l[j]? = some e → (l.drop f).take (j - f) ++ [e] = (l.drop f).take (j + 1 - f) ∧ ((l.drop f).take (j - f)).length < (l.drop f).length) := fun j e hj he => by
    have hjl : j < l.length := (List.getElem?_eq_some_iff.1 he).1
    constructor
    · rw [show j + 1 - f = (j - f) + 1 by omega, List.take_add_one, List.getElem?_drop, show f + (j - f) = j by omega, he]
      rfl
    · rw [List.length_take, List.length_drop]; omega
  have HN := Lib.hid hN
  have HLE : Hid (∀ j, n ≤ j → f ≤ j → (l.drop f).take (j - f) = l.drop f) := fun j hj hfj => List.take_of_length_le (by rw [List.length_drop]; omega)
  have HJ := Lib.hid hJ; have HY := Lib.hid hY; have H0 := Lib.hid h0
  clear HKID HF0 hnb hk hv hcp hak hrk hf ho p0 p1 hxp hN hJ hY h0 hn ha
  generalize bstr k = S at *
  unfold ptr
  refine callsIn_of_wp Try.func43 rfl trivial ?_ rfl
  simp only [Try.ntmps43, List.size_toArray, List.length_cons, List.length_nil, Nat.reduceAdd, Nat.reduceSub, Array.replicate_succ, Array.replicate_zero, List.push_toArray, List.append_toArray, List.nil_append, List.cons_append]
  gi_wp2_with fail
  refine ⟨trivial, (callsIn_wide.2 HK.out).mono ?_⟩
  rintro e w0 ⟨rfl, rfl⟩
  gi_wp2_with fail
  refine ⟨trivial, (callsIn_wide.2 HF.out).mono ?_⟩
  rintro e w1 ⟨rfl, hb1⟩
  have HO1 : Hid (Only ex W w1) := only_of8 hb1
  have HJ1 : Hid (J (pre0 ++ (l.drop f).take (f - f)) w1) := by
    show J _ _
    rw [Nat.sub_self, List.take_zero, List.append_nil]
    exact ab8 HJ.out H0.out hb1
  clear hb1
  gi_wp2_with fail
  gi_loopw [11] (fun iv wr => ∃ j : Nat, f ≤ j ∧ j ≤ n ∧ iv = .int .i64 (j : Int) ∧ Hid (J (pre0 ++ (l.drop f).take (j - f)) wr) ∧ Hid (Only ex W wr)) (fun iv _ => n - (ixOf iv).toNat)
  case atStart => exact ⟨f, Nat.le_refl _, hfl, rfl, HJ1.out, HO1.out⟩
  case round =>
    clear HJ1 HO1 H0
    obtain ⟨j, hfj, hj, rfl, HJr, HOr⟩ := hrel
    obtain ⟨c0, c1, hcell⟩ := HRD.out wr HOr.out
    by_cases hlt : j < n
    case neg =>
      have hjI : ¬ (j : Int) < (n : Int) := by omega
      have HE : Hid (Fr8 ex J Jx pre0 (l.drop f) W (.returned (.bool true)) wr) := .inl ⟨rfl, by
        have := HJr.out
        rw [HLE.out j (by omega) hfj] at this
        exact this, HOr.out⟩
      clear HRD HTK HLE hcell HJr HOr hlt
      gi_wp2
      go_ret
      exact HE.out
    case pos =>
      obtain ⟨kg, koff, vg, voff, X, x, e, rfl, rfl, hkc, hvc, k0, v0, HX⟩ := hcell j hlt
      have hjI : (j : Int) < (n : Int) := by omega
      have hb : Below wr.heap.size wr wr.drew := below_dr8 wr
      obtain ⟨ht1, ht2⟩ := HTK.out j e hfj HX.out.2.2
      obtain ⟨fn, tmps, assign, body, hyy, hR⟩ := HY.out _ e wr.drew (ab8 HJ.out HJr.out hb) (by rw [List.length_append]; have := HN.out; omega)
      simp only [en8, ← HX.out.1, ← HX.out.2.1] at hyy
      have HR : Hid (RoundIn Fence.wide m Try.prog ly fn tmps assign body wr.drew fun e1 W' => ∃ b : Bool, e1 = .returned (.bool b) ∧ Hid ((b = true → J (pre0 ++ (l.drop f).take (j - f) ++ [e]) W' ∧ Only ex wr.drew W') ∧ (b = false → Jx (pre0 ++ (l.drop f).take (j - f) ++ [e]) W'))) := hR.mono fun e1 W' h => by
        rcases h with ⟨rfl, h1, h2⟩ | ⟨rfl, h1⟩
        · exact ⟨true, rfl, fun _ => ⟨h1, h2⟩, fun h => (by cases h)⟩
        · exact ⟨false, rfl, fun h => (by cases h), fun _ => h1⟩
      have HT := Lib.hid ht1
      clear hcell hR ht1 ht2 hb HJr
      gi_wp2_with fail
      have hmix : Try.prog.follows .mixedOrders = true := by kernel_rfl
      gi_region_with_o ((try refine ⟨fun h => (by cases h), ?_⟩); refine HR.out.mono ?_; rintro e1 W1 ⟨b, rfl, hB⟩)
      all_goals
        have HB := Lib.hid hB.out
        clear hB HR hmix
        cases b with
        | true =>
          obtain ⟨h1, h2⟩ := HB.out.1 rfl
          have HJ2 : Hid (J (pre0 ++ (l.drop f).take (j + 1 - f)) W1) := by
            show J _ _
            rw [← HT.out, ← List.append_assoc]; exact h1
          have HO2 : Hid (Only ex W W1) := (HOr.out.trans (only_of8 (below_dr8 wr))).trans h2
          clear HB h1 h2 HX hyy k0 v0 c0 c1
          gi_wp2_with fail
          go_roundw
          case rel => exact ⟨j + 1, by omega, by omega, by go_num, HJ2, HO2⟩
          case measure => simp [ixOf]; omega
        | false =>
          have HF2 : Hid (Fr8 ex J Jx pre0 (l.drop f) W (.returned (.bool false)) W1) := .inr ⟨rfl, (l.drop f).take (j + 1 - f), List.take_prefix _ _, by
            have := HB.out.2 rfl
            rw [List.append_assoc, HT.out] at this
            exact this⟩
          clear HB HX hyy k0 v0 c0 c1
          gi_wp2
          go_ret
          exact HF2.out
end Go.Proofs.Ytdchapcpimhjaaa
