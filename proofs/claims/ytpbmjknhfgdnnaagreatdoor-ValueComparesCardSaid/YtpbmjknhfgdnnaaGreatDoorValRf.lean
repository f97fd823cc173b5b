/- The reference of layer 3: Parse, all but Bytes. -/
import Derived.Test.YtpbmjknhfgdnnaaGreatDoorValRe
import Derived.Test.YtpbmjknhfgdnnaaGreatDoorDecP6
namespace Go.Proofs.YtpbmjknhfgdnnaaGreatDoor
open Go.RowKit

/-- what a function that answers a value and a truth leaves -/
def ValB (p : Vm.Cl × Bool) (w : World) (e : Ending) (w' : World) : Prop := e = .returned (.tuple #[.agg #[.int .i64 p.1.k, .int .i64 p.1.n, .int .i64 p.1.sc, .string p.1.s], .bool p.2]) ∧ Below w.heap.size w w'
/-- a value in a block that can be written -/
structure Fx (g : Nat) (k n sc : Int) (s : ByteArray) (w : World) : Prop where
  bx : Bx g k n sc s w
  fz : ∀ o, w.frozen? ⟨g, o, none⟩ = false
theorem Fx.keep {g : Nat} {k n sc : Int} {s : ByteArray} {w w' : World} (h : Fx g k n sc s w) (hb : Below w.heap.size w w') : Fx g k n sc s w' :=
  ⟨h.bx.keep hb, fun o => (hb.frozen (p := ⟨g, o, none⟩) h.bx.lt).trans (h.fz o)⟩
theorem Fx.new (w : World) (k n sc : Int) (s : ByteArray) (t : TypeId) : Fx w.heap.size k n sc s (w.alloc (.cells #[.int .i64 k, .int .i64 n, .int .i64 sc, .string s] t)) := ⟨Bx.new w k n sc s t, fun o => by simp⟩
theorem ad_ne {g g' o o' : Nat} (h : g ≠ g' ∨ o ≠ o') : (⟨g, o, none⟩ : Addr) ≠ ⟨g', o', none⟩ := by
  intro e
  injection e with e1 e2
  rcases h with h | h
  · exact h e1
  · exact h e2
theorem Fx.set {g : Nat} {k n sc : Int} {s : ByteArray} {w : World} (h : Fx g k n sc s w) (k' n' sc' : Int) (s' : ByteArray) :
    Fx g k' n' sc' s' ((((w.setCell ⟨g, 0, none⟩ (.int .i64 k')).setCell ⟨g, 1, none⟩ (.int .i64 n')).setCell ⟨g, 2, none⟩ (.int .i64 sc')).setCell ⟨g, 3, none⟩ (.string s')) := by
  have n01 : (⟨g, 0, none⟩ : Addr) ≠ ⟨g, 1, none⟩ := ad_ne (.inr (by decide))
  have n02 : (⟨g, 0, none⟩ : Addr) ≠ ⟨g, 2, none⟩ := ad_ne (.inr (by decide))
  have n03 : (⟨g, 0, none⟩ : Addr) ≠ ⟨g, 3, none⟩ := ad_ne (.inr (by decide))
  have n12 : (⟨g, 1, none⟩ : Addr) ≠ ⟨g, 2, none⟩ := ad_ne (.inr (by decide))
  have n13 : (⟨g, 1, none⟩ : Addr) ≠ ⟨g, 3, none⟩ := ad_ne (.inr (by decide))
  have n23 : (⟨g, 2, none⟩ : Addr) ≠ ⟨g, 3, none⟩ := ad_ne (.inr (by decide))
  refine ⟨⟨?_, ?_, ?_, ?_, ?_⟩, fun o => ?_⟩
  · rw [World.cell?_setCell_other (h := n03.symm), World.cell?_setCell_other (h := n02.symm), World.cell?_setCell_other (h := n01.symm)]
    exact World.cell?_setCell_same _ _ _ h.bx.c0
  · rw [World.cell?_setCell_other (h := n13.symm), World.cell?_setCell_other (h := n12.symm)]
    exact World.cell?_setCell_same _ _ _ (u := .int .i64 n) (by rw [World.cell?_setCell_other (h := n01)]; exact h.bx.c1)
  · rw [World.cell?_setCell_other (h := n23.symm)]
    exact World.cell?_setCell_same _ _ _ (u := .int .i64 sc) (by rw [World.cell?_setCell_other (h := n12), World.cell?_setCell_other (h := n02)]; exact h.bx.c2)
  · exact World.cell?_setCell_same _ _ _ (u := .string s) (by rw [World.cell?_setCell_other (h := n23), World.cell?_setCell_other (h := n13), World.cell?_setCell_other (h := n03)]; exact h.bx.c3)
  · simp; exact h.bx.lt
  · simp; exact h.fz o
theorem Fx.far {g g' : Nat} {k n sc : Int} {s : ByteArray} {w : World} (h : Fx g k n sc s w) (hg : g' ≠ g) (x y z u : Value) :
    Fx g k n sc s ((((w.setCell ⟨g', 0, none⟩ x).setCell ⟨g', 1, none⟩ y).setCell ⟨g', 2, none⟩ z).setCell ⟨g', 3, none⟩ u) := by
  have e : ∀ o o', (⟨g', o', none⟩ : Addr) ≠ ⟨g, o, none⟩ := fun o o' => ad_ne (.inl hg)
  refine ⟨⟨?_, ?_, ?_, ?_, ?_⟩, fun o => ?_⟩
  · rw [World.cell?_setCell_other (h := e 0 3), World.cell?_setCell_other (h := e 0 2), World.cell?_setCell_other (h := e 0 1), World.cell?_setCell_other (h := e 0 0)]; exact h.bx.c0
  · rw [World.cell?_setCell_other (h := e 1 3), World.cell?_setCell_other (h := e 1 2), World.cell?_setCell_other (h := e 1 1), World.cell?_setCell_other (h := e 1 0)]; exact h.bx.c1
  · rw [World.cell?_setCell_other (h := e 2 3), World.cell?_setCell_other (h := e 2 2), World.cell?_setCell_other (h := e 2 1), World.cell?_setCell_other (h := e 2 0)]; exact h.bx.c2
  · rw [World.cell?_setCell_other (h := e 3 3), World.cell?_setCell_other (h := e 3 2), World.cell?_setCell_other (h := e 3 1), World.cell?_setCell_other (h := e 3 0)]; exact h.bx.c3
  · simp; exact h.bx.lt
  · simp; exact h.fz o
/-- the two blocks that Parse begins with: the answer, the value -/
theorem two_fx (w : World) (t : TypeId) : Fx w.heap.size 0 0 0 ⟨#[]⟩ ((w.alloc (.cells #[.int .i64 0, .int .i64 0, .int .i64 0, .string ⟨#[]⟩] t)).alloc (.cells #[.int .i64 0, .int .i64 0, .int .i64 0, .string ⟨#[]⟩] t)) ∧ Fx (w.heap.size + 1) 0 0 0 ⟨#[]⟩ ((w.alloc (.cells #[.int .i64 0, .int .i64 0, .int .i64 0, .string ⟨#[]⟩] t)).alloc (.cells #[.int .i64 0, .int .i64 0, .int .i64 0, .string ⟨#[]⟩] t)) := by
  constructor
  · exact (Fx.new w 0 0 0 ⟨#[]⟩ t).keep ((Below.refl _ _).alloc (Nat.le_refl _) _)
  · have h := Fx.new (w.alloc (.cells #[.int .i64 0, .int .i64 0, .int .i64 0, .string ⟨#[]⟩] t)) 0 0 0 ⟨#[]⟩ t
    rw [show (w.alloc (.cells #[.int .i64 0, .int .i64 0, .int .i64 0, .string ⟨#[]⟩] t)).heap.size = w.heap.size + 1 by simp] at h
    exact h

set_option maxRecDepth 100000 in
set_option maxHeartbeats 1000000 in
theorem prs_null (w : World) : Calls Tryz.prog 26 #[.string ⟨#[78, 85, 76, 76]⟩] w (ValB (Vm.nil, true) w) := by
  go_enter Tryz.func26, Tryz.ntmps26
  go_wp2
  refine bodyPost_ret (v := .tuple #[.agg #[.int .i64 0, .int .i64 0, .int .i64 0, .string ⟨#[]⟩], .bool true]) (by simp [results, Tryz.results26, go_sem]) rfl ⟨rfl, ?_⟩
  exact two w _ _
set_option maxRecDepth 100000 in
set_option maxHeartbeats 1000000 in
theorem prs_true (w : World) : Calls Tryz.prog 26 #[.string ⟨#[84, 82, 85, 69]⟩] w (ValB (⟨1, 1, 0, ⟨#[]⟩⟩, true) w) := by
  go_enter Tryz.func26, Tryz.ntmps26
  go_wp2
  refine bodyPost_ret (v := .tuple #[.agg #[.int .i64 1, .int .i64 1, .int .i64 0, .string ⟨#[]⟩], .bool true]) (by simp [results, Tryz.results26, go_sem]) rfl ⟨rfl, ?_⟩
  exact two w _ _
set_option maxRecDepth 100000 in
set_option maxHeartbeats 1000000 in
theorem prs_false (w : World) : Calls Tryz.prog 26 #[.string ⟨#[70, 65, 76, 83, 69]⟩] w (ValB (⟨1, 0, 0, ⟨#[]⟩⟩, true) w) := by
  go_enter Tryz.func26, Tryz.ntmps26
  go_wp2
  refine bodyPost_ret (v := .tuple #[.agg #[.int .i64 1, .int .i64 0, .int .i64 0, .string ⟨#[]⟩], .bool true]) (by simp [results, Tryz.results26, go_sem]) rfl ⟨rfl, ?_⟩
  exact two w _ _
set_option maxRecDepth 100000 in
set_option maxHeartbeats 1000000 in
theorem prs_empty (w : World) : Calls Tryz.prog 26 #[.string ⟨#[]⟩] w (ValB (Vm.nil, false) w) := by
  go_enter Tryz.func26, Tryz.ntmps26
  go_wp2
  refine bodyPost_ret (v := .tuple #[.agg #[.int .i64 0, .int .i64 0, .int .i64 0, .string ⟨#[]⟩], .bool false]) (by simp [results, Tryz.results26, go_sem]) rfl ⟨rfl, ?_⟩
  exact two w _ _
set_option maxRecDepth 100000 in
set_option maxHeartbeats 1000000 in
theorem prs_text_no (s : ByteArray) (w : World) (hz : s.size ≤ 1000) (h0 : 0 < s.size) (h39 : s[0] = 39) (k1 : (s.toList == [78, 85, 76, 76]) = false) (k2 : (s.toList == [84, 82, 85, 69]) = false) (k3 : (s.toList == [70, 65, 76, 83, 69]) = false) (k4 : s.toList.isEmpty = false) (hi : Vm.inner s.data.toList = none) : Calls Tryz.prog 26 #[.string s] w (ValB (Vm.nil, false) w) := by
  have HI : Hid (∀ W, Calls Tryz.prog 55 #[.string s] W fun e w' => e = .returned (.tuple #[.string ⟨#[]⟩, .bool false]) ∧ Below W.heap.size W w') := by
    intro W
    have h := ref3_inner s W (by omega)
    rw [hi] at h
    exact h
  clear hi
  go_enter Tryz.func26, Tryz.ntmps26
  go_wp2_with fail
  refine (HI.out _).mono ?_
  rintro e w1 ⟨rfl, hb⟩
  have R0 := Lib.hid ((two_fx w 24).1.keep hb); have T0 := Lib.hid ((two_fx w 24).2.keep hb)
  have HB := Lib.hid ((two w _ _).trans (hb.mono (by simp; omega)))
  have d0 := R0.out.bx.c0; have d1 := R0.out.bx.c1; have d2 := R0.out.bx.c2; have d3 := R0.out.bx.c3
  have df := R0.out.fz; have dl := R0.out.bx.lt
  have f0 := T0.out.bx.c0; have f1 := T0.out.bx.c1; have f2 := T0.out.bx.c2; have f3 := T0.out.bx.c3
  have ff := T0.out.fz; have fl := T0.out.bx.lt
  clear hb HI
  go_wp2
  refine bodyPost_ret (v := .tuple #[.agg #[.int .i64 0, .int .i64 0, .int .i64 0, .string ⟨#[]⟩], .bool false]) (by simp [results, Tryz.results26, go_sem, d0, d1, d2, d3]) rfl ⟨rfl, ?_⟩
  exact set4 (set4 HB.out (Nat.le_succ _) _ _ _ _) (Nat.le_refl _) _ _ _ _
set_option maxRecDepth 100000 in
set_option maxHeartbeats 1000000 in
theorem prs_text_some (s T : ByteArray) (b : Bool) (w : World) (hz : s.size ≤ 1000) (h0 : 0 < s.size) (h39 : s[0] = 39) (k1 : (s.toList == [78, 85, 76, 76]) = false) (k2 : (s.toList == [84, 82, 85, 69]) = false) (k3 : (s.toList == [70, 65, 76, 83, 69]) = false) (k4 : s.toList.isEmpty = false) (hi : Vm.inner s.data.toList = some T.data.toList) (ht : T.size ≤ 1000) (hr : Vm.rightB ⟨4, 0, 0, T⟩ = b) :
    Calls Tryz.prog 26 #[.string s] w (ValB (if b then (⟨4, 0, 0, T⟩, true) else (Vm.nil, false)) w) := by
  have HI : Hid (∀ W, Calls Tryz.prog 55 #[.string s] W fun e w' => e = .returned (.tuple #[.string T, .bool true]) ∧ Below W.heap.size W w') := by
    intro W
    have h := ref3_inner s W (by omega)
    rw [hi] at h
    exact h
  have HR := Lib.hid (ref3_right 4 0 0 T · (by unfold maxLen; omega))
  rw [hr] at HR
  clear hi hr ht
  cases b
  · show Calls _ _ _ _ (ValB (Vm.nil, false) w)
    go_enter Tryz.func26, Tryz.ntmps26
    go_wp2_with fail
    refine (HI.out _).mono ?_
    rintro e w1 ⟨rfl, hb⟩
    have R0 := Lib.hid ((two_fx w 24).1.keep hb); have T0 := Lib.hid ((two_fx w 24).2.keep hb)
    have HB := Lib.hid ((two w _ _).trans (hb.mono (by simp; omega)))
    have f0 := T0.out.bx.c0; have f1 := T0.out.bx.c1; have f2 := T0.out.bx.c2; have f3 := T0.out.bx.c3
    have ff := T0.out.fz; have fl := T0.out.bx.lt
    clear hb HI
    go_wp2_with fail
    refine (HR.out _).mono ?_
    rintro e w2 ⟨rfl, hb⟩
    have HB2 := Lib.hid ((set4 HB.out (Nat.le_succ _) _ _ _ _).trans (hb.mono (by simp; have := HB.out.size; omega)))
    have R1 := Lib.hid ((R0.out.far (g' := w.heap.size + 1) (by omega) _ _ _ _).keep hb)
    have T1 := Lib.hid ((T0.out.set 4 0 0 T).keep hb)
    clear hb HR HB R0 T0 f0 f1 f2 f3 ff fl
    have d0 := R1.out.bx.c0; have d1 := R1.out.bx.c1; have d2 := R1.out.bx.c2; have d3 := R1.out.bx.c3
    have df := R1.out.fz; have dl := R1.out.bx.lt
    have f0 := T1.out.bx.c0; have f1 := T1.out.bx.c1; have f2 := T1.out.bx.c2; have f3 := T1.out.bx.c3
    have ff := T1.out.fz; have fl := T1.out.bx.lt
    go_wp2
    refine bodyPost_ret (v := .tuple #[.agg #[.int .i64 0, .int .i64 0, .int .i64 0, .string ⟨#[]⟩], .bool false]) (by simp [results, Tryz.results26, go_sem, d0, d1, d2, d3]) rfl ⟨rfl, ?_⟩
    exact set4 HB2.out (Nat.le_refl _) _ _ _ _
  · show Calls _ _ _ _ (ValB (⟨4, 0, 0, T⟩, true) w)
    go_enter Tryz.func26, Tryz.ntmps26
    go_wp2_with fail
    refine (HI.out _).mono ?_
    rintro e w1 ⟨rfl, hb⟩
    have R0 := Lib.hid ((two_fx w 24).1.keep hb); have T0 := Lib.hid ((two_fx w 24).2.keep hb)
    have HB := Lib.hid ((two w _ _).trans (hb.mono (by simp; omega)))
    have f0 := T0.out.bx.c0; have f1 := T0.out.bx.c1; have f2 := T0.out.bx.c2; have f3 := T0.out.bx.c3
    have ff := T0.out.fz; have fl := T0.out.bx.lt
    clear hb HI
    go_wp2_with fail
    refine (HR.out _).mono ?_
    rintro e w2 ⟨rfl, hb⟩
    have HB2 := Lib.hid ((set4 HB.out (Nat.le_succ _) _ _ _ _).trans (hb.mono (by simp; have := HB.out.size; omega)))
    have R1 := Lib.hid ((R0.out.far (g' := w.heap.size + 1) (by omega) _ _ _ _).keep hb)
    have T1 := Lib.hid ((T0.out.set 4 0 0 T).keep hb)
    clear hb HR HB R0 T0 f0 f1 f2 f3 ff fl
    have d0 := R1.out.bx.c0; have d1 := R1.out.bx.c1; have d2 := R1.out.bx.c2; have d3 := R1.out.bx.c3
    have df := R1.out.fz; have dl := R1.out.bx.lt
    have f0 := T1.out.bx.c0; have f1 := T1.out.bx.c1; have f2 := T1.out.bx.c2; have f3 := T1.out.bx.c3
    have ff := T1.out.fz; have fl := T1.out.bx.lt
    go_wp2
    refine bodyPost_ret (v := .tuple #[.agg #[.int .i64 4, .int .i64 0, .int .i64 0, .string T], .bool true]) (by simp [results, Tryz.results26, go_sem, d0, d1, d2, d3]) rfl ⟨rfl, ?_⟩
    exact set4 HB2.out (Nat.le_refl _) _ _ _ _
set_option maxRecDepth 100000 in
set_option maxHeartbeats 1000000 in
theorem prs_dot_no (s : ByteArray) (n k : Int) (w : World) (hz : s.size ≤ 1000) (h0 : 0 < s.size) (q39 : ((s[0].toNat : Int) == 39) = false) (q88 : ((s[0].toNat : Int) == 88) = false) (k1 : (s.toList == [78, 85, 76, 76]) = false) (k2 : (s.toList == [84, 82, 85, 69]) = false) (k3 : (s.toList == [70, 65, 76, 83, 69]) = false) (k4 : s.toList.isEmpty = false) (q46 : (((s[s.size - 1]'(by omega)).toNat : Int) == 46) = true) (hp : Pm.parseM (s.extract 0 (s.size - 1)).data.toList = (n, k, false)) :
    Calls Tryz.prog 26 #[.string s] w (ValB (Vm.nil, false) w) := by
  have hix : IntKind.i64.wrap ((s.size : Int) - 1) = ((s.size - 1 : Nat) : Int) := by rw [IntWalk.i64_in _ (by omega)]; omega
  have hlt : s.size - 1 < s.size := by omega
  have HI : Hid (∀ W, Calls Tryz.prog 56 #[.string (s.extract 0 (s.size - 1))] W (Par (n, k, false) W)) := by
    intro W
    have h := ref_parse (s.extract 0 (s.size - 1)) W (by simp; omega)
    rw [hp] at h
    exact h
  clear hp
  go_enter Tryz.func26, Tryz.ntmps26
  go_wp2_with fail
  refine (HI.out _).mono ?_
  rintro e w1 ⟨rfl, hb⟩
  have R0 := Lib.hid ((two_fx w 24).1.keep hb); have T0 := Lib.hid ((two_fx w 24).2.keep hb)
  have HB := Lib.hid ((two w _ _).trans (hb.mono (by simp; omega)))
  have d0 := R0.out.bx.c0; have d1 := R0.out.bx.c1; have d2 := R0.out.bx.c2; have d3 := R0.out.bx.c3
  have df := R0.out.fz; have dl := R0.out.bx.lt
  clear hb HI
  dsimp only
  go_wp2
  refine bodyPost_ret (v := .tuple #[.agg #[.int .i64 0, .int .i64 0, .int .i64 0, .string ⟨#[]⟩], .bool false]) (by simp [results, Tryz.results26, go_sem, d0, d1, d2, d3]) rfl ⟨rfl, ?_⟩
  exact set4 HB.out (Nat.le_refl _) _ _ _ _
set_option maxRecDepth 100000 in
set_option maxHeartbeats 1000000 in
theorem prs_dot_k (s : ByteArray) (n k : Int) (w : World) (hz : s.size ≤ 1000) (h0 : 0 < s.size) (q39 : ((s[0].toNat : Int) == 39) = false) (q88 : ((s[0].toNat : Int) == 88) = false) (k1 : (s.toList == [78, 85, 76, 76]) = false) (k2 : (s.toList == [84, 82, 85, 69]) = false) (k3 : (s.toList == [70, 65, 76, 83, 69]) = false) (k4 : s.toList.isEmpty = false) (q46 : (((s[s.size - 1]'(by omega)).toNat : Int) == 46) = true) (hp : Pm.parseM (s.extract 0 (s.size - 1)).data.toList = (n, k, true)) (hk : 0 < k) :
    Calls Tryz.prog 26 #[.string s] w (ValB (Vm.nil, false) w) := by
  have hix : IntKind.i64.wrap ((s.size : Int) - 1) = ((s.size - 1 : Nat) : Int) := by rw [IntWalk.i64_in _ (by omega)]; omega
  have hlt : s.size - 1 < s.size := by omega
  have HI : Hid (∀ W, Calls Tryz.prog 56 #[.string (s.extract 0 (s.size - 1))] W (Par (n, k, true) W)) := by
    intro W
    have h := ref_parse (s.extract 0 (s.size - 1)) W (by simp; omega)
    rw [hp] at h
    exact h
  clear hp
  go_enter Tryz.func26, Tryz.ntmps26
  go_wp2_with fail
  refine (HI.out _).mono ?_
  rintro e w1 ⟨rfl, hb⟩
  have R0 := Lib.hid ((two_fx w 24).1.keep hb); have T0 := Lib.hid ((two_fx w 24).2.keep hb)
  have HB := Lib.hid ((two w _ _).trans (hb.mono (by simp; omega)))
  have d0 := R0.out.bx.c0; have d1 := R0.out.bx.c1; have d2 := R0.out.bx.c2; have d3 := R0.out.bx.c3
  have df := R0.out.fz; have dl := R0.out.bx.lt
  clear hb HI
  dsimp only
  go_wp2
  refine bodyPost_ret (v := .tuple #[.agg #[.int .i64 0, .int .i64 0, .int .i64 0, .string ⟨#[]⟩], .bool false]) (by simp [results, Tryz.results26, go_sem, d0, d1, d2, d3]) rfl ⟨rfl, ?_⟩
  exact set4 HB.out (Nat.le_refl _) _ _ _ _
set_option maxRecDepth 100000 in
set_option maxHeartbeats 1000000 in
theorem prs_dot_ok (s : ByteArray) (n k : Int) (w : World) (hz : s.size ≤ 1000) (h0 : 0 < s.size) (q39 : ((s[0].toNat : Int) == 39) = false) (q88 : ((s[0].toNat : Int) == 88) = false) (k1 : (s.toList == [78, 85, 76, 76]) = false) (k2 : (s.toList == [84, 82, 85, 69]) = false) (k3 : (s.toList == [70, 65, 76, 83, 69]) = false) (k4 : s.toList.isEmpty = false) (q46 : (((s[s.size - 1]'(by omega)).toNat : Int) == 46) = true) (hp : Pm.parseM (s.extract 0 (s.size - 1)).data.toList = (n, k, true)) (hk : k ≤ 0) :
    Calls Tryz.prog 26 #[.string s] w (ValB (⟨3, n, 0, ⟨#[]⟩⟩, true) w) := by
  have hix : IntKind.i64.wrap ((s.size : Int) - 1) = ((s.size - 1 : Nat) : Int) := by rw [IntWalk.i64_in _ (by omega)]; omega
  have hlt : s.size - 1 < s.size := by omega
  have HI : Hid (∀ W, Calls Tryz.prog 56 #[.string (s.extract 0 (s.size - 1))] W (Par (n, k, true) W)) := by
    intro W
    have h := ref_parse (s.extract 0 (s.size - 1)) W (by simp; omega)
    rw [hp] at h
    exact h
  clear hp
  go_enter Tryz.func26, Tryz.ntmps26
  go_wp2_with fail
  refine (HI.out _).mono ?_
  rintro e w1 ⟨rfl, hb⟩
  have R0 := Lib.hid ((two_fx w 24).1.keep hb); have T0 := Lib.hid ((two_fx w 24).2.keep hb)
  have HB := Lib.hid ((two w _ _).trans (hb.mono (by simp; omega)))
  have d0 := R0.out.bx.c0; have d1 := R0.out.bx.c1; have d2 := R0.out.bx.c2; have d3 := R0.out.bx.c3
  have df := R0.out.fz; have dl := R0.out.bx.lt
  clear hb HI
  dsimp only
  go_wp2
  refine bodyPost_ret (v := .tuple #[.agg #[.int .i64 3, .int .i64 n, .int .i64 0, .string ⟨#[]⟩], .bool true]) (by simp [results, Tryz.results26, go_sem, d0, d1, d2, d3]) rfl ⟨rfl, ?_⟩
  exact set4 HB.out (Nat.le_refl _) _ _ _ _
set_option maxRecDepth 100000 in
set_option maxHeartbeats 1000000 in
theorem prs_num_no (s : ByteArray) (n k : Int) (w : World) (hz : s.size ≤ 1000) (h0 : 0 < s.size) (q39 : ((s[0].toNat : Int) == 39) = false) (q88 : ((s[0].toNat : Int) == 88) = false) (k1 : (s.toList == [78, 85, 76, 76]) = false) (k2 : (s.toList == [84, 82, 85, 69]) = false) (k3 : (s.toList == [70, 65, 76, 83, 69]) = false) (k4 : s.toList.isEmpty = false) (q46 : (((s[s.size - 1]'(by omega)).toNat : Int) == 46) = false) (hp : Pm.parseM s.data.toList = (n, k, false)) :
    Calls Tryz.prog 26 #[.string s] w (ValB (Vm.nil, false) w) := by
  have hix : IntKind.i64.wrap ((s.size : Int) - 1) = ((s.size - 1 : Nat) : Int) := by rw [IntWalk.i64_in _ (by omega)]; omega
  have hlt : s.size - 1 < s.size := by omega
  have HI : Hid (∀ W, Calls Tryz.prog 56 #[.string s] W (Par (n, k, false) W)) := by
    intro W
    have h := ref_parse s W (by omega)
    rw [hp] at h
    exact h
  clear hp
  go_enter Tryz.func26, Tryz.ntmps26
  go_wp2_with fail
  refine (HI.out _).mono ?_
  rintro e w1 ⟨rfl, hb⟩
  have R0 := Lib.hid ((two_fx w 24).1.keep hb); have T0 := Lib.hid ((two_fx w 24).2.keep hb)
  have HB := Lib.hid ((two w _ _).trans (hb.mono (by simp; omega)))
  have d0 := R0.out.bx.c0; have d1 := R0.out.bx.c1; have d2 := R0.out.bx.c2; have d3 := R0.out.bx.c3
  have df := R0.out.fz; have dl := R0.out.bx.lt
  clear hb HI
  dsimp only
  go_wp2
  refine bodyPost_ret (v := .tuple #[.agg #[.int .i64 0, .int .i64 0, .int .i64 0, .string ⟨#[]⟩], .bool false]) (by simp [results, Tryz.results26, go_sem, d0, d1, d2, d3]) rfl ⟨rfl, ?_⟩
  exact set4 HB.out (Nat.le_refl _) _ _ _ _
set_option maxRecDepth 100000 in
set_option maxHeartbeats 1000000 in
theorem prs_num_dec (s : ByteArray) (n k : Int) (w : World) (hz : s.size ≤ 1000) (h0 : 0 < s.size) (q39 : ((s[0].toNat : Int) == 39) = false) (q88 : ((s[0].toNat : Int) == 88) = false) (k1 : (s.toList == [78, 85, 76, 76]) = false) (k2 : (s.toList == [84, 82, 85, 69]) = false) (k3 : (s.toList == [70, 65, 76, 83, 69]) = false) (k4 : s.toList.isEmpty = false) (q46 : (((s[s.size - 1]'(by omega)).toNat : Int) == 46) = false) (hp : Pm.parseM s.data.toList = (n, k, true)) (hk : 0 < k) :
    Calls Tryz.prog 26 #[.string s] w (ValB (⟨3, n, k, ⟨#[]⟩⟩, true) w) := by
  have hix : IntKind.i64.wrap ((s.size : Int) - 1) = ((s.size - 1 : Nat) : Int) := by rw [IntWalk.i64_in _ (by omega)]; omega
  have hlt : s.size - 1 < s.size := by omega
  have HI : Hid (∀ W, Calls Tryz.prog 56 #[.string s] W (Par (n, k, true) W)) := by
    intro W
    have h := ref_parse s W (by omega)
    rw [hp] at h
    exact h
  clear hp
  go_enter Tryz.func26, Tryz.ntmps26
  go_wp2_with fail
  refine (HI.out _).mono ?_
  rintro e w1 ⟨rfl, hb⟩
  have R0 := Lib.hid ((two_fx w 24).1.keep hb); have T0 := Lib.hid ((two_fx w 24).2.keep hb)
  have HB := Lib.hid ((two w _ _).trans (hb.mono (by simp; omega)))
  have d0 := R0.out.bx.c0; have d1 := R0.out.bx.c1; have d2 := R0.out.bx.c2; have d3 := R0.out.bx.c3
  have df := R0.out.fz; have dl := R0.out.bx.lt
  clear hb HI
  dsimp only
  go_wp2
  refine bodyPost_ret (v := .tuple #[.agg #[.int .i64 3, .int .i64 n, .int .i64 k, .string ⟨#[]⟩], .bool true]) (by simp [results, Tryz.results26, go_sem, d0, d1, d2, d3]) rfl ⟨rfl, ?_⟩
  exact set4 HB.out (Nat.le_refl _) _ _ _ _
set_option maxRecDepth 100000 in
set_option maxHeartbeats 1000000 in
theorem prs_num_int (s : ByteArray) (n k : Int) (w : World) (hz : s.size ≤ 1000) (h0 : 0 < s.size) (q39 : ((s[0].toNat : Int) == 39) = false) (q88 : ((s[0].toNat : Int) == 88) = false) (k1 : (s.toList == [78, 85, 76, 76]) = false) (k2 : (s.toList == [84, 82, 85, 69]) = false) (k3 : (s.toList == [70, 65, 76, 83, 69]) = false) (k4 : s.toList.isEmpty = false) (q46 : (((s[s.size - 1]'(by omega)).toNat : Int) == 46) = false) (hp : Pm.parseM s.data.toList = (n, k, true)) (hk : k ≤ 0) :
    Calls Tryz.prog 26 #[.string s] w (ValB (⟨2, n, 0, ⟨#[]⟩⟩, true) w) := by
  have hix : IntKind.i64.wrap ((s.size : Int) - 1) = ((s.size - 1 : Nat) : Int) := by rw [IntWalk.i64_in _ (by omega)]; omega
  have hlt : s.size - 1 < s.size := by omega
  have HI : Hid (∀ W, Calls Tryz.prog 56 #[.string s] W (Par (n, k, true) W)) := by
    intro W
    have h := ref_parse s W (by omega)
    rw [hp] at h
    exact h
  clear hp
  go_enter Tryz.func26, Tryz.ntmps26
  go_wp2_with fail
  refine (HI.out _).mono ?_
  rintro e w1 ⟨rfl, hb⟩
  have R0 := Lib.hid ((two_fx w 24).1.keep hb); have T0 := Lib.hid ((two_fx w 24).2.keep hb)
  have HB := Lib.hid ((two w _ _).trans (hb.mono (by simp; omega)))
  have d0 := R0.out.bx.c0; have d1 := R0.out.bx.c1; have d2 := R0.out.bx.c2; have d3 := R0.out.bx.c3
  have df := R0.out.fz; have dl := R0.out.bx.lt
  clear hb HI
  dsimp only
  go_wp2
  refine bodyPost_ret (v := .tuple #[.agg #[.int .i64 2, .int .i64 n, .int .i64 0, .string ⟨#[]⟩], .bool true]) (by simp [results, Tryz.results26, go_sem, d0, d1, d2, d3]) rfl ⟨rfl, ?_⟩
  exact set4 HB.out (Nat.le_refl _) _ _ _ _
end Go.Proofs.YtpbmjknhfgdnnaaGreatDoor
/- The reference of layer 3: Parse of Bytes. -/
namespace Go.Proofs.YtpbmjknhfgdnnaaGreatDoor
open Go.RowKit

def fin5 : Option (List UInt8) → Vm.Cl × Bool
  | none => (Vm.nil, false)
  | some t => Vm.ok ⟨5, 0, 0, bstr t⟩
theorem unhex_ok (a b : UInt8) (r : List UInt8) (x y : Nat) (h1 : Vm.unhexd a = some x) (h2 : Vm.unhexd b = some y) : Vm.unhex (a :: b :: r) = (Vm.unhex r).map (UInt8.ofNat (16 * x + y) :: ·) := by
  rw [Vm.unhex, h1, h2]; cases Vm.unhex r <;> rfl
theorem unhex_bad1 (a b : UInt8) (r : List UInt8) (h1 : Vm.unhexd a = none) : Vm.unhex (a :: b :: r) = none := by rw [Vm.unhex, h1]
theorem unhex_bad2 (a b : UInt8) (r : List UInt8) (h2 : Vm.unhexd b = none) : Vm.unhex (a :: b :: r) = none := by
  rw [Vm.unhex, h2]; cases Vm.unhexd a <;> rfl
theorem unhexd_lt (a : UInt8) (x : Nat) (h : Vm.unhexd a = some x) : x < 16 := by
  unfold Vm.unhexd at h
  split at h
  · simp at h; omega
  split at h
  · simp at h; omega
  · cases h
theorem hexd_inv (c : UInt8) : (∃ e, e < 16 ∧ Vm.hexd e = c ∧ Vm.unhexd c = some e) ∨ ((∀ e, e < 16 → Vm.hexd e ≠ c) ∧ Vm.unhexd c = none) := by
  cases h : Vm.unhexd c with
  | none =>
    right
    refine ⟨fun e he hc => ?_, rfl⟩
    rw [← hc, Vm.unhexd_hexd e he] at h; cases h
  | some x =>
    left
    have hx := unhexd_lt c x h
    refine ⟨x, hx, ?_, rfl⟩
    unfold Vm.unhexd at h
    unfold Vm.hexd
    split at h
    · simp at h
      rw [if_pos (by omega)]
      apply UInt8.toNat_inj.1
      rw [UInt8.toNat_ofNat']
      omega
    split at h
    · simp at h
      rw [if_neg (by omega)]
      apply UInt8.toNat_inj.1
      rw [UInt8.toNat_ofNat']
      omega
    · cases h
theorem hexd_uniq (c : UInt8) (e : Nat) (he : e < 16) (h : Vm.hexd e = c) : Vm.unhexd c = some e := by rw [← h]; exact Vm.unhexd_hexd e he
theorem hexS_at (e : Nat) (h : e < 16) : (⟨#[48, 49, 50, 51, 52, 53, 54, 55, 56, 57, 65, 66, 67, 68, 69, 70]⟩ : ByteArray)[e]'(by show e < 16; exact h) = Vm.hexd e := by
  have : ∀ d : Fin 16, (⟨#[48, 49, 50, 51, 52, 53, 54, 55, 56, 57, 65, 66, 67, 68, 69, 70]⟩ : ByteArray)[d.val]'(by show d.val < 16; exact d.isLt) = Vm.hexd d.val := by decide +kernel
  exact this ⟨e, h⟩
theorem own_drewN {B : Nat} {t : TypeId} {z n : Nat} {v : Value} {l : List Value} {w : World} (h : w.ownsRow B t z v n l) : ∀ q, (w.drewN q).ownsRow B t z v n l
  | 0 => h
  | q + 1 => own_drewN h q
theorem map_opt (o : Option (List UInt8)) (B : List UInt8) (c : UInt8) : (o.map (c :: ·)).map (B ++ ·) = o.map ((B ++ [c]) ++ ·) := by cases o <;> simp

set_option maxRecDepth 100000 in
set_option maxHeartbeats 4000000 in
theorem prs_hex_no (s : ByteArray) (w : World) (hz : s.size ≤ 1000) (h0 : 0 < s.size) (h88 : s[0] = 88) (k1 : (s.toList == [78, 85, 76, 76]) = false) (k2 : (s.toList == [84, 82, 85, 69]) = false) (k3 : (s.toList == [70, 65, 76, 83, 69]) = false) (k4 : s.toList.isEmpty = false) (hi : Vm.inner (s.extract 1 s.size).data.toList = none) : Calls Tryz.prog 26 #[.string s] w (ValB (Vm.nil, false) w) := by
  have HI : Hid (∀ W, Calls Tryz.prog 55 #[.string (s.extract 1 s.size)] W fun e w' => e = .returned (.tuple #[.string ⟨#[]⟩, .bool false]) ∧ Below W.heap.size W w') := by
    intro W
    have h := ref3_inner (s.extract 1 s.size) W (by simp; omega)
    rw [hi] at h
    exact h
  have hle : 1 ≤ s.size := h0
  clear hi
  go_enter Tryz.func26, Tryz.ntmps26
  go_wp2_with fail
  refine (HI.out _).mono ?_
  rintro e w1 ⟨rfl, hb⟩
  have R0 := Lib.hid ((two_fx w 24).1.keep hb); have T0 := Lib.hid ((two_fx w 24).2.keep hb)
  have HB := Lib.hid ((two w _ _).trans (hb.mono (by simp; omega)))
  have d0 := R0.out.bx.c0; have d1 := R0.out.bx.c1; have d2 := R0.out.bx.c2; have d3 := R0.out.bx.c3
  have df := R0.out.fz; have dl := R0.out.bx.lt
  clear hb HI
  go_wp2
  refine bodyPost_ret (v := .tuple #[.agg #[.int .i64 0, .int .i64 0, .int .i64 0, .string ⟨#[]⟩], .bool false]) (by simp [results, Tryz.results26, go_sem, d0, d1, d2, d3]) rfl ⟨rfl, ?_⟩
  exact set4 HB.out (Nat.le_refl _) _ _ _ _
set_option maxRecDepth 100000 in
set_option maxHeartbeats 4000000 in
theorem prs_hex_odd (s H : ByteArray) (w : World) (hz : s.size ≤ 1000) (h0 : 0 < s.size) (h88 : s[0] = 88) (k1 : (s.toList == [78, 85, 76, 76]) = false) (k2 : (s.toList == [84, 82, 85, 69]) = false) (k3 : (s.toList == [70, 65, 76, 83, 69]) = false) (k4 : s.toList.isEmpty = false) (hi : Vm.inner (s.extract 1 s.size).data.toList = some H.data.toList) (hH : H.size ≤ 1000) (hodd : (((H.size : Int) % 2) == 1) = true) : Calls Tryz.prog 26 #[.string s] w (ValB (Vm.nil, false) w) := by
  have HI : Hid (∀ W, Calls Tryz.prog 55 #[.string (s.extract 1 s.size)] W fun e w' => e = .returned (.tuple #[.string H, .bool true]) ∧ Below W.heap.size W w') := by
    intro W
    have h := ref3_inner (s.extract 1 s.size) W (by simp; omega)
    rw [hi] at h
    exact h
  have hle : 1 ≤ s.size := h0
  clear hi
  go_enter Tryz.func26, Tryz.ntmps26
  go_wp2_with fail
  refine (HI.out _).mono ?_
  rintro e w1 ⟨rfl, hb⟩
  have R0 := Lib.hid ((two_fx w 24).1.keep hb); have T0 := Lib.hid ((two_fx w 24).2.keep hb)
  have HB := Lib.hid ((two w _ _).trans (hb.mono (by simp; omega)))
  have d0 := R0.out.bx.c0; have d1 := R0.out.bx.c1; have d2 := R0.out.bx.c2; have d3 := R0.out.bx.c3
  have df := R0.out.fz; have dl := R0.out.bx.lt
  clear hb HI
  go_wp2
  refine bodyPost_ret (v := .tuple #[.agg #[.int .i64 0, .int .i64 0, .int .i64 0, .string ⟨#[]⟩], .bool false]) (by simp [results, Tryz.results26, go_sem, d0, d1, d2, d3]) rfl ⟨rfl, ?_⟩
  exact set4 HB.out (Nat.le_refl _) _ _ _ _
set_option maxRecDepth 100000 in
set_option maxHeartbeats 4000000 in
theorem prs_hex_even (s H : ByteArray) (w : World) (hz : s.size ≤ 1000) (h0 : 0 < s.size) (h88 : s[0] = 88) (k1 : (s.toList == [78, 85, 76, 76]) = false) (k2 : (s.toList == [84, 82, 85, 69]) = false) (k3 : (s.toList == [70, 65, 76, 83, 69]) = false) (k4 : s.toList.isEmpty = false) (hi : Vm.inner (s.extract 1 s.size).data.toList = some H.data.toList) (hH : H.size ≤ 1000) (hev : H.size % 2 = 0) (hodd : (((H.size : Int) % 2) == 1) = false) : Calls Tryz.prog 26 #[.string s] w (ValB (fin5 (Vm.unhex H.data.toList)) w) := by
  obtain ⟨i0, hi0, hz0, hz1, hz2⟩ := info_parts info5y
  have HI0 := Lib.hid hi0; have HZ0 := Lib.hid hz0; have HZ1 := Lib.hid hz1; have HZ2 := Lib.hid hz2
  clear hi0 hz0 hz1 hz2
  obtain ⟨o, ho⟩ : ∃ o, o = Vm.unhex H.data.toList := ⟨_, rfl⟩
  rw [← ho]
  have HI : Hid (∀ W, Calls Tryz.prog 55 #[.string (s.extract 1 s.size)] W fun e w' => e = .returned (.tuple #[.string H, .bool true]) ∧ Below W.heap.size W w') := by
    intro W
    have h := ref3_inner (s.extract 1 s.size) W (by simp; omega)
    rw [hi] at h
    exact h
  have hle : 1 ≤ s.size := h0
  clear hi
  go_enter Tryz.func26, Tryz.ntmps26
  go_wp2_with fail
  refine (HI.out _).mono ?_
  rintro e w1 ⟨rfl, hb⟩
  have R0 := Lib.hid ((two_fx w 24).1.keep hb); have T0 := Lib.hid ((two_fx w 24).2.keep hb)
  have HB := Lib.hid ((two w _ _).trans (hb.mono (by simp; omega)))
  have hws : w.heap.size + 1 < w1.heap.size := T0.out.bx.lt
  clear hb HI
  go_wp2_with fail
  clear k1 k2 k3 k4 hodd
  go_loopw [9, 10] (fun bv iv wr => ∃ (I : Nat) (B : List UInt8) (aa : Option Addr) (kk cc : Nat), I ≤ H.size ∧ iv = .int .i64 (I : Int) ∧ bv = .slice aa kk cc ∧ kk ≤ I ∧ Hid (I % 2 = 0) ∧ Hid (B.length = kk) ∧ Hid (o = (Vm.unhex (H.data.toList.drop I)).map (B ++ ·)) ∧ Hid (wr.ownsRow w1.heap.size 5 1 (.slice aa kk cc) kk (yc B)) ∧ Hid (Below w1.heap.size w1 wr)) (fun _ iv _ => H.size - (Lib.intOf iv).toNat)
  case atStart => exact ⟨0, [], none, 0, 0, Nat.zero_le _, rfl, rfl, Nat.le_refl _, rfl, rfl, (by rw [List.drop_zero, nil_map]; exact ho), World.ownsRow_nil _ _ _ _, Below.refl _ _⟩
  case round =>
    obtain ⟨I, B, aa, kk, cc, hI, rfl, rfl, hkI, HEV, HKK, HM, HO, HW⟩ := hrel
    clear ho
    by_cases hIs : I < H.size
    · have hI1 : I + 1 < H.size := by have := HEV.out; omega
      obtain ⟨a0, ha0⟩ : ∃ a0, H[I] = a0 := ⟨_, rfl⟩
      obtain ⟨a1, ha1⟩ : ∃ a1, H[I + 1] = a1 := ⟨_, rfl⟩
      have hst : o = (Vm.unhex (a0 :: a1 :: H.data.toList.drop (I + 2))).map (B ++ ·) := by
        rw [HM.out, drop_cons H I hIs, drop_cons H (I + 1) hI1, ha0, ha1]
      have HST := Lib.hid hst; have HA0 := Lib.hid ha0; have HA1 := Lib.hid ha1
      have hwI : IntKind.i64.wrap ((I : Int) + 2) = ((I + 2 : Nat) : Int) := by rw [IntWalk.i64_in _ (by omega)]; omega
      clear hst ha0 ha1 HM hev
      go_wp2_with fail
      go_loopw [11, 12] (fun cv kv wm => ∃ (K C : Nat), I ≤ K ∧ K ≤ I + 2 ∧ kv = .int .i64 (K : Int) ∧ cv = .int .i64 (C : Int) ∧ C ≤ 255 ∧ Hid ((K = I ∧ C = 0) ∨ (K = I + 1 ∧ Vm.unhexd a0 = some C) ∨ (K = I + 2 ∧ ∃ x y, Vm.unhexd a0 = some x ∧ Vm.unhexd a1 = some y ∧ C = 16 * x + y)) ∧ Hid (wm.ownsRow w1.heap.size 5 1 (.slice aa kk cc) kk (yc B)) ∧ Hid (Below w1.heap.size w1 wm)) (fun _ kv _ => I + 2 - (Lib.intOf kv).toNat)
      case atStart => exact ⟨I, 0, Nat.le_refl _, by omega, rfl, rfl, by omega, .inl ⟨rfl, rfl⟩, HO.out, HW.out⟩
      case round =>
        obtain ⟨K, C, hK1, hK2, rfl, rfl, hC, HC, HOm, HWm⟩ := hrel
        by_cases hK : K < I + 2
        · have hKs : K < H.size := by omega
          obtain ⟨ch, hch⟩ : ∃ ch, H[K] = ch := ⟨_, rfl⟩
          have hchi : H[K].toNat = ch.toNat := by rw [hch]
          have hch256 := ch.toNat_lt
          have HCH := Lib.hid hch
          clear hch
          go_wp2_with fail
          go_loopw [13] (fun dv wi => ∃ e : Nat, e ≤ 16 ∧ dv = .int .i64 (e : Int) ∧ Hid (∀ e', e' < e → Vm.hexd e' ≠ ch) ∧ Hid (wi.ownsRow w1.heap.size 5 1 (.slice aa kk cc) kk (yc B)) ∧ Hid (Below w1.heap.size w1 wi)) (fun dv _ => 16 - (Lib.intOf dv).toNat)
          case atStart => exact ⟨0, Nat.zero_le _, rfl, fun e' h => by omega, HOm.out, HWm.out⟩
          case round =>
            obtain ⟨e, he, rfl, HN, HOi, HWi⟩ := hrel
            by_cases he16 : e < 16
            · have hx := hexS_at e he16
              have h16i : (e : Int) < 16 := by omega
              by_cases hm : Vm.hexd e = ch
              · have q : (((Vm.hexd e).toNat : Int) != (ch.toNat : Int)) = false := by rw [hm]; simp
                have hun := hexd_uniq ch e he16 hm
                have HUN := Lib.hid hun
                have qe : ((e : Int) == 16) = false := by rw [beq_eq_false_iff_ne]; omega
                have hnew : 16 * C + e ≤ 255 ∧ Hid ((K + 1 = I ∧ 16 * C + e = 0) ∨ (K + 1 = I + 1 ∧ Vm.unhexd a0 = some (16 * C + e)) ∨ (K + 1 = I + 2 ∧ ∃ x y, Vm.unhexd a0 = some x ∧ Vm.unhexd a1 = some y ∧ 16 * C + e = 16 * x + y)) := by
                  rcases HC.out with ⟨h1, h2⟩ | ⟨h1, h2⟩ | ⟨h1, h2⟩
                  · subst h1 h2
                    have : a0 = ch := by rw [← HA0.out, ← HCH.out]
                    exact ⟨by omega, .inr (.inl ⟨rfl, by rw [this, HUN.out]; simp⟩)⟩
                  · subst h1
                    have : a1 = ch := by rw [← HA1.out, ← HCH.out]
                    have hl := unhexd_lt a0 C h2
                    exact ⟨by omega, .inr (.inr ⟨rfl, C, e, h2, by rw [this, HUN.out], rfl⟩)⟩
                  · omega
                obtain ⟨hn1, HN1⟩ := hnew
                clear hun hm
                go_upto_region 30 with (fail)
                go_quiet (fail)
                go_wp2
                go_roundw
                case rel => exact ⟨K + 1, 16 * C + e, by omega, by omega, by go_num, by go_num, hn1, HN1, own_drewN HOi.out _, below_n HWi.out _⟩
                case measure => simp [Lib.intOf]; omega
              · have q : (((Vm.hexd e).toNat : Int) != (ch.toNat : Int)) = true := by
                  simp; intro e'; exact hm (UInt8.toNat_inj.1 (by omega))
                have HN2 : Hid (∀ e', e' < e + 1 → Vm.hexd e' ≠ ch) := by
                  intro e' h
                  by_cases h' : e' = e
                  · rw [h']; exact hm
                  · exact HN.out e' (by omega)
                clear hm
                go_upto_region 30 with (fail)
                go_quiet (fail)
                go_wp2
                go_roundw
                case rel => exact ⟨e + 1, by omega, by go_num, HN2, own_drewN HOi.out _, below_n HWi.out _⟩
                case measure => simp [Lib.intOf]; omega
            · have hee : e = 16 := by omega
              subst hee
              have hd16 : decide (((16 : Nat) : Int) < 16) = false := by decide
              have hon : o = none := by
                have hu : Vm.unhexd ch = none := by
                  rcases hexd_inv ch with ⟨e, h1, h2, _⟩ | ⟨_, h⟩
                  · exact absurd h2 (HN.out e h1)
                  · exact h
                rw [HST.out]
                rcases HC.out with ⟨h1, h2⟩ | ⟨h1, h2⟩ | ⟨h1, h2⟩
                · subst h1
                  have : a0 = ch := by rw [← HA0.out, ← HCH.out]
                  rw [unhex_bad1 _ _ _ (by rw [this]; exact hu)]; rfl
                · subst h1
                  have : a1 = ch := by rw [← HA1.out, ← HCH.out]
                  rw [unhex_bad2 _ _ _ (by rw [this]; exact hu)]; rfl
                · omega
              have HON := Lib.hid hon
              have R1 := Lib.hid (R0.out.keep HWi.out)
              have d0 := R1.out.bx.c0; have d1 := R1.out.bx.c1; have d2 := R1.out.bx.c2; have d3 := R1.out.bx.c3
              have df := R1.out.fz; have dl := R1.out.bx.lt
              have HBW := HB.out.trans (HWi.out.mono HB.out.size)
              have HBW := Lib.hid HBW
              clear hon HC HST
              go_upto_region 30 with (fail)
              go_quiet (fail)
              go_wp2
              refine bodyPost_ret (v := .tuple #[.agg #[.int .i64 0, .int .i64 0, .int .i64 0, .string ⟨#[]⟩], .bool false]) (by simp [results, Tryz.results26, go_sem, d0, d1, d2, d3]) rfl ⟨by rw [HON.out]; rfl, ?_⟩
              exact set4 (below_n HBW.out _) (Nat.le_refl _) _ _ _ _
        · obtain rfl : K = I + 2 := by omega
          obtain ⟨x, y, hx, hy, hCe⟩ : ∃ x y, Vm.unhexd a0 = some x ∧ Vm.unhexd a1 = some y ∧ C = 16 * x + y := by
            rcases HC.out with ⟨h1, _⟩ | ⟨h1, _⟩ | ⟨_, h2⟩
            · omega
            · omega
            · exact h2
          have hst2 : o = (Vm.unhex (H.data.toList.drop (I + 2))).map ((B ++ [UInt8.ofNat C]) ++ ·) := by
            rw [HST.out, unhex_ok _ _ _ x y hx hy, ← hCe, map_opt]
          have HM2 := Lib.hid hst2
          have HEV2 : Hid ((I + 2) % 2 = 0) := by have := HEV.out; show _ = _; omega
          obtain ⟨c, hcd⟩ : ∃ c, UInt8.ofNat C = c := ⟨_, rfl⟩
          have hwc : IntKind.u8.wrap (C : Int) = (c.toNat : Int) := by
            rw [← hcd, UInt8.toNat_ofNat']; simp only [IntKind.wrap_u8]; omega
          rw [hcd] at HM2
          have hsz := HWm.out.size
          clear hx hy hCe hst2 hcd HC HST HA0 HA1 x y
          go_wp2_with (at_builtin; refine wpList_append_src _ rfl (.tmp 103) (.tmp 106) 30 30 rfl w1.heap.size 5 i0 (.int .u8 0) 1 1 Tryz.underlying30 HI0.out HZ0.out HZ1.out HZ2.out rfl (.slice aa kk cc) kk (yc B) rfl (HOm.out.alloc _) _ 1 (yc [c]) rfl ?qs ?qa ?qb ?qc ?_)
          case qs => exact lit_srcy _ c
          case qa => unfold maxLen; omega
          case qb => omega
          case qc => simp; omega
          intro v2 w2 hown hgrow hat
          have hbel := (HWm.out.alloc hsz _).grown hgrow (by simp; omega) (fun i hi => (HOm.out.lt i hi).1)
          have hown2 : w2.ownsRow w1.heap.size 5 1 v2 (kk + 1) (yc (B ++ [c])) := by rw [yc_append]; exact hown
          obtain ⟨a2, c2, hv2⟩ : ∃ a2 c2, v2 = .slice a2 (kk + 1) c2 := by
            obtain ⟨a2, c2, e⟩ := (Yt.of_own hown2).form
            rw [List.length_append, List.length_singleton, HKK.out] at e; exact ⟨a2, c2, e⟩
          rw [hv2] at hown2 ⊢
          have HO2 := Lib.hid hown2
          have HB2 := Lib.hid hbel
          clear hown hgrow hat hbel hown2 hv2
          go_wp2
          go_roundw
          case rel => exact ⟨I + 2, B ++ [c], a2, kk + 1, c2, by omega, by go_num, rfl, by omega, HEV2, (by show _ = _; rw [List.length_append, List.length_singleton, HKK.out]), HM2, HO2, HB2⟩
          case measure => simp [Lib.intOf]; omega
    · have hst : o = some B := by rw [HM.out, drop_end H I (by omega)]; simp [Vm.unhex]
      have HON := Lib.hid hst
      obtain ⟨T, hT⟩ : ∃ T, bstr B = T := ⟨_, rfl⟩
      have hcv := (Yt.of_own HO.out).str
      rw [hT] at hcv
      have hTs : T.size ≤ 1000 := by rw [← hT, bstr_size, HKK.out]; omega
      have R1 := Lib.hid (R0.out.keep HW.out); have T1 := Lib.hid (T0.out.keep HW.out)
      have HBW := Lib.hid (HB.out.trans (HW.out.mono HB.out.size))
      obtain ⟨b, hb⟩ : ∃ b, Vm.rightB ⟨5, 0, 0, T⟩ = b := ⟨_, rfl⟩
      have HR := Lib.hid (ref3_right 5 0 0 T · (by unfold maxLen; omega))
      rw [hb] at HR
      have hfin : fin5 o = if b then (⟨5, 0, 0, T⟩, true) else (Vm.nil, false) := by
        rw [HON.out]; show Vm.ok ⟨5, 0, 0, bstr B⟩ = _; rw [hT]; unfold Vm.ok; rw [hb]
      have HFIN := Lib.hid hfin
      clear hfin hb hst HON hT HM
      have f0 := T1.out.bx.c0; have f1 := T1.out.bx.c1; have f2 := T1.out.bx.c2; have f3 := T1.out.bx.c3
      have ff := T1.out.fz; have fl := T1.out.bx.lt
      cases b
      · go_wp2_with fail
        refine (HR.out _).mono ?_
        rintro e w2 ⟨rfl, hb⟩
        have HB2 := Lib.hid ((set4 HBW.out (Nat.le_succ _) _ _ _ _).trans (hb.mono (by simp; have := HBW.out.size; omega)))
        have R2 := Lib.hid ((R1.out.far (g' := w.heap.size + 1) (by omega) _ _ _ _).keep hb)
        have T2 := Lib.hid ((T1.out.set 5 0 0 T).keep hb)
        clear hb HR HBW R1 T1 f0 f1 f2 f3 ff fl
        have d0 := R2.out.bx.c0; have d1 := R2.out.bx.c1; have d2 := R2.out.bx.c2; have d3 := R2.out.bx.c3
        have df := R2.out.fz; have dl := R2.out.bx.lt
        have f0 := T2.out.bx.c0; have f1 := T2.out.bx.c1; have f2 := T2.out.bx.c2; have f3 := T2.out.bx.c3
        have ff := T2.out.fz; have fl := T2.out.bx.lt
        go_wp2
        refine bodyPost_ret (v := .tuple #[.agg #[.int .i64 0, .int .i64 0, .int .i64 0, .string ⟨#[]⟩], .bool false]) (by simp [results, Tryz.results26, go_sem, d0, d1, d2, d3]) rfl ⟨by rw [HFIN.out]; rfl, ?_⟩
        exact set4 HB2.out (Nat.le_refl _) _ _ _ _
      · go_wp2_with fail
        refine (HR.out _).mono ?_
        rintro e w2 ⟨rfl, hb⟩
        have HB2 := Lib.hid ((set4 HBW.out (Nat.le_succ _) _ _ _ _).trans (hb.mono (by simp; have := HBW.out.size; omega)))
        have R2 := Lib.hid ((R1.out.far (g' := w.heap.size + 1) (by omega) _ _ _ _).keep hb)
        have T2 := Lib.hid ((T1.out.set 5 0 0 T).keep hb)
        clear hb HR HBW R1 T1 f0 f1 f2 f3 ff fl
        have d0 := R2.out.bx.c0; have d1 := R2.out.bx.c1; have d2 := R2.out.bx.c2; have d3 := R2.out.bx.c3
        have df := R2.out.fz; have dl := R2.out.bx.lt
        have f0 := T2.out.bx.c0; have f1 := T2.out.bx.c1; have f2 := T2.out.bx.c2; have f3 := T2.out.bx.c3
        have ff := T2.out.fz; have fl := T2.out.bx.lt
        go_wp2
        refine bodyPost_ret (v := .tuple #[.agg #[.int .i64 5, .int .i64 0, .int .i64 0, .string T], .bool true]) (by simp [results, Tryz.results26, go_sem, d0, d1, d2, d3]) rfl ⟨by rw [HFIN.out]; rfl, ?_⟩
        exact set4 HB2.out (Nat.le_refl _) _ _ _ _
end Go.Proofs.YtpbmjknhfgdnnaaGreatDoor
/- The reference of layer 3: Parse whole. -/
namespace Go.Proofs.YtpbmjknhfgdnnaaGreatDoor
open Go.RowKit

theorem unesc_len : ∀ (l t : List UInt8), Vm.unesc l = some t → t.length ≤ l.length
  | [], t, h => by simp [Vm.unesc] at h; rw [← h]; simp
  | [c], t, h => by
    unfold Vm.unesc at h
    split at h
    · cases h
    · simp at h; rw [← h]; simp
  | c :: d :: r, t, h => by
    unfold Vm.unesc at h
    split at h
    · split at h
      · cases hu : Vm.unesc r with
        | none => rw [hu] at h; cases h
        | some u =>
          have := unesc_len r u hu
          rw [hu] at h
          simp at h
          rw [← h]; simp; omega
      · cases h
    · cases hu : Vm.unesc (d :: r) with
      | none => rw [hu] at h; cases h
      | some u =>
        have := unesc_len (d :: r) u hu
        rw [hu] at h
        simp at h
        rw [← h]; simp at this ⊢; omega
theorem inner_len (l t : List UInt8) (h : Vm.inner l = some t) : t.length ≤ l.length := by
  unfold Vm.inner at h
  split at h
  · cases h
  · have := unesc_len _ _ h
    simp at this
    omega
theorem unhex_odd : ∀ (l : List UInt8), l.length % 2 = 1 → Vm.unhex l = none
  | [], h => by simp at h
  | [_], _ => rfl
  | a :: b :: r, h => by
    have h2 : r.length % 2 = 1 := by simp at h; omega
    rw [Vm.unhex, unhex_odd r h2]
    cases Vm.unhexd a <;> cases Vm.unhexd b <;> rfl
theorem ext_tail (s : ByteArray) : (s.extract 1 s.size).data.toList = s.data.toList.drop 1 := by
  have h := bstr_extract s.data.toList 1 s.size
  rw [show bstr s.data.toList = s from rfl] at h
  rw [h, bstr_data]
  exact List.take_of_length_le (by simp)
theorem ext_init (s : ByteArray) : (s.extract 0 (s.size - 1)).data.toList = s.data.toList.dropLast := by
  have h := bstr_extract s.data.toList 0 (s.size - 1)
  rw [show bstr s.data.toList = s from rfl] at h
  rw [h, bstr_data, List.drop_zero, List.dropLast_eq_take]
  simp
theorem of_list (s : ByteArray) (a : Array UInt8) (h : s.data.toList = a.toList) : s = ⟨a⟩ := by
  apply ByteArray.ext; exact Array.toList_inj.1 h
theorem ne_list (s : ByteArray) (l : List UInt8) (h : s.data.toList ≠ l) : (s.toList == l) = false := by
  rw [Lib.toList_data]
  exact beq_eq_false_iff_ne.2 h
theorem byte_q (c d : UInt8) (h : c ≠ d) : ((c.toNat : Int) == (d.toNat : Int)) = false := by
  rw [beq_eq_false_iff_ne]; intro e; exact h (UInt8.toNat_inj.1 (by omega))

theorem ref3_parse (s : ByteArray) (w : World) (hz : s.size ≤ 1000) : Calls Tryz.prog 26 #[.string s] w (ValB (Vm.parse s.data.toList) w) := by
  by_cases e1 : s.data.toList = [78, 85, 76, 76]
  · rw [of_list s #[78, 85, 76, 76] e1]; exact prs_null w
  by_cases e2 : s.data.toList = [84, 82, 85, 69]
  · rw [of_list s #[84, 82, 85, 69] e2]; exact prs_true w
  by_cases e3 : s.data.toList = [70, 65, 76, 83, 69]
  · rw [of_list s #[70, 65, 76, 83, 69] e3]; exact prs_false w
  by_cases e4 : s.data.toList = []
  · rw [of_list s #[] e4]; exact prs_empty w
  have k1 := ne_list s _ e1
  have k2 := ne_list s _ e2
  have k3 := ne_list s _ e3
  have h0 : 0 < s.size := by
    rcases Nat.eq_zero_or_pos s.size with h | h
    · exact absurd (List.eq_nil_of_length_eq_zero (by simpa using h)) e4
    · exact h
  have k4 : s.toList.isEmpty = false := toList_nonempty s (by omega)
  have hhd := head_at s h0
  unfold Vm.parse
  rw [if_neg e1, if_neg e2, if_neg e3, hhd]
  by_cases h39 : s[0] = 39
  · rw [if_pos (by rw [h39])]
    cases hi : Vm.inner s.data.toList with
    | none => exact prs_text_no s w hz h0 h39 k1 k2 k3 k4 hi
    | some t =>
      have hl := inner_len _ _ hi
      have hl2 : s.data.toList.length = s.size := by simp
      have h := prs_text_some s (bstr t) (Vm.rightB ⟨4, 0, 0, bstr t⟩) w hz h0 h39 k1 k2 k3 k4 hi (by rw [bstr_size]; omega) rfl
      exact h
  · rw [if_neg (by simpa using h39)]
    by_cases h88 : s[0] = 88
    · rw [if_pos (by rw [h88]), ← ext_tail s]
      cases hi : Vm.inner (s.extract 1 s.size).data.toList with
      | none => exact prs_hex_no s w hz h0 h88 k1 k2 k3 k4 hi
      | some t =>
        have hl := inner_len _ _ hi
        have hl2 : (s.extract 1 s.size).data.toList.length = s.size - 1 := by rw [ext_tail]; simp
        have hT : (bstr t).size ≤ 1000 := by rw [bstr_size]; omega
        by_cases ho : (bstr t).size % 2 = 1
        · have hu : Vm.unhex t = none := unhex_odd t (by rw [← bstr_size]; exact ho)
          have h := prs_hex_odd s (bstr t) w hz h0 h88 k1 k2 k3 k4 hi hT (by rw [beq_iff_eq]; omega)
          show Calls _ _ _ _ (ValB (match Vm.unhex t with | none => (Vm.nil, false) | some t => Vm.ok ⟨5, 0, 0, ⟨t.toArray⟩⟩) w)
          rw [hu]; exact h
        · have h := prs_hex_even s (bstr t) w hz h0 h88 k1 k2 k3 k4 hi hT (by omega) (by rw [beq_eq_false_iff_ne]; omega)
          show Calls _ _ _ _ (ValB (match Vm.unhex t with | none => (Vm.nil, false) | some t => Vm.ok ⟨5, 0, 0, ⟨t.toArray⟩⟩) w)
          have h' : Calls Tryz.prog 26 #[.string s] w (ValB (fin5 (Vm.unhex t)) w) := h
          cases hu : Vm.unhex t with
          | none => rw [hu] at h'; exact h'
          | some u => rw [hu] at h'; exact h'
    · rw [if_neg (by simpa using h88)]
      have q39 : ((s[0].toNat : Int) == 39) = false := byte_q s[0] 39 h39
      have q88 : ((s[0].toNat : Int) == 88) = false := byte_q s[0] 88 h88
      unfold Vm.number
      rw [last_at s h0]
      by_cases h46 : s[s.size - 1]'(by omega) = 46
      · rw [if_pos (by rw [h46]), ← ext_init s]
        have q46 : (((s[s.size - 1]'(by omega)).toNat : Int) == 46) = true := by rw [h46]; rfl
        obtain ⟨⟨n, k, b⟩, hp⟩ : ∃ p, Pm.parseM (s.extract 0 (s.size - 1)).data.toList = p := ⟨_, rfl⟩
        rw [hp]
        cases b
        · rw [if_neg (by simp)]; exact prs_dot_no s n k w hz h0 q39 q88 k1 k2 k3 k4 q46 hp
        · by_cases hk : 0 < k
          · rw [if_neg (by simp [hk])]; exact prs_dot_k s n k w hz h0 q39 q88 k1 k2 k3 k4 q46 hp hk
          · rw [if_pos ⟨rfl, hk⟩]; exact prs_dot_ok s n k w hz h0 q39 q88 k1 k2 k3 k4 q46 hp (by omega)
      · rw [if_neg (by simpa using h46)]
        have q46 : (((s[s.size - 1]'(by omega)).toNat : Int) == 46) = false := byte_q _ 46 h46
        obtain ⟨⟨n, k, b⟩, hp⟩ : ∃ p, Pm.parseM s.data.toList = p := ⟨_, rfl⟩
        rw [hp]
        cases b
        · rw [if_neg (by simp)]; exact prs_num_no s n k w hz h0 q39 q88 k1 k2 k3 k4 q46 hp
        · rw [if_pos rfl]
          by_cases hk : 0 < k
          · rw [if_pos hk]; exact prs_num_dec s n k w hz h0 q39 q88 k1 k2 k3 k4 q46 hp hk
          · rw [if_neg hk]; exact prs_num_int s n k w hz h0 q39 q88 k1 k2 k3 k4 q46 hp (by omega)
end Go.Proofs.YtpbmjknhfgdnnaaGreatDoor
