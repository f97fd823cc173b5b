/- The reference of layer 3: Right whole, Type, Plain, Of. -/
import Derived.Test.YtfnnhhhkdfgefaaGreatDoorValRa
import Derived.Test.YtfnnhhhkdfgefaaGreatDoorValR3
namespace Go.Proofs.YtfnnhhhkdfgefaaGreatDoor
open Go.RowKit

theorem ref3_right4 (n sc : Int) (s : ByteArray) (w : World) (hz : s.size ≤ maxLen) : Calls Tryz.prog 27 #[.agg #[.int .i64 4, .int .i64 n, .int .i64 sc, .string s]] w (Says (Vm.rightB ⟨4, n, sc, s⟩) w) := by
  unfold maxLen at hz
  by_cases hl : s.size ≤ 200
  · have he := val_eql 4 n sc s 4 0 0 s
    have hr : Vm.rightB ⟨4, n, sc, s⟩ = (Lib.validD s.data.toList && eqB 4 n sc s 4 0 0 s) := by
      unfold eqB; simp [Vm.rightB, hl, beq_dec, Bool.and_comm]
    rw [hr]
    clear hr
    have hl2 : (s.size : Int) ≤ 200 := by omega
    have HU := Lib.hid (ref3_utf s · (by omega))
    revert HU
    generalize Lib.validD s.data.toList = b
    intro HU
    cases b
    all_goals
      go_enter Tryz.func27, Tryz.ntmps27
      go_wp2_with fail
      refine (HU.out _).mono ?_
      rintro e w1 ⟨rfl, rfl⟩
      go_wp2
      go_ret
      exact Says.mk rfl (two w _ _)
  · have hr : Vm.rightB ⟨4, n, sc, s⟩ = false := by simp [Vm.rightB, hl]
    rw [hr]
    clear hr
    have hl2 : (200 : Int) < (s.size : Int) := by omega
    go_enter Tryz.func27, Tryz.ntmps27
    go_wp2
    go_ret
    exact Says.mk rfl (two w _ _)
theorem ref3_right (k n sc : Int) (s : ByteArray) (w : World) (hz : s.size ≤ maxLen) : Calls Tryz.prog 27 #[.agg #[.int .i64 k, .int .i64 n, .int .i64 sc, .string s]] w (Says (Vm.rightB ⟨k, n, sc, s⟩) w) := by
  by_cases hk : 0 ≤ k ∧ k ≤ 5
  · rcases (show k = 0 ∨ k = 1 ∨ k = 2 ∨ k = 3 ∨ k = 4 ∨ k = 5 by omega) with rfl | rfl | rfl | rfl | rfl | rfl
    · exact ref3_right0 n sc s w
    · exact ref3_right1 n sc s w
    · exact ref3_right2 n sc s w
    · exact ref3_right3 n sc s w
    · exact ref3_right4 n sc s w hz
    · exact ref3_right5 n sc s w hz
  · exact ref3_rightX k n sc s w hk
theorem ref3_type (k sc : Int) (w : World) : Calls Tryz.prog 22 #[.agg #[.int .i64 k, .int .i64 sc]] w (Says (Vm.typeB k sc) w) := by
  by_cases hk : k = 1 ∨ k = 2 ∨ k = 4 ∨ k = 5
  · have hr : Vm.typeB k sc = (sc == 0) := by unfold Vm.typeB; rw [if_pos hk, beq_dec]
    rw [hr]
    clear hr
    rcases hk with rfl | rfl | rfl | rfl
    all_goals
      go_enter Tryz.func22, Tryz.ntmps22
      go_wp2
      go_ret
      exact Says.mk rfl ((Below.refl _ _).alloc (Nat.le_refl _) _)
  · by_cases h3 : k = 3
    · subst h3
      have hr : Vm.typeB 3 sc = scB sc := by unfold Vm.typeB; rw [if_neg hk, if_pos rfl]
      rw [hr]
      clear hr
      go_enter Tryz.func22, Tryz.ntmps22
      go_wp2_with fail
      refine (ref_scale sc _).mono ?_
      rintro e w1 ⟨rfl, rfl⟩
      go_wp2
      go_ret
      exact Says.mk rfl ((Below.refl _ _).alloc (Nat.le_refl _) _)
    · have hr : Vm.typeB k sc = false := by unfold Vm.typeB; rw [if_neg hk, if_neg h3]
      rw [hr]
      clear hr
      have q1 : (k == 1) = false := by rw [beq_eq_false_iff_ne]; omega
      have q2 : (k == 2) = false := by rw [beq_eq_false_iff_ne]; omega
      have q3 : (k == 3) = false := by rw [beq_eq_false_iff_ne]; omega
      have q4 : (k == 4) = false := by rw [beq_eq_false_iff_ne]; omega
      have q5 : (k == 5) = false := by rw [beq_eq_false_iff_ne]; omega
      clear hk h3
      go_enter Tryz.func22, Tryz.ntmps22
      go_wp2
      go_ret
      exact Says.mk rfl ((Below.refl _ _).alloc (Nat.le_refl _) _)
theorem bcell3 {W w1 : World} (hb : Below W.heap.size W w1) : (∀ b o, b < W.heap.size → w1.cell? ⟨b, o, none⟩ = W.cell? ⟨b, o, none⟩) ∧ (∀ b o, b < W.heap.size → w1.frozen? ⟨b, o, none⟩ = W.frozen? ⟨b, o, none⟩) :=
  ⟨fun b o h => hb.cell (p := ⟨b, o, none⟩) h, fun b o h => hb.frozen (p := ⟨b, o, none⟩) h⟩
theorem set4 {B g : Nat} {a w : World} (h : Below B a w) (hg : B ≤ g) (x y z u : Value) : Below B a ((((w.setCell ⟨g, 0, none⟩ x).setCell ⟨g, 1, none⟩ y).setCell ⟨g, 2, none⟩ z).setCell ⟨g, 3, none⟩ u) :=
  (((h.setCell hg x).setCell hg y).setCell hg z).setCell hg u
/-- what a function that answers a value leaves -/
def Val (c : Vm.Cl) (w : World) (e : Ending) (w' : World) : Prop := e = .returned (.agg #[.int .i64 c.k, .int .i64 c.n, .int .i64 c.sc, .string c.s]) ∧ Below w.heap.size w w'
/-- a value that lies in a block of its own -/
structure Bx (g : Nat) (k n sc : Int) (s : ByteArray) (w : World) : Prop where
  c0 : w.cell? ⟨g, 0, none⟩ = some (.int .i64 k)
  c1 : w.cell? ⟨g, 1, none⟩ = some (.int .i64 n)
  c2 : w.cell? ⟨g, 2, none⟩ = some (.int .i64 sc)
  c3 : w.cell? ⟨g, 3, none⟩ = some (.string s)
  lt : g < w.heap.size
theorem Bx.keep {g : Nat} {k n sc : Int} {s : ByteArray} {w w' : World} (h : Bx g k n sc s w) (hb : Below w.heap.size w w') : Bx g k n sc s w' :=
  ⟨(hb.cell (p := ⟨g, 0, none⟩) h.lt).trans h.c0, (hb.cell (p := ⟨g, 1, none⟩) h.lt).trans h.c1, (hb.cell (p := ⟨g, 2, none⟩) h.lt).trans h.c2, (hb.cell (p := ⟨g, 3, none⟩) h.lt).trans h.c3, by have := h.lt; have := hb.size; omega⟩
theorem ref3_plain (k n sc : Int) (s : ByteArray) (w : World) (hz : s.size ≤ maxLen) : Calls Tryz.prog 23 #[.agg #[.int .i64 k, .int .i64 n, .int .i64 sc, .string s]] w (Val (Vm.plain ⟨k, n, sc, s⟩) w) := by
  have HR := Lib.hid (ref3_right k n sc s · hz)
  unfold Vm.plain
  revert HR
  generalize Vm.rightB ⟨k, n, sc, s⟩ = b
  intro HR
  clear hz
  cases b
  · show Calls _ _ _ _ (Val Vm.nil w)
    go_enter Tryz.func23, Tryz.ntmps23
    go_wp2_with fail
    refine (HR.out _).mono ?_
    rintro e w1 ⟨rfl, hb⟩
    have HB := Lib.hid hb
    obtain ⟨hc, hf⟩ := bcell3 hb
    have hlt : w.heap.size + 1 < w1.heap.size := by have := hb.size; simp at this; omega
    clear hb HR
    go_wp2
    refine bodyPost_ret (v := .agg #[.int .i64 0, .int .i64 0, .int .i64 0, .string ⟨#[]⟩]) (by simp [results, Tryz.results23, go_sem, hc]) rfl ⟨rfl, ?_⟩
    exact set4 ((two w _ _).trans (HB.out.mono (by simp; omega))) (Nat.le_succ _) _ _ _ _
  · show Calls _ _ _ _ (Val ⟨k, n, sc, s⟩ w)
    go_enter Tryz.func23, Tryz.ntmps23
    go_wp2_with fail
    refine (HR.out _).mono ?_
    rintro e w1 ⟨rfl, hb⟩
    have HB := Lib.hid hb
    obtain ⟨hc, hf⟩ := bcell3 hb
    have hlt : w.heap.size + 1 < w1.heap.size := by have := hb.size; simp at this; omega
    clear hb HR
    go_wp2
    refine bodyPost_ret (v := .agg #[.int .i64 k, .int .i64 n, .int .i64 sc, .string s]) (by simp [results, Tryz.results23, go_sem, hc]) rfl ⟨rfl, ?_⟩
    exact set4 ((two w _ _).trans (HB.out.mono (by simp; omega))) (Nat.le_succ _) _ _ _ _
end Go.Proofs.YtfnnhhhkdfgefaaGreatDoor
/- The reference of layer 3: Of. -/
namespace Go.Proofs.YtfnnhhhkdfgefaaGreatDoor
open Go.RowKit

theorem Bx.new (w : World) (k n sc : Int) (s : ByteArray) (t : TypeId) : Bx w.heap.size k n sc s (w.alloc (.cells #[.int .i64 k, .int .i64 n, .int .i64 sc, .string s] t)) :=
  ⟨by simp, by simp, by simp, by simp, by simp⟩
theorem Bx.alloc {g : Nat} {k n sc : Int} {s : ByteArray} {w : World} (h : Bx g k n sc s w) (x : Obj) : Bx g k n sc s (w.alloc x) := h.keep ((Below.refl _ _).alloc (Nat.le_refl _) _)
/-- a type that lies in a block of its own -/
structure Tx (g : Nat) (k sc : Int) (w : World) : Prop where
  c0 : w.cell? ⟨g, 0, none⟩ = some (.int .i64 k)
  c1 : w.cell? ⟨g, 1, none⟩ = some (.int .i64 sc)
  lt : g < w.heap.size
theorem Tx.keep {g : Nat} {k sc : Int} {w w' : World} (h : Tx g k sc w) (hb : Below w.heap.size w w') : Tx g k sc w' :=
  ⟨(hb.cell (p := ⟨g, 0, none⟩) h.lt).trans h.c0, (hb.cell (p := ⟨g, 1, none⟩) h.lt).trans h.c1, by have := h.lt; have := hb.size; omega⟩
theorem Tx.new (w : World) (k sc : Int) (t : TypeId) : Tx w.heap.size k sc (w.alloc (.cells #[.int .i64 k, .int .i64 sc] t)) := ⟨by simp, by simp, by simp⟩
set_option maxHeartbeats 1000000 in
theorem ref3_of (k n sc : Int) (s : ByteArray) (tk ts : Int) (w : World) (hz : s.size ≤ maxLen) :
    Calls Tryz.prog 10 #[.agg #[.int .i64 k, .int .i64 n, .int .i64 sc, .string s], .agg #[.int .i64 tk, .int .i64 ts]] w (Says (Vm.ofB ⟨k, n, sc, s⟩ tk ts) w) := by
  have HT := Lib.hid (ref3_type tk ts)
  have HR := Lib.hid (ref3_right k n sc s · hz)
  have HO : Hid (Vm.ofB ⟨k, n, sc, s⟩ tk ts = (Vm.typeB tk ts && Vm.rightB ⟨k, n, sc, s⟩ && ((k == 0) || ((k == tk) && (sc == ts))))) := by
    show _ = _
    unfold Vm.ofB; rw [beq_dec, beq_dec, beq_dec]
  obtain ⟨PL, hPL⟩ : ∃ PL, PL = Vm.ofB ⟨k, n, sc, s⟩ tk ts := ⟨_, rfl⟩
  rw [← hPL] at HO ⊢
  clear hPL hz
  revert HT HR HO
  generalize Vm.typeB tk ts = b1
  generalize Vm.rightB ⟨k, n, sc, s⟩ = b2
  intro HT HR HO
  have V0 := Lib.hid (((Bx.new w k n sc s 24).alloc (.cells #[.int .i64 tk, .int .i64 ts] 26)))
  have T0 : Hid (Tx (w.heap.size + 1) tk ts ((w.alloc (.cells #[.int .i64 k, .int .i64 n, .int .i64 sc, .string s] 24)).alloc (.cells #[.int .i64 tk, .int .i64 ts] 26))) := by
    have h := Tx.new (w.alloc (.cells #[.int .i64 k, .int .i64 n, .int .i64 sc, .string s] 24)) tk ts 26
    rw [show (w.alloc (.cells #[.int .i64 k, .int .i64 n, .int .i64 sc, .string s] 24)).heap.size = w.heap.size + 1 by simp] at h
    exact h
  cases b1
  · go_enter Tryz.func10, Tryz.ntmps10
    go_wp2_with fail
    refine (HT.out _).mono ?_
    rintro e w1 ⟨rfl, hb⟩
    have HB := Lib.hid ((two w _ _).trans (hb.mono (by simp; omega)))
    clear hb HT HR
    go_wp2
    go_ret
    exact Says.mk (by rw [HO.out]; rfl) HB.out
  · cases b2
    · go_enter Tryz.func10, Tryz.ntmps10
      go_wp2_with fail
      refine (HT.out _).mono ?_
      rintro e w1 ⟨rfl, hb⟩
      have HB := Lib.hid ((two w _ _).trans (hb.mono (by simp; omega)))
      have V1 := Lib.hid (V0.out.keep hb)
      have d0 := V1.out.c0; have d1 := V1.out.c1; have d2 := V1.out.c2; have d3 := V1.out.c3
      clear hb HT
      go_wp2_with fail
      refine (HR.out _).mono ?_
      rintro e w2 ⟨rfl, hb⟩
      have HB2 := Lib.hid (HB.out.trans (hb.mono HB.out.size))
      clear hb HR d0 d1 d2 d3
      go_wp2
      go_ret
      exact Says.mk (by rw [HO.out]; rfl) HB2.out
    · obtain ⟨x0, hx0⟩ : ∃ x0, (k == 0) = x0 := ⟨_, rfl⟩
      obtain ⟨x1, hx1⟩ : ∃ x1, (k == tk) = x1 := ⟨_, rfl⟩
      obtain ⟨x2, hx2⟩ : ∃ x2, (sc == ts) = x2 := ⟨_, rfl⟩
      rw [hx0, hx1, hx2] at HO
      cases x0
      · cases x1
        all_goals
          go_enter Tryz.func10, Tryz.ntmps10
          go_wp2_with fail
          refine (HT.out _).mono ?_
          rintro e w1 ⟨rfl, hb⟩
          have HB := Lib.hid ((two w _ _).trans (hb.mono (by simp; omega)))
          have V1 := Lib.hid (V0.out.keep hb); have T1 := Lib.hid (T0.out.keep hb)
          have d0 := V1.out.c0; have d1 := V1.out.c1; have d2 := V1.out.c2; have d3 := V1.out.c3
          clear hb HT
          go_wp2_with fail
          refine (HR.out _).mono ?_
          rintro e w2 ⟨rfl, hb⟩
          have HB2 := Lib.hid (HB.out.trans (hb.mono HB.out.size))
          clear d0 d1 d2 d3
          have d0 := (V1.out.keep hb).c0; have d2 := (V1.out.keep hb).c2
          have f0 := (T1.out.keep hb).c0; have f1 := (T1.out.keep hb).c1
          clear hb HR
          go_wp2
          go_ret
          exact Says.mk (by rw [HO.out]; first | rfl | exact hx2) HB2.out
      · go_enter Tryz.func10, Tryz.ntmps10
        go_wp2_with fail
        refine (HT.out _).mono ?_
        rintro e w1 ⟨rfl, hb⟩
        have HB := Lib.hid ((two w _ _).trans (hb.mono (by simp; omega)))
        have V1 := Lib.hid (V0.out.keep hb)
        have d0 := V1.out.c0; have d1 := V1.out.c1; have d2 := V1.out.c2; have d3 := V1.out.c3
        clear hb HT
        go_wp2_with fail
        refine (HR.out _).mono ?_
        rintro e w2 ⟨rfl, hb⟩
        have HB2 := Lib.hid (HB.out.trans (hb.mono HB.out.size))
        clear d0 d1 d2 d3
        have d0 := (V1.out.keep hb).c0
        clear hb HR
        go_wp2
        go_ret
        exact Says.mk (by rw [HO.out]; rfl) HB2.out
end Go.Proofs.YtfnnhhhkdfgefaaGreatDoor
