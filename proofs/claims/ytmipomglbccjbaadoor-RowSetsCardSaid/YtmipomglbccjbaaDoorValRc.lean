/- The reference of layer 3: two values held against each other; Right but for texts; Type. -/
import Derived.Test.YtmipomglbccjbaaDoorValR1
import Derived.Laws.StructEq
import Derived.ChangeKeysEq
import Derived.Test.YtmipomglbccjbaaDoorValR2
namespace Go.Proofs.YtmipomglbccjbaaDoor
open Go.RowKit

/-- two values are one -/
def eqB (k n sc : Int) (s : ByteArray) (k' n' sc' : Int) (s' : ByteArray) : Bool := (k == k') && ((n == n') && ((sc == sc') && (s.toList == s'.toList)))
theorem part_at (t : TypeId) (ht : Tryd.prog.plainKey t = true) (xs : Array Value) (i : Nat) (v : Value) (h : xs[i]? = some v) (w : World) : (part t xs i).run Tryd.prog w = .ok v w := run_part_plain w ht h
theorem val_eqlIn (k n sc : Int) (s : ByteArray) (k' n' sc' : Int) (s' : ByteArray) (w : World) :
    (Op.equalIn 10000 36 (.agg #[.int .i64 k, .int .i64 n, .int .i64 sc, .string s]) (.agg #[.int .i64 k', .int .i64 n', .int .i64 sc', .string s'])).run Tryd.prog w = .ok (eqB k n sc s k' n' sc' s') w := by
  have ht : Tryd.prog.underlying 36 = some (.struct (Tryd.prog.fieldsOf 36)) := by kernel_rfl
  have hp : Tryd.prog.stoodInHeld 36 = false := by kernel_rfl
  rw [run_equalIn_agg w 9999 _ _ _ ht hp]
  have h3 : Tryd.prog.plainKey 3 = true := by kernel_rfl
  have hk : Tryd.prog.plainKey 34 = true := by kernel_rfl
  have hs : Tryd.prog.plainKey 9 = true := by kernel_rfl
  have e0 := fun (a b : Int) (W : World) => run_equalIn_int W 9998 34 .i64 .i64 a b Tryd.underlying34
  have e1 := fun (a b : Int) (W : World) => run_equalIn_int W 9998 3 .i64 .i64 a b Tryd.underlying3
  have e2 := fun (a b : ByteArray) (W : World) => run_equalIn_string W 9998 9 a b Tryd.underlying9
  simp only [Program.fieldsOf, Tryd.underlying36, Op.eqFields, Sem.run_bind, Sem.run_ite, ne_eq, String.reduceEq, not_false_eq_true, if_true]
  have q0 := part_at _ hk #[.int .i64 k, .int .i64 n, .int .i64 sc, .string s] 0 (.int .i64 k) rfl
  have q1 := part_at _ h3 #[.int .i64 k, .int .i64 n, .int .i64 sc, .string s] 1 (.int .i64 n) rfl
  have q2 := part_at _ h3 #[.int .i64 k, .int .i64 n, .int .i64 sc, .string s] 2 (.int .i64 sc) rfl
  have q3 := part_at _ hs #[.int .i64 k, .int .i64 n, .int .i64 sc, .string s] 3 (.string s) rfl
  have r0 := part_at _ hk #[.int .i64 k', .int .i64 n', .int .i64 sc', .string s'] 0 (.int .i64 k') rfl
  have r1 := part_at _ h3 #[.int .i64 k', .int .i64 n', .int .i64 sc', .string s'] 1 (.int .i64 n') rfl
  have r2 := part_at _ h3 #[.int .i64 k', .int .i64 n', .int .i64 sc', .string s'] 2 (.int .i64 sc') rfl
  have r3 := part_at _ hs #[.int .i64 k', .int .i64 n', .int .i64 sc', .string s'] 3 (.string s') rfl
  simp only [q0, r0, q1, r1, q2, r2, q3, r3, Result.andThen_ok, e0, e1, e2]
  unfold eqB
  cases k == k' <;> cases n == n' <;> cases sc == sc' <;> cases s.toList == s'.toList <;> rfl
theorem val_eql (k n sc : Int) (s : ByteArray) (k' n' sc' : Int) (s' : ByteArray) (w : World) :
    (binOp .eql 36 (.agg #[.int .i64 k, .int .i64 n, .int .i64 sc, .string s]) (.agg #[.int .i64 k', .int .i64 n', .int .i64 sc', .string s'])).run Tryd.prog w = .ok (.bool (eqB k n sc s k' n' sc' s')) w := by
  rw [run_eql_struct, val_eqlIn]; rfl
theorem toList_nil (s : ByteArray) : (s.toList == (⟨#[]⟩ : ByteArray).toList) = decide (s.size = 0) := by
  rw [Lib.toList_data, Lib.toList_data]
  show (s.data.toList == []) = _
  have h : s.data.toList.length = s.size := by simp
  cases hs : s.data.toList with
  | nil => rw [hs] at h; simp at h; simp [← h]
  | cons a b => rw [hs] at h; simp at h; rw [decide_eq_false (by omega)]; rfl
theorem beq_dec (a b : Int) : (a == b) = decide (a = b) := by rw [Bool.eq_iff_iff]; simp
theorem eqB_nil (k n sc : Int) (s : ByteArray) (k' n' sc' : Int) : eqB k n sc s k' n' sc' ⟨#[]⟩ = (decide (k = k') && (decide (n = n') && (decide (sc = sc') && decide (s.size = 0)))) := by
  unfold eqB; rw [toList_nil, beq_dec, beq_dec, beq_dec]
theorem toList_eq (s t : ByteArray) : (s.toList == t.toList) = decide (s = t) := by
  rw [Bool.eq_iff_iff]
  simp only [beq_iff_eq, decide_eq_true_eq, Lib.toList_data]
  constructor
  · intro h; apply ByteArray.ext; exact Array.toList_inj.1 h
  · intro h; rw [h]
theorem eqB_val (a b : Vm.Cl) : eqB a.k a.n a.sc a.s b.k b.n b.sc b.s = decide (a = b) := by
  unfold eqB
  rw [toList_eq, beq_dec, beq_dec, beq_dec, Bool.eq_iff_iff]
  cases a; cases b
  simp
theorem eqB_self (k n sc : Int) (s : ByteArray) : eqB k n sc s k n sc s = true := by simp [eqB]
theorem two (w : World) (x y : Obj) : Below w.heap.size w ((w.alloc x).alloc y) := ((Below.refl _ _).alloc (Nat.le_refl _) _).alloc (by simp) _
def Says (b : Bool) (w : World) (e : Ending) (w' : World) : Prop := e = .returned (.bool b) ∧ Below w.heap.size w w'
theorem Says.mk {a b : Bool} {w w' : World} (h : a = b) (hb : Below w.heap.size w w') : Says b w (.returned (.bool a)) w' := ⟨by rw [h], hb⟩
theorem ref3_right0 (n sc : Int) (s : ByteArray) (w : World) : Calls Tryd.prog 26 #[.agg #[.int .i64 0, .int .i64 n, .int .i64 sc, .string s]] w (Says (Vm.rightB ⟨0, n, sc, s⟩) w) := by
  have he := val_eql 0 n sc s 0 0 0 ⟨#[]⟩
  go_enter Tryd.func26, Tryd.ntmps26
  go_wp2
  go_ret
  refine Says.mk ?_ (((Below.refl _ _).alloc (Nat.le_refl _) _).alloc (by simp) _)
  show eqB 0 n sc s 0 0 0 ⟨#[]⟩ = _
  rw [eqB_nil]
  simp [Vm.rightB, Bool.and_assoc]
theorem ref3_right1 (n sc : Int) (s : ByteArray) (w : World) : Calls Tryd.prog 26 #[.agg #[.int .i64 1, .int .i64 n, .int .i64 sc, .string s]] w (Says (Vm.rightB ⟨1, n, sc, s⟩) w) := by
  by_cases h : n = 0 ∨ n = 1
  · have he := val_eql 1 n sc s 1 n 0 ⟨#[]⟩
    have hr : Vm.rightB ⟨1, n, sc, s⟩ = eqB 1 n sc s 1 n 0 ⟨#[]⟩ := by
      rw [eqB_nil]
      rcases h with rfl | rfl <;> simp [Vm.rightB]
    rw [hr]
    clear hr
    rcases h with rfl | rfl
    all_goals
      go_enter Tryd.func26, Tryd.ntmps26
      go_wp2
      go_ret
      exact Says.mk rfl (two w _ _)
  · have hr : Vm.rightB ⟨1, n, sc, s⟩ = false := by
      simp [Vm.rightB]; intro h'; exact absurd h' (by omega)
    rw [hr]
    clear hr
    have q0 : (n != 0) = true := by simp; omega
    have q1 : (n != 1) = true := by simp; omega
    clear h
    go_enter Tryd.func26, Tryd.ntmps26
    go_wp2
    go_ret
    exact Says.mk rfl (two w _ _)
theorem ref3_right2 (n sc : Int) (s : ByteArray) (w : World) : Calls Tryd.prog 26 #[.agg #[.int .i64 2, .int .i64 n, .int .i64 sc, .string s]] w (Says (Vm.rightB ⟨2, n, sc, s⟩) w) := by
  have he := val_eql 2 n sc s 2 n 0 ⟨#[]⟩
  have hr : Vm.rightB ⟨2, n, sc, s⟩ = eqB 2 n sc s 2 n 0 ⟨#[]⟩ := by
    rw [eqB_nil]; simp [Vm.rightB]
  rw [hr]
  clear hr
  go_enter Tryd.func26, Tryd.ntmps26
  go_wp2
  go_ret
  exact Says.mk rfl (two w _ _)
theorem ref3_right3 (n sc : Int) (s : ByteArray) (w : World) : Calls Tryd.prog 26 #[.agg #[.int .i64 3, .int .i64 n, .int .i64 sc, .string s]] w (Says (Vm.rightB ⟨3, n, sc, s⟩) w) := by
  have he := val_eql 3 n sc s 3 n sc ⟨#[]⟩
  have hr : Vm.rightB ⟨3, n, sc, s⟩ = (scB sc && eqB 3 n sc s 3 n sc ⟨#[]⟩) := by
    rw [eqB_nil]; simp [Vm.rightB]
  rw [hr]
  clear hr
  cases hs : scB sc
  all_goals
    have HS := Lib.hid hs
    clear hs
    go_enter Tryd.func26, Tryd.ntmps26
    go_wp2_with fail
    refine (ref_scale sc _).mono ?_
    rintro e w1 ⟨rfl, rfl⟩
    rw [HS.out]
    go_wp2
    go_ret
    exact Says.mk rfl (two w _ _)
theorem ref3_right5 (n sc : Int) (s : ByteArray) (w : World) (hz : s.size ≤ maxLen) : Calls Tryd.prog 26 #[.agg #[.int .i64 5, .int .i64 n, .int .i64 sc, .string s]] w (Says (Vm.rightB ⟨5, n, sc, s⟩) w) := by
  unfold maxLen at hz
  by_cases hl : s.size ≤ 200
  · have he := val_eql 5 n sc s 5 0 0 s
    have hr : Vm.rightB ⟨5, n, sc, s⟩ = eqB 5 n sc s 5 0 0 s := by
      unfold eqB; simp [Vm.rightB, hl, beq_dec]
    rw [hr]
    clear hr
    have hl2 : (s.size : Int) ≤ 200 := by omega
    go_enter Tryd.func26, Tryd.ntmps26
    go_wp2
    go_ret
    exact Says.mk rfl (two w _ _)
  · have hr : Vm.rightB ⟨5, n, sc, s⟩ = false := by simp [Vm.rightB, hl]
    rw [hr]
    clear hr
    have hl2 : (200 : Int) < (s.size : Int) := by omega
    go_enter Tryd.func26, Tryd.ntmps26
    go_wp2
    go_ret
    exact Says.mk rfl (two w _ _)
theorem ref3_rightX (k n sc : Int) (s : ByteArray) (w : World) (hk : ¬ (0 ≤ k ∧ k ≤ 5)) : Calls Tryd.prog 26 #[.agg #[.int .i64 k, .int .i64 n, .int .i64 sc, .string s]] w (Says (Vm.rightB ⟨k, n, sc, s⟩) w) := by
  have hr : Vm.rightB ⟨k, n, sc, s⟩ = false := by
    unfold Vm.rightB
    rw [if_neg (by show k ≠ 0; omega), if_neg (by show k ≠ 1; omega), if_neg (by show k ≠ 2; omega), if_neg (by show k ≠ 3; omega), if_neg (by show k ≠ 4; omega), if_neg (by show k ≠ 5; omega)]
  rw [hr]
  clear hr
  have q0 : (k == 0) = false := by rw [beq_eq_false_iff_ne]; omega
  have q1 : (k == 1) = false := by rw [beq_eq_false_iff_ne]; omega
  have q2 : (k == 2) = false := by rw [beq_eq_false_iff_ne]; omega
  have q3 : (k == 3) = false := by rw [beq_eq_false_iff_ne]; omega
  have q4 : (k == 4) = false := by rw [beq_eq_false_iff_ne]; omega
  have q5 : (k == 5) = false := by rw [beq_eq_false_iff_ne]; omega
  clear hk
  go_enter Tryd.func26, Tryd.ntmps26
  go_wp2
  go_ret
  exact Says.mk rfl (two w _ _)
end Go.Proofs.YtmipomglbccjbaaDoor
/- The reference of layer 3: Right whole, Type, Plain, Of. -/
namespace Go.Proofs.YtmipomglbccjbaaDoor
open Go.RowKit

theorem ref3_right4 (n sc : Int) (s : ByteArray) (w : World) (hz : s.size ≤ maxLen) : Calls Tryd.prog 26 #[.agg #[.int .i64 4, .int .i64 n, .int .i64 sc, .string s]] w (Says (Vm.rightB ⟨4, n, sc, s⟩) w) := by
  unfold maxLen at hz
  by_cases hl : s.size ≤ 200
  · have he := val_eql 4 n sc s 4 0 0 s
    have hr : Vm.rightB ⟨4, n, sc, s⟩ = (Lib.validD s.data.toList && eqB 4 n sc s 4 0 0 s) := by
      unfold eqB; simp [Vm.rightB, hl, beq_dec, Bool.and_comm]
    rw [hr]
    clear hr
    have hl2 : (s.size : Int) ≤ 200 := by omega
    have HU := Lib.hid (ref3_utf s · (by omega))
    revert HU
    generalize Lib.validD s.data.toList = b
    intro HU
    cases b
    all_goals
      go_enter Tryd.func26, Tryd.ntmps26
      go_wp2_with fail
      refine (HU.out _).mono ?_
      rintro e w1 ⟨rfl, rfl⟩
      go_wp2
      go_ret
      exact Says.mk rfl (two w _ _)
  · have hr : Vm.rightB ⟨4, n, sc, s⟩ = false := by simp [Vm.rightB, hl]
    rw [hr]
    clear hr
    have hl2 : (200 : Int) < (s.size : Int) := by omega
    go_enter Tryd.func26, Tryd.ntmps26
    go_wp2
    go_ret
    exact Says.mk rfl (two w _ _)
theorem ref3_right (k n sc : Int) (s : ByteArray) (w : World) (hz : s.size ≤ maxLen) : Calls Tryd.prog 26 #[.agg #[.int .i64 k, .int .i64 n, .int .i64 sc, .string s]] w (Says (Vm.rightB ⟨k, n, sc, s⟩) w) := by
  by_cases hk : 0 ≤ k ∧ k ≤ 5
  · rcases (show k = 0 ∨ k = 1 ∨ k = 2 ∨ k = 3 ∨ k = 4 ∨ k = 5 by omega) with rfl | rfl | rfl | rfl | rfl | rfl
    · exact ref3_right0 n sc s w
    · exact ref3_right1 n sc s w
    · exact ref3_right2 n sc s w
    · exact ref3_right3 n sc s w
    · exact ref3_right4 n sc s w hz
    · exact ref3_right5 n sc s w hz
  · exact ref3_rightX k n sc s w hk
theorem bcell3 {W w1 : World} (hb : Below W.heap.size W w1) : (∀ b o, b < W.heap.size → w1.cell? ⟨b, o, none⟩ = W.cell? ⟨b, o, none⟩) ∧ (∀ b o, b < W.heap.size → w1.frozen? ⟨b, o, none⟩ = W.frozen? ⟨b, o, none⟩) :=
  ⟨fun b o h => hb.cell (p := ⟨b, o, none⟩) h, fun b o h => hb.frozen (p := ⟨b, o, none⟩) h⟩
theorem set4 {B g : Nat} {a w : World} (h : Below B a w) (hg : B ≤ g) (x y z u : Value) : Below B a ((((w.setCell ⟨g, 0, none⟩ x).setCell ⟨g, 1, none⟩ y).setCell ⟨g, 2, none⟩ z).setCell ⟨g, 3, none⟩ u) :=
  (((h.setCell hg x).setCell hg y).setCell hg z).setCell hg u
/-- what a function that answers a value leaves -/
def Val (c : Vm.Cl) (w : World) (e : Ending) (w' : World) : Prop := e = .returned (.agg #[.int .i64 c.k, .int .i64 c.n, .int .i64 c.sc, .string c.s]) ∧ Below w.heap.size w w'
/-- a value that lies in a block of its own -/
structure Bx (g : Nat) (k n sc : Int) (s : ByteArray) (w : World) : Prop where
  c0 : w.cell? ⟨g, 0, none⟩ = some (.int .i64 k)
  c1 : w.cell? ⟨g, 1, none⟩ = some (.int .i64 n)
  c2 : w.cell? ⟨g, 2, none⟩ = some (.int .i64 sc)
  c3 : w.cell? ⟨g, 3, none⟩ = some (.string s)
  lt : g < w.heap.size
theorem Bx.keep {g : Nat} {k n sc : Int} {s : ByteArray} {w w' : World} (h : Bx g k n sc s w) (hb : Below w.heap.size w w') : Bx g k n sc s w' :=
  ⟨(hb.cell (p := ⟨g, 0, none⟩) h.lt).trans h.c0, (hb.cell (p := ⟨g, 1, none⟩) h.lt).trans h.c1, (hb.cell (p := ⟨g, 2, none⟩) h.lt).trans h.c2, (hb.cell (p := ⟨g, 3, none⟩) h.lt).trans h.c3, by have := h.lt; have := hb.size; omega⟩
end Go.Proofs.YtmipomglbccjbaaDoor
