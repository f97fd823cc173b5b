/- Package sector: count, Sectors, Waiting, Calls, Limit, kept; the calls on nil. -/
import Derived.Test.YtllbemelljaklaaSecC1
namespace Go.Proofs.Ytllbemelljaklaa
open Go.RowKit

theorem Dk.setCalls {g kb nb : Nat} {wa : Option Addr} {wc : Nat} {lim : Bool} {lf : Int} {nw : List (List UInt8)} {d : Sm.Dv} {w : World} (h : Dk g kb nb wa wc lim lf nw d w) (C : Int) : Dk g kb nb wa wc lim lf nw { d with calls := C } (w.setCell ⟨g, 3, none⟩ (.int .i64 C)) := by
  have ho : Only (fun k => k = g) w (w.setCell ⟨g, 3, none⟩ (.int .i64 C)) := Only.setCell (p := fun k => k = g) (Only.refl _ w) (q := ⟨g, 3, none⟩) (.inl rfl) _
  exact ⟨(cell_keep _ _ _ _ _ (by decide)).trans h.c0, (cell_keep _ _ _ _ _ (by decide)).trans h.c1, (cell_keep _ _ _ _ _ (by decide)).trans h.c2, World.cell?_setCell_same _ _ _ h.c3, (cell_keep _ _ _ _ _ (by decide)).trans h.c4, (cell_keep _ _ _ _ _ (by decide)).trans h.c5,
    fun o => by have := h.fz o; simpa using this, by have := h.lt; simpa using this, h.kr.keepO ho (fun e => h.e1 e.symm), h.nr.keepO ho (fun e => h.e2 e.symm), h.nl, h.n64,
    own_set h.ws _ (fun e => by
      cases wa with
      | none => cases e
      | some a => injection e with e; exact (h.ew a rfl).1 e), ⟨h.ok.k, h.ok.w⟩, h.l0, h.l1, h.e1, h.e2, h.e3, h.ew, h.po⟩
theorem Dk.setLeft {g kb nb : Nat} {wa : Option Addr} {wc : Nat} {lf : Int} {nw : List (List UInt8)} {d : Sm.Dv} {w : World} (h : Dk g kb nb wa wc true lf nw d w) (L : Int) (hL : 0 ≤ L) : Dk g kb nb wa wc true L nw { d with left := L } (w.setCell ⟨g, 5, none⟩ (.int .i64 L)) := by
  have ho : Only (fun k => k = g) w (w.setCell ⟨g, 5, none⟩ (.int .i64 L)) := Only.setCell (p := fun k => k = g) (Only.refl _ w) (q := ⟨g, 5, none⟩) (.inl rfl) _
  exact ⟨(cell_keep _ _ _ _ _ (by decide)).trans h.c0, (cell_keep _ _ _ _ _ (by decide)).trans h.c1, (cell_keep _ _ _ _ _ (by decide)).trans h.c2, (cell_keep _ _ _ _ _ (by decide)).trans h.c3, (cell_keep _ _ _ _ _ (by decide)).trans h.c4, World.cell?_setCell_same _ _ _ h.c5,
    fun o => by have := h.fz o; simpa using this, by have := h.lt; simpa using this, h.kr.keepO ho (fun e => h.e1 e.symm), h.nr.keepO ho (fun e => h.e2 e.symm), h.nl, h.n64,
    own_set h.ws _ (fun e => by
      cases wa with
      | none => cases e
      | some a => injection e with e; exact (h.ew a rfl).1 e), ⟨h.ok.k, h.ok.w⟩, (fun e => by cases e), (fun _ => ⟨rfl, hL⟩), h.e1, h.e2, h.e3, h.ew, h.po⟩
/-- a limit is set, or ended -/
theorem Dk.setLim {g kb nb : Nat} {wa : Option Addr} {wc : Nat} {lim : Bool} {lf : Int} {nw : List (List UInt8)} {d : Sm.Dv} {w : World} (h : Dk g kb nb wa wc lim lf nw d w) (b : Bool) (L L' : Int) (h0 : b = false → L' = -1) (h1 : b = true → L' = L ∧ 0 ≤ L) : Dk g kb nb wa wc b L nw { d with left := L' } ((w.setCell ⟨g, 4, none⟩ (.bool b)).setCell ⟨g, 5, none⟩ (.int .i64 L)) := by
  have ho : Only (fun k => k = g) w ((w.setCell ⟨g, 4, none⟩ (.bool b)).setCell ⟨g, 5, none⟩ (.int .i64 L)) := Only.setCell (p := fun k => k = g) (Only.setCell (p := fun k => k = g) (Only.refl _ w) (q := ⟨g, 4, none⟩) (.inl rfl) _) (q := ⟨g, 5, none⟩) (.inl rfl) _
  have hne : (Value.slice wa d.ws.length wc).ownBlock ≠ some g := fun e => by
    cases wa with
    | none => cases e
    | some a => injection e with e; exact (h.ew a rfl).1 e
  have k : ∀ j v, j ≠ 4 → j ≠ 5 → w.cell? ⟨g, j, none⟩ = some v → ((w.setCell ⟨g, 4, none⟩ (.bool b)).setCell ⟨g, 5, none⟩ (.int .i64 L)).cell? ⟨g, j, none⟩ = some v := fun j v h4 h5 hv => by
    rw [cell_keep _ _ _ _ _ (Ne.symm h5), cell_keep _ _ _ _ _ (Ne.symm h4), hv]
  exact ⟨k 0 _ (by decide) (by decide) h.c0, k 1 _ (by decide) (by decide) h.c1, k 2 _ (by decide) (by decide) h.c2, k 3 _ (by decide) (by decide) h.c3, (cell_keep _ _ _ _ _ (by decide)).trans (World.cell?_setCell_same _ _ _ h.c4), World.cell?_setCell_same _ _ _ ((cell_keep _ _ _ _ _ (by decide)).trans h.c5),
    fun o => by have := h.fz o; simpa using this, by have := h.lt; simpa using this, h.kr.keepO ho (fun e => h.e1 e.symm), h.nr.keepO ho (fun e => h.e2 e.symm), h.nl, h.n64,
    own_set (own_set h.ws _ hne) _ hne, ⟨h.ok.k, h.ok.w⟩, h0, h1, h.e1, h.e2, h.e3, h.ew, h.po⟩

set_option maxHeartbeats 1000000 in
theorem sec_count (g kb nb : Nat) (wa : Option Addr) (wc : Nat) (lim : Bool) (lf : Int) (nw : List (List UInt8)) (d : Sm.Dv) (w : World) (h : Dk g kb nb wa wc lim lf nw d w) (hc : 0 ≤ d.calls ∧ d.calls ≤ 1000000) (hl : d.left ≠ 0) (hm : d.left ≤ 9223372036854775807) :
    Calls Try.prog 25 #[.pointer (some ⟨g, 0, none⟩)] w fun e w' => e = .returned (.tuple #[]) ∧ (∃ lf', Dk g kb nb wa wc lim lf' nw (Sm.count d) w') ∧ Only (fun k => k = g) w w' := by
  have c3 := h.c3; have c4 := h.c4; have c5 := h.c5; have fz := h.fz; have lt := h.lt
  obtain ⟨C, hC⟩ : ∃ C, C = d.calls := ⟨_, rfl⟩
  rw [← hC] at c3 hc
  obtain ⟨hc1, hc2⟩ := hc
  have H1 := Lib.hid (h.setCalls (C + 1))
  have O1 : Hid (Only (fun k => k = g) w (w.setCell ⟨g, 3, none⟩ (.int .i64 (C + 1)))) := Only.setCell (p := fun k => k = g) (Only.refl _ w) (q := ⟨g, 3, none⟩) (.inl rfl) _
  cases lim with
  | false =>
    have hd := h.l0 rfl
    have HE : Hid (Sm.count d = { d with calls := C + 1 }) := by
      show _ = _
      unfold Sm.count
      rw [hC, hd]
      cases d; simp_all
    clear h hd hC hl hm
    go_enter Try.func25, Try.ntmps25
    go_wp2
    go_end0
    refine ⟨rfl, ⟨lf, ?_⟩, O1.out⟩
    rw [HE.out]; exact H1.out
  | true =>
    obtain ⟨h1, h2⟩ := h.l1 rfl
    have h0 : 0 < lf := by omega
    have h3 : lf ≤ 9223372036854775807 := by omega
    have HE : Hid (Sm.count d = { d with calls := C + 1, left := lf - 1 }) := by
      show _ = _
      unfold Sm.count
      rw [hC, h1, if_pos h0]
    have H2 := Lib.hid (H1.out.setLeft (lf - 1) (by omega))
    have b4 : (w.setCell ⟨g, 3, none⟩ (.int .i64 (C + 1))).cell? ⟨g, 4, none⟩ = some (.bool true) := (cell_keep _ _ _ _ _ (by decide)).trans c4
    have b5 : (w.setCell ⟨g, 3, none⟩ (.int .i64 (C + 1))).cell? ⟨g, 5, none⟩ = some (.int .i64 lf) := (cell_keep _ _ _ _ _ (by decide)).trans c5
    clear h h1 hC hl hm
    go_enter Try.func25, Try.ntmps25
    go_wp2
    go_end0
    refine ⟨rfl, ⟨lf - 1, ?_⟩, Only.setCell (p := fun k => k = g) O1.out (q := ⟨g, 5, none⟩) (.inl rfl) _⟩
    rw [HE.out]; exact H2.out
set_option maxHeartbeats 1000000 in
theorem sec_sectors (g kb nb : Nat) (wa : Option Addr) (wc : Nat) (lim : Bool) (lf : Int) (nw : List (List UInt8)) (d : Sm.Dv) (w : World) (h : Dk g kb nb wa wc lim lf nw d w) :
    Calls Try.prog 22 #[.pointer (some ⟨g, 0, none⟩)] w fun e w' => e = .returned (.int .i64 (d.kept.length : Int)) ∧ Below w.heap.size w w' := by
  have c0 := h.c0
  generalize d.kept.length = N at c0 ⊢
  clear h
  go_enter Try.func22, Try.ntmps22
  go_wp2
  go_ret
  exact ⟨rfl, Below.refl _ _⟩
set_option maxHeartbeats 1000000 in
theorem sec_waiting (g kb nb : Nat) (wa : Option Addr) (wc : Nat) (lim : Bool) (lf : Int) (nw : List (List UInt8)) (d : Sm.Dv) (w : World) (h : Dk g kb nb wa wc lim lf nw d w) :
    Calls Try.prog 18 #[.pointer (some ⟨g, 0, none⟩)] w fun e w' => e = .returned (.int .i64 (d.ws.length : Int)) ∧ Below w.heap.size w w' := by
  have c2 := h.c2
  generalize d.ws.length = N at c2 ⊢
  clear h
  go_enter Try.func18, Try.ntmps18
  go_wp2
  go_ret
  exact ⟨rfl, Below.refl _ _⟩
set_option maxHeartbeats 1000000 in
theorem sec_calls (g kb nb : Nat) (wa : Option Addr) (wc : Nat) (lim : Bool) (lf : Int) (nw : List (List UInt8)) (d : Sm.Dv) (w : World) (h : Dk g kb nb wa wc lim lf nw d w) :
    Calls Try.prog 19 #[.pointer (some ⟨g, 0, none⟩)] w fun e w' => e = .returned (.int .i64 d.calls) ∧ Below w.heap.size w w' := by
  have c3 := h.c3
  generalize d.calls = C at c3 ⊢
  clear h
  go_enter Try.func19, Try.ntmps19
  go_wp2
  go_ret
  exact ⟨rfl, Below.refl _ _⟩
set_option maxHeartbeats 1000000 in
theorem sec_limit (g kb nb : Nat) (wa : Option Addr) (wc : Nat) (lim : Bool) (lf : Int) (nw : List (List UInt8)) (d : Sm.Dv) (n : Int) (w : World) (h : Dk g kb nb wa wc lim lf nw d w) :
    Calls Try.prog 14 #[.pointer (some ⟨g, 0, none⟩), .int .i64 n] w fun e w' => e = .returned (.tuple #[]) ∧ (∃ lf', Dk g kb nb wa wc true lf' nw (Sm.bound d n) w') ∧ Only (fun k => k = g) w w' := by
  have c4 := h.c4; have c5 := h.c5; have fz := h.fz; have lt := h.lt
  obtain ⟨M, hM⟩ : ∃ M : Int, (if (0 : Int) > n then 0 else n) = M := ⟨_, rfl⟩
  have HM : Hid (max n 0 = M) := by show _ = _; rw [← hM, Int.max_def]; split <;> split <;> omega
  have hM0 : 0 ≤ M := by rw [← hM]; split <;> omega
  have hmx := max_0 n M hM
  have HD := Lib.hid (h.setLim true M M (fun e => by cases e) (fun _ => ⟨rfl, hM0⟩))
  have b5 : (w.setCell ⟨g, 4, none⟩ (.bool true)).cell? ⟨g, 5, none⟩ = some (.int .i64 lf) := (cell_keep _ _ _ _ _ (by decide)).trans c5
  clear hM h
  go_enter Try.func14, Try.ntmps14
  go_wp2
  go_end0
  refine ⟨rfl, ⟨M, ?_⟩, Only.setCell (p := fun k => k = g) (Only.setCell (p := fun k => k = g) (Only.refl _ w) (q := ⟨g, 4, none⟩) (.inl rfl) _) (q := ⟨g, 5, none⟩) (.inl rfl) _⟩
  unfold Sm.bound
  rw [HM.out]; exact HD.out
theorem max_c (t M : Int) (h : (if (0 : Int) > t then 0 else t) = M) (W : World) : (Builtin.max_ #[3, 3] 3 #[.int .i64 t, .int .i64 0]).run Try.prog W = .ok (.int .i64 M) W := max_0 t M h W
theorem min_c (t M : Int) (h : (if (64 : Int) < t then 64 else t) = M) (W : World) : (Builtin.min_ #[3, 3] 3 #[.int .i64 t, .int .i64 64]).run Try.prog W = .ok (.int .i64 M) W := by
  rw [← h]
  simp [Builtin.min_, Builtin.min2]
set_option maxHeartbeats 1000000 in
theorem sec_kept (ta : Option Addr) (tn tc : Nat) (ts : List Int) (j : Nat) (w : World) (ht : It (.slice ta tn tc) ts w) :
    Calls Try.prog 29 #[.slice ta tn tc, .int .i64 (j : Int)] w fun e w' => e = .returned (.int .i64 (Sm.tear (ts[j]?) : Int)) ∧ w = w' := by
  have htn : tn = ts.length := by obtain ⟨_, _, e⟩ := ht.form; injection e
  by_cases htj : j < tn
  · have htl : j < ts.length := by omega
    obtain ⟨b3, o3, rfl, hcc, hg3, hc3⟩ := It.at ht j htl
    obtain ⟨t, htt⟩ : ∃ t, t = ts[j] := ⟨_, rfl⟩
    rw [← htt] at hc3
    have q : decide ((tn : Int) ≤ (j : Int)) = false := by simp; omega
    obtain ⟨M, hM⟩ : ∃ M : Int, M = if (0 : Int) > t then 0 else t := ⟨_, rfl⟩
    obtain ⟨R, hR⟩ : ∃ R : Int, R = if (64 : Int) < M then 64 else M := ⟨_, rfl⟩
    have HR : Hid ((Sm.tear (ts[j]?) : Int) = R) := by
      show _ = _
      rw [List.getElem?_eq_getElem htl, ← htt, Sm.tear, hR, hM]
      split <;> split <;> omega
    have hmx := max_c t M hM.symm
    have hmn := min_c M R hR.symm
    rw [HR.out]
    clear ht htn hM hR htt
    go_enter Try.func29, Try.ntmps29
    go_wp2
    go_ret
    exact ⟨rfl, rfl⟩
  · have q : decide ((tn : Int) ≤ (j : Int)) = true := by simp; omega
    rw [List.getElem?_eq_none (by omega)]
    clear ht htn
    go_enter Try.func29, Try.ntmps29
    go_wp2
    go_ret
    exact ⟨rfl, rfl⟩

/-! ### on nil -/
set_option maxHeartbeats 1000000 in
theorem sec_nFault (W : World) (i n : Int) : Calls Try.prog 24 #[.pointer none, .int .i64 i, .int .i64 n] W fun e w' => e = .returned (.int .i64 1) ∧ W = w' := by
  go_enter Try.func24, Try.ntmps24
  go_wp2
  go_ret
  exact ⟨rfl, rfl⟩
set_option maxHeartbeats 1000000 in
theorem sec_nRead (W : World) (i : Int) : Calls Try.prog 20 #[.pointer none, .int .i64 i] W fun e w' => ∃ v, e = .returned (.tuple #[v, .int .i64 1]) ∧ Below W.heap.size W w' := by
  go_enter Try.func20, Try.ntmps20
  go_wp2_with fail
  refine (sec_nFault _ i 0).mono ?_
  rintro e w1 ⟨rfl, rfl⟩
  go_wp2
  go_ret2
  exact ⟨_, rfl, Below.refl _ _⟩
set_option maxHeartbeats 1000000 in
theorem sec_nWrite (W : World) (i : Int) : Calls Try.prog 10 #[.pointer none, .int .i64 i, .slice none 0 0] W fun e w' => e = .returned (.int .i64 1) ∧ Below W.heap.size W w' := by
  go_enter Try.func10, Try.ntmps10
  go_wp2_with fail
  refine (sec_nFault _ i _).mono ?_
  rintro e w1 ⟨rfl, rfl⟩
  go_wp2
  go_ret
  exact ⟨rfl, Below.refl _ _⟩
set_option maxHeartbeats 1000000 in
theorem sec_nFlush (W : World) : Calls Try.prog 12 #[.pointer none] W fun e w' => e = .returned (.int .i64 1) ∧ Below W.heap.size W w' := by
  go_enter Try.func12, Try.ntmps12
  go_wp2
  go_ret
  exact ⟨rfl, Below.refl _ _⟩
set_option maxHeartbeats 1000000 in
theorem sec_nSectors (W : World) : Calls Try.prog 22 #[.pointer none] W fun e w' => e = .returned (.int .i64 0) ∧ Below W.heap.size W w' := by
  go_enter Try.func22, Try.ntmps22
  go_wp2
  go_ret
  exact ⟨rfl, Below.refl _ _⟩
set_option maxHeartbeats 1000000 in
theorem sec_nWaiting (W : World) : Calls Try.prog 18 #[.pointer none] W fun e w' => e = .returned (.int .i64 0) ∧ Below W.heap.size W w' := by
  go_enter Try.func18, Try.ntmps18
  go_wp2
  go_ret
  exact ⟨rfl, Below.refl _ _⟩
set_option maxHeartbeats 1000000 in
theorem sec_nCalls (W : World) : Calls Try.prog 19 #[.pointer none] W fun e w' => e = .returned (.int .i64 0) ∧ Below W.heap.size W w' := by
  go_enter Try.func19, Try.ntmps19
  go_wp2
  go_ret
  exact ⟨rfl, Below.refl _ _⟩
set_option maxHeartbeats 1000000 in
theorem sec_nLimit (W : World) (n : Int) : Calls Try.prog 14 #[.pointer none, .int .i64 n] W fun e w' => e = .returned (.tuple #[]) ∧ Below W.heap.size W w' := by
  go_enter Try.func14, Try.ntmps14
  go_wp2
  refine bodyPost_ret (results_none rfl _ _ _) rfl ?_
  exact ⟨rfl, Below.refl _ _⟩
set_option maxHeartbeats 1000000 in
theorem sec_nCrash (W : World) (v : Value) : Calls Try.prog 16 #[.pointer none, v] W fun e w' => e = .returned (.tuple #[]) ∧ Below W.heap.size W w' := by
  go_enter Try.func16, Try.ntmps16
  go_wp2
  refine bodyPost_ret (results_none rfl _ _ _) rfl ?_
  exact ⟨rfl, Below.refl _ _⟩
end Go.Proofs.Ytllbemelljaklaa
