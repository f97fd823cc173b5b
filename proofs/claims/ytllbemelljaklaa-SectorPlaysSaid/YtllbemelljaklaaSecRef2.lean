/- The reference of layer 6: count, Bound. -/
import Derived.Test.YtllbemelljaklaaSecRef1
namespace Go.Proofs.Ytllbemelljaklaa
open Go.RowKit

/-- an index's number -/
def ixOf : Value → Int
  | .int _ n => n
  | _ => 0

set_option maxHeartbeats 1000000 in
theorem ref6_count (g kb kc wc : Nat) (wa : Option Addr) (d : Sm.Dv) (w : World) (h : Dr g kb kc wa wc d w) (hc : 0 ≤ d.calls ∧ d.calls ≤ 1000000) (hl : -1 ≤ d.left ∧ d.left ≤ 9223372036854775807) :
    Calls Try.prog 27 #[.pointer (some ⟨g, 0, none⟩)] w fun e w' => e = .returned (.tuple #[]) ∧ Dr g kb kc wa wc (Sm.count d) w' ∧ Only (fun k => k = g) w w' := by
  have H := Lib.hid h
  have c2 := h.c2; have c3 := h.c3; have fz := h.fz; have lt := h.lt
  obtain ⟨L, hL⟩ : ∃ L, L = d.left := ⟨_, rfl⟩
  obtain ⟨C, hC⟩ : ∃ C, C = d.calls := ⟨_, rfl⟩
  have HD : Hid (Sm.count d = { d with calls := C + 1, left := if 0 < L then L - 1 else L }) := by show _ = _; rw [hC, hL]; rfl
  rw [← hL] at c2 hl
  rw [← hC] at c3 hc
  obtain ⟨hc1, hc2⟩ := hc
  obtain ⟨hl1, hl2⟩ := hl
  clear hL hC h
  have H1 := Lib.hid (H.out.setCalls (C + 1))
  have e2 := H1.out.c2
  have O1 : Hid (Only (fun k => k = g) w (w.setCell ⟨g, 3, none⟩ (.int .i64 (C + 1)))) := Only.setCell (p := fun k => k = g) (Only.refl _ w) (q := ⟨g, 3, none⟩) (.inl rfl) _
  have b2 : (w.setCell ⟨g, 3, none⟩ (.int .i64 (C + 1))).cell? ⟨g, 2, none⟩ = some (.int .i64 L) := (cell_keep _ _ _ _ _ (by decide)).trans c2
  by_cases h0 : 0 < L
  · have q : decide (0 < L) = true := by simpa using h0
    have HE : Hid (Sm.count d = { { d with calls := C + 1 } with left := L - 1 }) := by show _ = _; rw [HD.out, if_pos h0]
    clear HD e2
    go_enter Try.func27, Try.ntmps27
    go_wp2
    go_end0
    refine ⟨rfl, ?_, Only.setCell (p := fun k => k = g) O1.out (q := ⟨g, 2, none⟩) (.inl rfl) _⟩
    rw [HE.out]; exact H1.out.setLeft (L - 1)
  · have q : decide (0 < L) = false := by simpa using h0
    have HE : Hid (Sm.count d = { { d with calls := C + 1 } with left := L }) := by show _ = _; rw [HD.out, if_neg h0]
    have HF : Hid (Dr g kb kc wa wc { { d with calls := C + 1 } with left := L } (w.setCell ⟨g, 3, none⟩ (.int .i64 (C + 1)))) := by
      have h := H1.out
      exact ⟨h.c0, h.c1, b2, h.c3, h.fz, h.lt, h.kr, h.ne, h.ws, h.wne⟩
    clear HD e2
    go_enter Try.func27, Try.ntmps27
    go_wp2
    go_end0
    refine ⟨rfl, ?_, O1.out⟩
    rw [HE.out]; exact HF.out
theorem max_0 (x M : Int) (h : (if (0 : Int) > x then 0 else x) = M) (W : World) : (Builtin.max_ #[3, 3] 3 #[.int .i64 x, .int .i64 0]).run Try.prog W = .ok (.int .i64 M) W := by
  rw [← h]
  simp [Builtin.max_, Builtin.max2]
set_option maxHeartbeats 1000000 in
theorem ref6_bound (g kb kc wc : Nat) (wa : Option Addr) (d : Sm.Dv) (n : Int) (w : World) (h : Dr g kb kc wa wc d w) :
    Calls Try.prog 15 #[.pointer (some ⟨g, 0, none⟩), .int .i64 n] w fun e w' => e = .returned (.tuple #[]) ∧ Dr g kb kc wa wc (Sm.bound d n) w' ∧ Only (fun k => k = g) w w' := by
  have H := Lib.hid h
  have c2 := h.c2; have fz := h.fz; have lt := h.lt
  obtain ⟨M, hM⟩ : ∃ M : Int, (if (0 : Int) > n then 0 else n) = M := ⟨_, rfl⟩
  have HM : Hid (max n 0 = M) := by show _ = _; rw [← hM, Int.max_def]; split <;> split <;> omega
  have hmx := max_0 n M hM
  clear hM h
  go_enter Try.func15, Try.ntmps15
  go_wp2
  go_end0
  refine ⟨rfl, ?_, Only.setCell (p := fun k => k = g) (Only.refl _ w) (.inl rfl) _⟩
  unfold Sm.bound
  rw [HM.out]; exact H.out.setLeft M

set_option maxHeartbeats 2000000 in
theorem ref6_read (g kb kc wc : Nat) (wa : Option Addr) (d : Sm.Dv) (i : Int) (w : World) (h : Dr g kb kc wa wc d w) (hw : d.ws.length ≤ 1000) :
    Calls Try.prog 21 #[.pointer (some ⟨g, 0, none⟩), .int .i64 i] w fun e w' => e = .returned (.tuple #[.string (st (Sm.read d i).1), .int .i64 (Sm.read d i).2]) ∧ Below w.heap.size w w' := by
  have HC : Hid (∀ W, Dr g kb kc wa wc d W → Calls Try.prog 26 #[.pointer (some ⟨g, 0, none⟩), .int .i64 i, .string ⟨#[]⟩] W fun e w' => e = .returned (.int .i64 (Sm.check d i 0)) ∧ W = w') := fun W hW => ref6_check g kb kc wc wa d i ⟨#[]⟩ W hW (by decide)
  have H := Lib.hid h
  by_cases hc : Sm.check d i 0 = 0
  case neg =>
    have HR : Hid (Sm.read d i = ([], Sm.check d i 0)) := by show _ = _; unfold Sm.read; rw [if_neg hc]
    have q : (Sm.check d i 0 != 0) = true := by simpa using hc
    rw [HR.out]
    clear HR h hc
    generalize Sm.check d i 0 = E at *
    go_enter Try.func21, Try.ntmps21
    go_wp2_with fail
    refine (HC.out _ H.out).mono ?_
    rintro e w1 ⟨rfl, rfl⟩
    go_wp2
    go_ret2
    exact ⟨rfl, Below.refl _ _⟩
  obtain ⟨i0, i1, -, -⟩ := Sm.check_0 hc
  obtain ⟨n, rfl⟩ : ∃ n : Nat, i = (n : Int) := ⟨i.toNat, by omega⟩
  have hn : n < d.kept.length := by omega
  have HR : Hid (Sm.read d (n : Int) = (Sm.last (d.kept.getD n []) n d.ws, 0)) := by
    show _ = _; unfold Sm.read; rw [if_pos hc]; rfl
  rw [HR.out]
  rw [hc] at HC
  have s0 := h.sector n hn
  have c0 := h.c0; have c1 := h.c1
  obtain ⟨K, hK⟩ : ∃ K, K = d.kept.length := ⟨_, rfl⟩
  obtain ⟨M, hM⟩ : ∃ M, M = d.ws.length := ⟨_, rfl⟩
  obtain ⟨sk, hsk⟩ : ∃ sk, sk = d.kept.getD n [] := ⟨_, rfl⟩
  have HWV : Hid (Wv (.slice wa M wc) d.ws w) := by rw [hM]; exact h.ws
  rw [← hK] at c0 hn
  rw [← hM] at c1
  rw [← hsk] at s0 ⊢
  have M1 : M ≤ d.ws.length := by omega
  have M2 : d.ws.length ≤ M := by omega
  have hni : (n : Int) < (K : Int) := by omega
  clear HR hc h hK hM hsk i0 i1
  go_enter Try.func21, Try.ntmps21
  go_wp2_with fail
  refine (HC.out _ H.out).mono ?_
  rintro e w1 ⟨rfl, rfl⟩
  go_wp2_with fail
  go_loopw [7, 28] (fun sv iv wr => ∃ j : Nat, j ≤ M ∧ iv = .int .i64 (j : Int) ∧ ∃ T, sv = .string T ∧ Hid (T = st (Sm.last sk n (d.ws.take j))) ∧ Hid (Below w.heap.size w wr)) (fun _ iv _ => M - (ixOf iv).toNat)
  case atStart => exact ⟨0, by omega, rfl, _, rfl, rfl, Below.refl _ _⟩
  case round =>
    obtain ⟨j, hj, rfl, T, rfl, HT, HB⟩ := hrel
    have hwr := HB.out.size
    by_cases hlt : j < M
    · have hjl : j < d.ws.length := by omega
      obtain ⟨b, off, ha, hg, e0, e1⟩ := (HWV.out.keep HB.out).at j hjl
      have HL : Hid (Sm.last sk n (d.ws.take (j + 1)) = if d.ws[j].i = n then d.ws[j].b else Sm.last sk n (d.ws.take j)) := by
        show _ = _
        rw [← List.take_append_getElem hjl, Sm.last_app]
      subst ha
      generalize d.ws[j] = x at *
      obtain ⟨xi, xb⟩ := x
      dsimp only at e0 e1 HL
      have HB2 := Lib.hid (HB.out.alloc hwr (.cells #[.int .i64 (xi : Int), .string (st xb)] 66))
      by_cases hx : xi = n
      · have q : ((xi : Int) == (n : Int)) = true := by rw [beq_iff_eq]; omega
        have HT2 : Hid (st xb = st (Sm.last sk n (d.ws.take (j + 1)))) := by show _ = _; rw [HL.out, if_pos hx]
        clear HL hx HT
        go_wp2
        go_roundw
        case rel => exact ⟨j + 1, by omega, by go_num, _, rfl, HT2, HB2⟩
        case measure => simp [ixOf]; omega
      · have q : ((xi : Int) == (n : Int)) = false := by rw [beq_eq_false_iff_ne]; omega
        have HT2 : Hid (T = st (Sm.last sk n (d.ws.take (j + 1)))) := by show _ = _; rw [HL.out, if_neg hx]; exact HT.out
        clear HL hx HT
        go_wp2
        go_roundw
        case rel => exact ⟨j + 1, by omega, by go_num, _, rfl, HT2, HB2⟩
        case measure => simp [ixOf]; omega
    · have HF : Hid (T = st (Sm.last sk n d.ws)) := by
        show _ = _
        rw [HT.out, List.take_of_length_le (by omega)]
      clear HT
      go_wp2
      go_ret2
      exact ⟨by rw [HF.out]; rfl, HB.out⟩
end Go.Proofs.Ytllbemelljaklaa
