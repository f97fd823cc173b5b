/- The reference of layer 8: From. -/
import Derived.Test.YtlakolcjgnmllaaTreE2
import Derived.Test.YtlakolcjgnmllaaTreC2
import Derived.OwnWalk
import Derived.Laws.OwnMore
namespace Go.Proofs.Ytlakolcjgnmllaa
open Go.RowKit

theorem own_formp {w : World} {B : Nat} {e : TypeId} {sz : Nat} {v : Value} {n : Nat} {xs : List Value} (h : w.ownsRow B e sz v n xs) : ∃ a c, v = .slice a n c := by
  obtain ⟨_, h2⟩ := h
  rcases h2 with ⟨rfl, rfl⟩ | ⟨g, cap, cur, rfl, _⟩
  · exact ⟨_, _, rfl⟩
  · exact ⟨_, _, rfl⟩
theorem bstr_lt8 (a b : List UInt8) : Op.bytesLess (bstr a).toList (bstr b).toList = Tm.lt a b := by rw [bstr_toList, bstr_toList]
set_option maxHeartbeats 1000000 in
set_option maxRecDepth 100000 in
theorem ref8_from {ex : Nat → Prop} {l : List Tm.E} {k : Tm.K} {a : Option Addr} {n c : Nat} {W : World} (h : Ps ex (.slice a n c) l W) (hn : n ≤ 10000) (hex : ∀ k, W.heap.size ≤ k → ¬ ex k) :
    Calls Try.prog 18 #[.slice a n c, .string (bstr k)] W fun e w' => ∃ v, e = .returned v ∧ Ps ex v (Tm.from_ l k) w' ∧ Below W.heap.size W w' := by
  obtain ⟨i0, hi0, hz0, hz1, hz2⟩ := info_of8 info2p
  have HI0 := Lib.hid hi0; have HZ0 := Lib.hid hz0; have HZ1 := Lib.hid hz1; have HZ2 := Lib.hid hz2
  clear hi0 hz0 hz1 hz2
  have hnl := h.len
  obtain ⟨S, hS⟩ : ∃ S, S = bstr k := ⟨_, rfl⟩
  have HS := Lib.hid hS
  rw [← hS]
  have HJ : Hid (∀ j, j < n → ∃ (g off : Nat) (X : ByteArray) (x : Int) (e : Tm.E), a = some ⟨g, off, none⟩ ∧ g < W.heap.size ∧ W.cell? ⟨g, off + j * 2, none⟩ = some (.string X) ∧ W.cell? ⟨g, off + j * 2 + 1, none⟩ = some (.int .i64 x) ∧ Hid (l.take (j + 1) = l.take j ++ [e]) ∧ Hid (X = bstr e.1 ∧ x = e.2)) := fun j hj => by
    obtain ⟨g, off, e, -, hg, h1, h2⟩ := h.at j (by omega)
    exact ⟨g, off, _, _, l[j]'(by omega), e, hg, h1, h2, by show _ = _; rw [List.take_add_one, List.getElem?_eq_getElem (show j < l.length by omega)]; rfl, rfl, rfl⟩
  have HNL : Hid (l.take n = l) := List.take_of_length_le (by omega)
  have HEX := Lib.hid hex
  clear h hS hnl hex
  go_enter Try.func18, Try.ntmps18
  go_wp2
  go_loopw [5, 10] (fun v iv wr => ∃ (j m : Nat) (b : Option Addr) (d : Nat), j ≤ n ∧ m ≤ j ∧ iv = .int .i64 (j : Int) ∧ v = .slice b m d ∧ Hid (wr.ownsRow W.heap.size 52 2 (.slice b m d) m (pcs (Tm.from_ (l.take j) k))) ∧ Hid (Below W.heap.size W wr)) (fun _ iv _ => n - (ixOf iv).toNat)
  case atStart => exact ⟨0, 0, none, 0, Nat.zero_le _, Nat.le_refl _, rfl, rfl, World.ownsRow_nil _ _ _ _, Below.refl _ _⟩
  case round =>
    obtain ⟨j, m, b, d, hj, hm, rfl, rfl, HO, HB⟩ := hrel
    by_cases hlt : j < n
    · obtain ⟨g, off, X, x, e, rfl, hg, c0, c1, HDR, HX⟩ := HJ.out j hlt
      have hjI : (j : Int) < (n : Int) := by omega
      have w0 := (HB.out.cell (p := ⟨g, off + j * 2, none⟩) hg).trans c0
      have w1 := (HB.out.cell (p := ⟨g, off + j * 2 + 1, none⟩) hg).trans c1
      have hgr : g < wr.heap.size := by have := HB.out.size; omega
      have hXS : Op.bytesLess X.toList S.toList = Tm.lt e.1 k := by rw [HX.out.1, HS.out, bstr_lt8]
      clear c0 c1
      obtain ⟨wr1, hw1⟩ : ∃ wr1, wr1 = wr.alloc (.cells #[.string X, .int .i64 x] 52) := ⟨_, rfl⟩
      have HA : Hid (Below W.heap.size W wr1) := by show Below _ _ _; rw [hw1]; exact HB.out.trans ((one_b8 _ _).mono HB.out.size)
      have HO1 : Hid (wr1.ownsRow W.heap.size 52 2 (.slice b m d) m (pcs (Tm.from_ (l.take j) k))) := by show World.ownsRow _ _ _ _ _ _ _; rw [hw1]; exact HO.out.alloc _
      have HF1 : Hid (Tm.from_ (l.take (j + 1)) k = Tm.from_ (l.take j) k ++ Tm.from_ [e] k) := by show _ = _; rw [HDR.out]; simp [Tm.from_]
      by_cases he : Tm.lt e.1 k = true
      · rw [he] at hXS
        have HO2 : Hid (wr1.ownsRow W.heap.size 52 2 (.slice b m d) m (pcs (Tm.from_ (l.take (j + 1)) k))) := by
          rw [HF1.out, show Tm.from_ [e] k = [] by simp [Tm.from_, he], List.append_nil]; exact HO1.out
        have HW1 := Lib.hid hw1
        clear hw1 HO HO1 HX HDR HJ HNL HB HF1 he
        go_wp2_with fail
        rw [← HW1.out]
        refine ⟨⟨j + 1, m, b, d, by omega, by omega, by go_num, rfl, HO2, HA⟩, ?_⟩
        simp [ixOf]; omega
      · have he0 : Tm.lt e.1 k = false := by simpa using he
        rw [he0] at hXS
        have HF2 : Hid (pcs (Tm.from_ (l.take (j + 1)) k) = pcs (Tm.from_ (l.take j) k) ++ pcs [e]) := by
          show _ = _
          rw [HF1.out, show Tm.from_ [e] k = [e] by simp [Tm.from_, he0], pcs_append]
        obtain ⟨wr2, hw2⟩ : ∃ wr2, wr2 = (wr.alloc (.cells #[.string X, .int .i64 x] 52)).alloc (.cells #[.string X, .int .i64 x] 52) := ⟨_, rfl⟩
        have HA2 : Hid (Below W.heap.size W wr2) := by show Below _ _ _; rw [hw2, ← hw1]; exact HA.out.trans ((one_b8 _ _).mono HA.out.size)
        have HO3 : Hid (wr2.ownsRow W.heap.size 52 2 (.slice b m d) m (pcs (Tm.from_ (l.take j) k))) := by show World.ownsRow _ _ _ _ _ _ _; rw [hw2, ← hw1]; exact HO1.out.alloc _
        have HSRC : Hid (Src Try.prog 2 26 (.slice (some ⟨wr.heap.size + 1, 0, none⟩) 1 1) 1 (pcs [e]) wr2) := by
          show Src _ _ _ _ _ _ _
          rw [hw2]
          exact lit_srcp _ X x e HX.out.1 HX.out.2 _ (by simp)
        have hsz2 : W.heap.size ≤ wr2.heap.size := HA2.out.size
        have HW2 := Lib.hid hw2
        clear hw1 hw2 HO HO1 HX HDR HJ HNL HB HF1 he he0 HA
        go_wp2_with (at_builtin; rw [← HW2.out]; refine wpList_append_src _ rfl (.tmp 18) (.tmp 20) 26 26 rfl W.heap.size 52 i0 _ 2 24 Try.underlying26 HI0.out HZ0.out HZ1.out HZ2.out rfl (.slice b m d) m (pcs (Tm.from_ (l.take j) k)) rfl HO3.out _ 1 (pcs [e]) rfl HSRC.out ?qa ?qb ?qc ?_)
        case qa => unfold maxLen; omega
        case qb => omega
        case qc => exact hsz2
        intro v2 w2 hown2 hgrow2 hv2
        have hb2 : Below W.heap.size W w2 := HA2.out.grown hgrow2 hsz2 (fun k e => (HO3.out.lt k e).1)
        rw [← HF2.out] at hown2
        obtain ⟨a2, c3, rfl⟩ := own_formp hown2
        have HO4 := Lib.hid hown2; have HB4 := Lib.hid hb2
        clear hown2 hgrow2 hv2 hb2
        go_wp2
        go_roundw
        case rel => exact ⟨j + 1, m + 1, a2, c3, by omega, by omega, by go_num, rfl, HO4.out, HB4.out⟩
        case measure => simp [ixOf]; omega
    · have hje : j = n := by omega
      have hjI : ¬ (j : Int) < (n : Int) := by omega
      have HE : Hid (Ps ex (.slice b m d) (Tm.from_ l k) wr) := by
        have := HO.out
        rw [hje, HNL.out] at this
        exact Ps.of_own this HEX.out
      clear HO HJ HNL hje hlt
      go_wp2
      go_ret
      exact ⟨_, rfl, HE.out, HB.out⟩
end Go.Proofs.Ytlakolcjgnmllaa
