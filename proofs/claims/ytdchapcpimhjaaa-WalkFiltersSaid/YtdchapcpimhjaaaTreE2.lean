/- The reference of layer 8: Get, Delete, From. -/
import Derived.Test.YtdchapcpimhjaaaTreE1
namespace Go.Proofs.Ytdchapcpimhjaaa
open Go.RowKit

theorem drop_at8 {l : List Tm.E} {j : Nat} (hj : j < l.length) : l.drop j = l[j] :: l.drop (j + 1) := List.drop_eq_getElem_cons hj
set_option maxHeartbeats 1000000 in
set_option maxRecDepth 100000 in
theorem ref8_get {ex : Nat → Prop} {l : List Tm.E} {k : Tm.K} {a : Option Addr} {n c : Nat} {W : World} (h : Ps ex (.slice a n c) l W) (hn : n ≤ 10000) :
    Calls Try.prog 52 #[.slice a n c, .string (bstr k)] W fun e w' => e = .returned (.tuple #[.int .i64 (Tm.get l k).1, .bool (Tm.get l k).2]) ∧ Below W.heap.size W w' := by
  have hnl := h.len
  obtain ⟨G, hG⟩ : ∃ G, G = Tm.get l k := ⟨_, rfl⟩
  rw [← hG]
  have HG0 : Hid (Tm.get (l.drop 0) k = G) := hG.symm
  obtain ⟨S, hS⟩ : ∃ S, S = bstr k := ⟨_, rfl⟩
  have HS := Lib.hid hS
  rw [← hS]
  have HJ : Hid (∀ j, j < n → ∃ (g off : Nat) (X : ByteArray) (x : Int) (e : Tm.E), a = some ⟨g, off, none⟩ ∧ g < W.heap.size ∧ W.cell? ⟨g, off + j * 2, none⟩ = some (.string X) ∧ W.cell? ⟨g, off + j * 2 + 1, none⟩ = some (.int .i64 x) ∧ Hid (l.drop j = e :: l.drop (j + 1)) ∧ Hid (X = bstr e.1 ∧ x = e.2)) := fun j hj => by
    obtain ⟨g, off, e, -, hg, h1, h2⟩ := h.at j (by omega)
    exact ⟨g, off, _, _, l[j]'(by omega), e, hg, h1, h2, drop_at8 (by omega), rfl, rfl⟩
  have HNL : Hid (l.drop n = []) := List.drop_eq_nil_of_le (by omega)
  clear h hG hS hnl
  go_enter Try.func52, Try.ntmps52
  go_wp2
  go_loopw [10] (fun iv wr => ∃ j : Nat, j ≤ n ∧ iv = .int .i64 (j : Int) ∧ Hid (Tm.get (l.drop j) k = G) ∧ Hid (Below W.heap.size W wr)) (fun iv _ => n - (ixOf iv).toNat)
  case atStart => exact ⟨0, Nat.zero_le _, rfl, HG0.out, Below.refl _ _⟩
  case round =>
    clear HG0
    obtain ⟨j, hj, rfl, HG, HB⟩ := hrel
    by_cases hlt : j < n
    · obtain ⟨g, off, X, x, e, rfl, hg, c0, c1, HDR, HX⟩ := HJ.out j hlt
      have hjI : (j : Int) < (n : Int) := by omega
      have w0 := (HB.out.cell (p := ⟨g, off + j * 2, none⟩) hg).trans c0
      have w1 := (HB.out.cell (p := ⟨g, off + j * 2 + 1, none⟩) hg).trans c1
      have hgr : g < wr.heap.size := by have := HB.out.size; omega
      have hgm := HG.out
      rw [HDR.out, Tm.get] at hgm
      have hXS : (X.toList == S.toList) = decide (e.1 = k) := by rw [HX.out.1, HS.out, bstr_eq_iff]
      clear c0 c1
      by_cases he : e.1 = k
      · rw [if_pos he] at hgm
        rw [decide_eq_true he] at hXS
        have HE : Hid (G = (x, true)) := by show _ = _; rw [← hgm, HX.out.2]
        have HF : Hid (∀ w', Below wr.heap.size wr w' → Below W.heap.size W w') := fun w' hb => HB.out.trans (hb.mono HB.out.size)
        have HA : Hid (Below W.heap.size W (wr.alloc (.cells #[.string X, .int .i64 x] 50))) := HF.out _ (one_b8 _ _)
        clear hgm HG HX he HDR HJ HNL
        go_wp2
        go_ret2
        exact ⟨by rw [HE.out]; rfl, HA.out⟩
      · rw [if_neg he] at hgm
        rw [decide_eq_false he] at hXS
        have HG2 : Hid (Tm.get (l.drop (j + 1)) k = G) := hgm
        have HA : Hid (Below W.heap.size W (wr.alloc (.cells #[.string X, .int .i64 x] 50))) := HB.out.trans ((one_b8 _ _).mono HB.out.size)
        clear hgm HG HX he HDR HJ HNL
        go_wp2_with fail
        go_roundw
        case rel => exact ⟨j + 1, by omega, by go_num, HG2, HA⟩
        case measure => simp [ixOf]; omega
    · have hje : j = n := by omega
      have hjI : ¬ (j : Int) < (n : Int) := by omega
      have HE : Hid (G = (0, false)) := by
        have := HG.out
        rw [hje, HNL.out] at this
        exact this.symm
      clear HG HJ HNL hje hlt
      go_wp2
      go_ret2
      exact ⟨by rw [HE.out]; rfl, HB.out⟩
end Go.Proofs.Ytdchapcpimhjaaa
