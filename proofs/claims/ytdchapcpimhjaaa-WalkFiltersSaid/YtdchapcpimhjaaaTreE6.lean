/- The reference of layer 8: Levels, Same. -/
import Derived.Test.YtdchapcpimhjaaaTreE5
namespace Go.Proofs.Ytdchapcpimhjaaa
open Go.RowKit
/-- what two lists' sameness is answered by -/
def SmR (l l2 : List Tm.E) (v : Value) : Prop := (∃ b, v = .bool b) ∧ (l = l2 → v = .bool true)
set_option maxHeartbeats 1000000 in
set_option maxRecDepth 100000 in
theorem ref8_same {ex ex2 : Nat → Prop} {l l2 : List Tm.E} {a a2 : Option Addr} {n c n2 c2 : Nat} {W : World} (h : Ps ex (.slice a n c) l W) (h2 : Ps ex2 (.slice a2 n2 c2) l2 W) (hn : n ≤ 10000) (hn2 : n2 ≤ 10000) :
    Calls Try.prog 8 #[.slice a n c, .slice a2 n2 c2] W fun e w' => ∃ v : Value, e = .returned v ∧ SmR l l2 v ∧ Below W.heap.size W w' := by
  have hnl := h.len
  have hnl2 := h2.len
  by_cases he : n = n2
  · subst he
    have HJ : Hid (∀ j, j < n → ∃ (g off g2 off2 : Nat) (X : ByteArray) (x : Int) (X2 : ByteArray) (x2 : Int), a = some ⟨g, off, none⟩ ∧ a2 = some ⟨g2, off2, none⟩ ∧ (g < W.heap.size ∧ g2 < W.heap.size) ∧ W.cell? ⟨g, off + j * 2, none⟩ = some (.string X) ∧ W.cell? ⟨g, off + j * 2 + 1, none⟩ = some (.int .i64 x) ∧ W.cell? ⟨g2, off2 + j * 2, none⟩ = some (.string X2) ∧ W.cell? ⟨g2, off2 + j * 2 + 1, none⟩ = some (.int .i64 x2) ∧ Hid (l = l2 → X = X2 ∧ x = x2)) := fun j hj => by
      obtain ⟨g, off, e, -, hg, c1, c3⟩ := h.at j (by omega)
      obtain ⟨g2, off2, e2, -, hg2, d1, d3⟩ := h2.at j (by omega)
      exact ⟨g, off, g2, off2, _, _, _, _, e, e2, ⟨hg, hg2⟩, c1, c3, d1, d3, fun e => by subst e; exact ⟨rfl, rfl⟩⟩
    clear h h2 hnl hnl2
    go_enter Try.func8, Try.ntmps8
    go_wp2
    go_loopw [13] (fun iv wr => ∃ j : Nat, j ≤ n ∧ iv = .int .i64 (j : Int) ∧ Hid (Below W.heap.size W wr)) (fun iv _ => n - (ixOf iv).toNat)
    case atStart => exact ⟨0, Nat.zero_le _, rfl, Below.refl _ _⟩
    case round =>
      obtain ⟨j, hj, rfl, HB⟩ := hrel
      by_cases hlt : j < n
      · obtain ⟨g, off, g2, off2, X, x, X2, x2, rfl, rfl, ⟨hg, hg2⟩, c0, c1, d0, d1, HX⟩ := HJ.out j hlt
        have hjI : (j : Int) < (n : Int) := by omega
        have u0 := (HB.out.cell (p := ⟨g, off + j * 2, none⟩) hg).trans c0
        have u1 := (HB.out.cell (p := ⟨g, off + j * 2 + 1, none⟩) hg).trans c1
        have u2 := (HB.out.cell (p := ⟨g2, off2 + j * 2, none⟩) hg2).trans d0
        have u3 := (HB.out.cell (p := ⟨g2, off2 + j * 2 + 1, none⟩) hg2).trans d1
        have HBD : Hid (Below W.heap.size W wr.drew) := HB.out.trans ((below_dr8 _).mono HB.out.size)
        clear HJ c0 c1 d0 d1
        by_cases hX : X.toList = X2.toList
        · by_cases hx : x = x2
          · clear HX
            go_upto_region 6 with (fail)
            go_region
            all_goals
              go_wp2_with fail
              go_roundw
            all_goals first
              | exact ⟨j + 1, by omega, by go_num, HBD⟩
              | (simp [ixOf]; omega)
          · have HN : Hid (l = l2 → False) := fun e => hx (HX.out e).2
            clear HX
            go_upto_region 6 with (fail)
            go_region
            all_goals
              go_wp2
              go_ret
              exact ⟨.bool false, rfl, ⟨⟨_, rfl⟩, fun e => (HN.out e).elim⟩, HBD.out⟩
        · have HN : Hid (l = l2 → False) := fun e => hX (by rw [(HX.out e).1])
          clear HX
          go_upto_region 6 with (fail)
          go_region
          all_goals
            go_wp2
            go_ret
            exact ⟨.bool false, rfl, ⟨⟨_, rfl⟩, fun e => (HN.out e).elim⟩, HBD.out⟩
      · have hjI : ¬ (j : Int) < (n : Int) := by omega
        go_wp2
        go_ret
        exact ⟨.bool true, rfl, ⟨⟨_, rfl⟩, fun _ => rfl⟩, HB.out⟩
  · have heI : ¬ (n : Int) = (n2 : Int) := by omega
    have HN : Hid (l = l2 → False) := fun e => he (by rw [hnl, hnl2, e])
    clear h h2 hnl hnl2
    go_enter Try.func8, Try.ntmps8
    go_wp2
    go_ret
    exact ⟨.bool false, rfl, ⟨⟨_, rfl⟩, fun e => (HN.out e).elim⟩, Below.refl _ _⟩
end Go.Proofs.Ytdchapcpimhjaaa
