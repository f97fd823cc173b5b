/- The reference of layer 8: Levels, Same. -/
import Derived.Test.YtlakolcjgnmllaaTreE5
namespace Go.Proofs.Ytlakolcjgnmllaa
open Go.RowKit

theorem ref8_levels (n : Nat) (W : World) (hn : n ≤ 100000) :
    Calls Try.prog 25 #[.int .i64 (n : Int)] W fun e w' => ∃ L : Nat, e = .returned (.int .i64 (L : Int)) ∧ W = w' ∧ Hid ((n = 0 → L = 0) ∧ (0 < n → ∃ k, L = 1 + k ∧ n ≤ 4 ^ k)) := by
  by_cases h0 : n = 0
  · subst h0
    go_enter Try.func25, Try.ntmps25
    go_wp2
    go_ret
    exact ⟨0, rfl, rfl, ⟨fun _ => rfl, fun h => absurd h (Nat.lt_irrefl 0)⟩⟩
  · have h0i : ¬ (n : Int) = 0 := by omega
    go_enter Try.func25, Try.ntmps25
    go_wp2
    go_loopw [3, 4] (fun kv pv wr => ∃ j P : Nat, kv = .int .i64 (j : Int) ∧ pv = .int .i64 (P : Int) ∧ P ≤ 4 * n ∧ 1 ≤ P ∧ j ≤ P ∧ Hid (∃ i, j = 1 + i ∧ P = 4 ^ i) ∧ W = wr) (fun _ pv _ => n - (ixOf pv).toNat)
    case atStart => exact ⟨1, 1, rfl, rfl, by omega, Nat.le_refl _, Nat.le_refl _, ⟨0, rfl, rfl⟩, rfl⟩
    case round =>
      obtain ⟨j, P, rfl, rfl, hP, hP1, hjP, HE, rfl⟩ := hrel
      by_cases hlt : P < n
      · have hltI : (P : Int) < (n : Int) := by omega
        obtain ⟨P4, hP4⟩ : ∃ P4, P4 = P * 4 := ⟨_, rfl⟩
        have hP4i : (P : Int) * 4 = (P4 : Int) := by omega
        have HE2 : Hid (∃ i, j + 1 = 1 + i ∧ P4 = 4 ^ i) := by
          obtain ⟨i, h1, h2⟩ := HE.out
          exact ⟨i + 1, by omega, by rw [hP4, h2, Nat.pow_succ]⟩
        have hb1 : P4 ≤ 4 * n := by omega
        have hb2 : 1 ≤ P4 := by omega
        have hb3 : j + 1 ≤ P4 := by omega
        have hb4 : P < P4 := by omega
        clear HE hP4
        go_wp2
        go_roundw
        case rel => exact ⟨j + 1, P4, by go_num, rfl, hb1, hb2, hb3, HE2, trivial⟩
        case measure => simp [ixOf]; omega
      · have hltI : ¬ (P : Int) < (n : Int) := by omega
        have HF : Hid ((n = 0 → j = 0) ∧ (0 < n → ∃ k, j = 1 + k ∧ n ≤ 4 ^ k)) := ⟨fun e => absurd e h0, fun _ => by
          obtain ⟨i, h1, h2⟩ := HE.out
          exact ⟨i, h1, by omega⟩⟩
        clear HE
        go_wp2
        go_ret
        exact ⟨j, rfl, rfl, HF.out.2⟩
/-- what two lists' sameness is answered by -/
def SmR (l l2 : List Tm.E) (v : Value) : Prop := (∃ b, v = .bool b) ∧ (l = l2 → v = .bool true)
set_option maxHeartbeats 1000000 in
set_option maxRecDepth 100000 in
theorem ref8_same {ex ex2 : Nat → Prop} {l l2 : List Tm.E} {a a2 : Option Addr} {n c n2 c2 : Nat} {W : World} (h : Ps ex (.slice a n c) l W) (h2 : Ps ex2 (.slice a2 n2 c2) l2 W) (hn : n ≤ 10000) (hn2 : n2 ≤ 10000) :
    Calls Try.prog 19 #[.slice a n c, .slice a2 n2 c2] W fun e w' => ∃ v : Value, e = .returned v ∧ SmR l l2 v ∧ Below W.heap.size W w' := by
  have hnl := h.len
  have hnl2 := h2.len
  by_cases he : n = n2
  · subst he
    have HJ : Hid (∀ j, j < n → ∃ (g off g2 off2 : Nat) (X : ByteArray) (x : Int) (X2 : ByteArray) (x2 : Int), a = some ⟨g, off, none⟩ ∧ a2 = some ⟨g2, off2, none⟩ ∧ (g < W.heap.size ∧ g2 < W.heap.size) ∧ W.cell? ⟨g, off + j * 2, none⟩ = some (.string X) ∧ W.cell? ⟨g, off + j * 2 + 1, none⟩ = some (.int .i64 x) ∧ W.cell? ⟨g2, off2 + j * 2, none⟩ = some (.string X2) ∧ W.cell? ⟨g2, off2 + j * 2 + 1, none⟩ = some (.int .i64 x2) ∧ Hid (l = l2 → X = X2 ∧ x = x2)) := fun j hj => by
      obtain ⟨g, off, e, -, hg, c1, c3⟩ := h.at j (by omega)
      obtain ⟨g2, off2, e2, -, hg2, d1, d3⟩ := h2.at j (by omega)
      exact ⟨g, off, g2, off2, _, _, _, _, e, e2, ⟨hg, hg2⟩, c1, c3, d1, d3, fun e => by subst e; exact ⟨rfl, rfl⟩⟩
    clear h h2 hnl hnl2
    go_enter Try.func19, Try.ntmps19
    go_wp2
    go_loopw [13] (fun iv wr => ∃ j : Nat, j ≤ n ∧ iv = .int .i64 (j : Int) ∧ Hid (Below W.heap.size W wr)) (fun iv _ => n - (ixOf iv).toNat)
    case atStart => exact ⟨0, Nat.zero_le _, rfl, Below.refl _ _⟩
    case round =>
      obtain ⟨j, hj, rfl, HB⟩ := hrel
      by_cases hlt : j < n
      · obtain ⟨g, off, g2, off2, X, x, X2, x2, rfl, rfl, ⟨hg, hg2⟩, c0, c1, d0, d1, HX⟩ := HJ.out j hlt
        have hjI : (j : Int) < (n : Int) := by omega
        have u0 := (HB.out.cell (p := ⟨g, off + j * 2, none⟩) hg).trans c0
        have u1 := (HB.out.cell (p := ⟨g, off + j * 2 + 1, none⟩) hg).trans c1
        have u2 := (HB.out.cell (p := ⟨g2, off2 + j * 2, none⟩) hg2).trans d0
        have u3 := (HB.out.cell (p := ⟨g2, off2 + j * 2 + 1, none⟩) hg2).trans d1
        have HBD : Hid (Below W.heap.size W wr.drew) := HB.out.trans ((below_dr8 _).mono HB.out.size)
        clear HJ c0 c1 d0 d1
        by_cases hX : X.toList = X2.toList
        · by_cases hx : x = x2
          · clear HX
            go_upto_region 6 with (fail)
            go_region
            all_goals
              go_wp2_with fail
              go_roundw
            all_goals first
              | exact ⟨j + 1, by omega, by go_num, HBD⟩
              | (simp [ixOf]; omega)
          · have HN : Hid (l = l2 → False) := fun e => hx (HX.out e).2
            clear HX
            go_upto_region 6 with (fail)
            go_region
            all_goals
              go_wp2
              go_ret
              exact ⟨.bool false, rfl, ⟨⟨_, rfl⟩, fun e => (HN.out e).elim⟩, HBD.out⟩
        · have HN : Hid (l = l2 → False) := fun e => hX (by rw [(HX.out e).1])
          clear HX
          go_upto_region 6 with (fail)
          go_region
          all_goals
            go_wp2
            go_ret
            exact ⟨.bool false, rfl, ⟨⟨_, rfl⟩, fun e => (HN.out e).elim⟩, HBD.out⟩
      · have hjI : ¬ (j : Int) < (n : Int) := by omega
        go_wp2
        go_ret
        exact ⟨.bool true, rfl, ⟨⟨_, rfl⟩, fun _ => rfl⟩, HB.out⟩
  · have heI : ¬ (n : Int) = (n2 : Int) := by omega
    have HN : Hid (l = l2 → False) := fun e => he (by rw [hnl, hnl2, e])
    clear h h2 hnl hnl2
    go_enter Try.func19, Try.ntmps19
    go_wp2
    go_ret
    exact ⟨.bool false, rfl, ⟨⟨_, rfl⟩, fun e => (HN.out e).elim⟩, Below.refl _ _⟩
end Go.Proofs.Ytlakolcjgnmllaa
