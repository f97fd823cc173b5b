/- The reference of layer 4: Cast whole. -/
import Derived.Test.YtfnnhhhkdfgefaaGreatDoorCastRef2
import Derived.Test.YtfnnhhhkdfgefaaGreatDoorValPm
namespace Go.Proofs.YtfnnhhhkdfgefaaGreatDoor
open Go.RowKit

theorem neq_f (a b : Int) (h : a ≠ b) : (a == b) = false := by rw [beq_eq_false_iff_ne]; exact h
theorem ref4_cast (c : Vm.Cl) (k s : Int) (w : World) (hn : i64 c.n) (hz : c.s.size ≤ maxLen) :
    Calls Tryz.prog 9 #[.agg #[.int .i64 c.k, .int .i64 c.n, .int .i64 c.sc, .string c.s], .agg #[.int .i64 k, .int .i64 s]] w (CastA (Vm.cast c k s) w) := by
  have HT := Lib.hid (ref3_type k s)
  have HP := Lib.hid (ref3_plain c.k c.n c.sc c.s · hz)
  have hpr := Vm.plain_right c
  have hpn := Vm.plain_i64 hn
  cases ht : Vm.typeB k s
  · have e : Vm.cast c k s = (Vm.nil, 2) := by unfold Vm.cast; rw [ht]; rfl
    rw [e]
    rw [ht] at HT
    exact r4_type c.k c.n c.sc c.s k s w HT
  rw [ht] at HT
  have e : Vm.cast c k s = if (Vm.plain c).k = 0 ∨ ((Vm.plain c).k = k ∧ (Vm.plain c).sc = s) then (Vm.plain c, 0) else Vm.castR (Vm.plain c) k s := by unfold Vm.cast; rw [ht]; rfl
  rw [e]
  clear e hn
  have HP' : Hid (∀ W, Calls Tryz.prog 23 #[.agg #[.int .i64 c.k, .int .i64 c.n, .int .i64 c.sc, .string c.s]] W (Val (Vm.plain c) W)) := HP.out
  clear HP
  revert HP' hpr hpn
  generalize Vm.plain c = p
  obtain ⟨ck, cn, cc, cs⟩ := c
  dsimp only
  intro hpr hpn HP
  by_cases h0 : p.k = 0
  · rw [if_pos (.inl h0)]
    rcases Vm.right_cases hpr with rfl | ⟨n, hb, rfl⟩ | ⟨n, rfl⟩ | ⟨n, u, hu, rfl⟩ | ⟨u, hl, hv, rfl⟩ | ⟨u, hl, rfl⟩
    · exact r4_null ck cn cc cs k s w HT HP
    all_goals simp at h0
  by_cases ho : p.k = k ∧ p.sc = s
  · rw [if_pos (.inr ho)]
    obtain ⟨pk, pn, pc, ps⟩ := p
    exact r4_own ck cn cc cs k s w pk pn pc ps HT HP (neq_f _ _ h0) (beq_iff_eq.2 ho.1) (beq_iff_eq.2 ho.2)
  rw [if_neg (fun h => h.elim h0 ho)]
  have hc := Vm.typeB_cases ht
  clear ht
  rcases Vm.right_cases hpr with rfl | ⟨n, hb, rfl⟩ | ⟨n, rfl⟩ | ⟨n, u, hu, rfl⟩ | ⟨u, hl, hv, rfl⟩ | ⟨u, hl, rfl⟩
  · exact absurd rfl h0
  · rcases hc with ⟨rfl, rfl⟩ | ⟨rfl, rfl⟩ | ⟨rfl, hs⟩ | ⟨rfl, rfl⟩ | ⟨rfl, rfl⟩
    · exact absurd ⟨rfl, rfl⟩ ho
    · rcases hb with rfl | rfl
      · exact r4_12_0 ck cn cc cs w HT HP
      · exact r4_12_1 ck cn cc cs w HT HP
    · exact r4_13 ck cn cc cs s w n HT HP
    · rcases hb with rfl | rfl
      · exact r4_14_0 ck cn cc cs w HT HP
      · exact r4_14_1 ck cn cc cs w HT HP
    · exact r4_15 ck cn cc cs w n HT HP
  · rcases hc with ⟨rfl, rfl⟩ | ⟨rfl, rfl⟩ | ⟨rfl, hs⟩ | ⟨rfl, rfl⟩ | ⟨rfl, rfl⟩
    · by_cases n0 : n = 0
      · subst n0; exact r4_21_0 ck cn cc cs w HT HP
      by_cases n1 : n = 1
      · subst n1; exact r4_21_1 ck cn cc cs w HT HP
      have e : Vm.castR ⟨2, n, 0, ⟨#[]⟩⟩ 1 0 = (Vm.nil, 40) := by
        unfold Vm.castR
        rw [if_neg (by simp), if_pos (.inl rfl), if_neg (by rintro ⟨_, _, h⟩; exact h.elim n0 n1), if_neg (by simp), if_neg (by simp)]
      rw [e]
      by_cases nn : n < 0
      · exact r4_21_a ck cn cc cs w n HT HP nn
      · exact r4_21_b ck cn cc cs w n HT HP (by omega)
    · exact absurd ⟨rfl, rfl⟩ ho
    · exact r4_23 ck cn cc cs s w n HT HP hpn
    · exact r4_24 ck cn cc cs w n HT HP hpn
    · exact r4_25 ck cn cc cs w n HT HP
  · rcases hc with ⟨rfl, rfl⟩ | ⟨rfl, rfl⟩ | ⟨rfl, hs⟩ | ⟨rfl, rfl⟩ | ⟨rfl, rfl⟩
    · exact r4_31 ck cn cc cs w n u HT HP
    · exact r4_32 ck cn cc cs w n u HT HP hpn
    · exact r4_33 ck cn cc cs s w n u HT HP hpn (neq_f _ _ fun h => ho ⟨rfl, h⟩)
    · exact r4_34 ck cn cc cs w n u HT HP hpn
    · exact r4_35 ck cn cc cs w n u HT HP
  · obtain ⟨⟨m, j, b⟩, hp⟩ : ∃ p, Pm.parseM u.data.toList = p := ⟨_, rfl⟩
    rw [Vm.castR_text]
    rcases hc with ⟨rfl, rfl⟩ | ⟨rfl, rfl⟩ | ⟨rfl, hs⟩ | ⟨rfl, rfl⟩ | ⟨rfl, rfl⟩
    · rw [if_pos rfl]
      by_cases ht : u = Vm.tru
      · subst ht; rw [if_pos rfl]; exact r4_41_t ck cn cc cs w HT HP
      by_cases hf : u = Vm.fal
      · subst hf; rw [if_neg ht, if_pos rfl]; exact r4_41_f ck cn cc cs w HT HP
      rw [if_neg ht, if_neg hf]
      exact r4_41_x ck cn cc cs w u m j b HT HP (by omega) (ne_lst _ _ (ne_byt _ _ ht)) (ne_lst _ _ (ne_byt _ _ hf)) hp
    · rw [if_neg (by simp), if_pos (.inl rfl), hp]
      cases b
      · rw [if_neg (by simp)]; exact r4_42_no ck cn cc cs w u m j HT HP (by omega) hp
      · rw [if_pos rfl]; exact r4_42_ok ck cn cc cs w u m j HT HP (by omega) hp (Vm.parse_i64 _ _ _ hp)
    · rw [if_neg (by simp), if_pos (.inr rfl), hp]
      cases b
      · rw [if_neg (by simp)]; exact r4_43_no ck cn cc cs s w u m j HT HP (by omega) hp
      · rw [if_pos rfl]; exact r4_43_ok ck cn cc cs s w u m j HT HP (by omega) hp (Vm.parse_i64 _ _ _ hp)
    · exact absurd ⟨rfl, rfl⟩ ho
    · rw [if_neg (by simp), if_neg (by simp), if_pos rfl]
      exact r4_45 ck cn cc cs w u m j b HT HP (by omega) hp
  · rcases hc with ⟨rfl, rfl⟩ | ⟨rfl, rfl⟩ | ⟨rfl, hs⟩ | ⟨rfl, rfl⟩ | ⟨rfl, rfl⟩
    · exact r4_51 ck cn cc cs w u HT HP
    · exact r4_52 ck cn cc cs w u HT HP
    · exact r4_53 ck cn cc cs s w u HT HP
    · have e2 : Vm.castR ⟨5, 0, 0, u⟩ 4 0 = if (4 : Int) = 4 ∧ Vm.rightB ⟨4, 0, 0, u⟩ = true then (⟨4, 0, 0, u⟩, 0) else (Vm.nil, 40) := by
        unfold Vm.castR; rw [if_neg (by simp), if_neg (by simp), if_neg (by simp)]
      rw [e2]
      cases hr : Vm.rightB ⟨4, 0, 0, u⟩
      · rw [if_neg (by simp)]; exact r4_54_false ck cn cc cs w u HT HP (by unfold maxLen; omega) hr
      · rw [if_pos ⟨rfl, rfl⟩]; exact r4_54_true ck cn cc cs w u HT HP (by unfold maxLen; omega) hr
    · exact absurd ⟨rfl, rfl⟩ ho
end Go.Proofs.YtfnnhhhkdfgefaaGreatDoor
