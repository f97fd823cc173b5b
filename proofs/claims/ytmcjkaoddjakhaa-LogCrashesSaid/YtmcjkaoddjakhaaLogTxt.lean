/- Layer 7: the laws' Long and texts. -/
import Derived.Test.YtmcjkaoddjakhaaLogEm
namespace Go.Proofs.Ytmcjkaoddjakhaa
open Go.RowKit

/-- is an act too long to be asked? -/
def Lm.lg (nb nt : Nat) : Int := if (400 < nb ∧ nb ≤ 65536) ∨ 200 < nt then 2000 else (nt : Int)
set_option maxHeartbeats 1000000 in
set_option maxRecDepth 100000 in
theorem law_long (k i : Int) (ab : Option Addr) (nb cb : Nat) (av : Option Addr) (nt ct : Nat) (w : World) :
    Calls Try.prog 18 #[.agg #[.int .i64 k, .int .i64 i, .slice ab nb cb, .slice av nt ct]] w fun e w' => e = .returned (.int .i64 (Lm.lg nb nt)) ∧ Below w.heap.size w w' := by
  have HB := Lib.hid (one_bs w (.cells #[.int .i64 k, .int .i64 i, .slice ab nb cb, .slice av nt ct] 46))
  by_cases h1 : 400 < nb
  · have q1 : decide ((400 : Int) < (nb : Int)) = true := by simp; omega
    by_cases h2 : nb ≤ 65536
    · have q2 : decide ((nb : Int) ≤ 65536) = true := by simp; omega
      have HF : Hid (Lm.lg nb nt = 2000) := by show _ = _; unfold Lm.lg; rw [if_pos (.inl ⟨h1, h2⟩)]
      clear h1 h2
      go_enter Try.func18, Try.ntmps18
      go_wp2
      go_ret
      exact ⟨by rw [HF.out]; rfl, HB.out⟩
    · have q2 : decide ((nb : Int) ≤ 65536) = false := by simp; omega
      by_cases h3 : 200 < nt
      · have q3 : decide ((200 : Int) < (nt : Int)) = true := by simp; omega
        have HF : Hid (Lm.lg nb nt = 2000) := by show _ = _; unfold Lm.lg; rw [if_pos (.inr h3)]
        clear h1 h2 h3
        go_enter Try.func18, Try.ntmps18
        go_wp2
        go_ret
        exact ⟨by rw [HF.out]; rfl, HB.out⟩
      · have q3 : decide ((200 : Int) < (nt : Int)) = false := by simp; omega
        have HF : Hid (Lm.lg nb nt = (nt : Int)) := by show _ = _; unfold Lm.lg; rw [if_neg (by rintro (⟨_, h⟩ | h); exact h2 h; exact h3 h)]
        clear h1 h2 h3
        go_enter Try.func18, Try.ntmps18
        go_wp2
        go_ret
        exact ⟨by rw [HF.out]; rfl, HB.out⟩
  · have q1 : decide ((400 : Int) < (nb : Int)) = false := by simp; omega
    by_cases h3 : 200 < nt
    · have q3 : decide ((200 : Int) < (nt : Int)) = true := by simp; omega
      have HF : Hid (Lm.lg nb nt = 2000) := by show _ = _; unfold Lm.lg; rw [if_pos (.inr h3)]
      clear h1 h3
      go_enter Try.func18, Try.ntmps18
      go_wp2
      go_ret
      exact ⟨by rw [HF.out]; rfl, HB.out⟩
    · have q3 : decide ((200 : Int) < (nt : Int)) = false := by simp; omega
      have HF : Hid (Lm.lg nb nt = (nt : Int)) := by show _ = _; unfold Lm.lg; rw [if_neg (by rintro (⟨h, _⟩ | h); exact h1 h; exact h3 h)]
      clear h1 h3
      go_enter Try.func18, Try.ntmps18
      go_wp2
      go_ret
      exact ⟨by rw [HF.out]; rfl, HB.out⟩
set_option maxHeartbeats 2000000 in
set_option maxRecDepth 100000 in
theorem law_texts (B : Nat) (a : Option Addr) (n c : Nat) (L : List (List UInt8)) (w : World) (h : Bs B a n c L w) (hl : L.length ≤ 1000) :
    Calls Try.prog 31 #[.slice a n c] w fun e w' => ∃ a2 n2 c2, e = .returned (.slice a2 n2 c2) ∧ Ss w.heap.size a2 n2 c2 L w' ∧ Below w.heap.size w w' := by
  have hn := h.1
  have hn1 : n ≤ 1000 := by omega
  have HN := Lib.hid hn; have H := Lib.hid h
  obtain ⟨i0, hi0, hz0, hz1, hz2⟩ := info_of infoS
  have HI0 := Lib.hid hi0; have HZ0 := Lib.hid hz0; have HZ1 := Lib.hid hz1; have HZ2 := Lib.hid hz2
  clear hi0 hz0 hz1 hz2 hn h hl
  go_enter Try.func31, Try.ntmps31
  go_wp2
  go_loopw [3, 8] (fun ov iv wr => ∃ (i : Nat) (a2 : Option Addr) (n2 c2 : Nat), i ≤ n ∧ iv = .int .i64 (i : Int) ∧ ov = .slice a2 n2 c2 ∧ n2 ≤ 1000 ∧ Hid (n2 = i) ∧ Hid (wr.ownsRow w.heap.size 9 1 (.slice a2 n2 c2) n2 (stc (L.take i))) ∧ Hid (Below w.heap.size w wr)) (fun _ iv _ => n - (ixOf iv).toNat)
  case atStart => exact ⟨0, none, 0, 0, Nat.zero_le _, rfl, rfl, Nat.zero_le _, rfl, World.ownsRow_nil _ _ _ _, Below.refl _ _⟩
  case round =>
    obtain ⟨i, a2, n2, c2, hi, rfl, rfl, hn2, HE, HO, HB⟩ := hrel
    have hwr := HB.out.size
    by_cases hlt : i < n
    · obtain ⟨g, off, rfl, -, hc1, hg, x1, m1, y1, hcell, hY⟩ := (H.out.keep HB.out).at (j := i) (by have := HN.out; omega)
      obtain ⟨b, hb⟩ : ∃ b, b = L.getD i [] := ⟨_, rfl⟩
      rw [← hb] at hY
      have hcv : (convert 39 9 (.slice x1 m1 y1)).run Try.prog wr = .ok (.string (st b)) wr := Yt.str hY.2.1
      obtain ⟨SB, hSB⟩ : ∃ SB, SB = st b := ⟨_, rfl⟩
      rw [← hSB] at hcv
      have HT : Hid (L.take (i + 1) = L.take i ++ [b]) := by
        show _ = _
        have hil : i < L.length := by have := HN.out; omega
        rw [List.take_add_one, List.getElem?_eq_getElem hil, hb, List.getD, List.getElem?_eq_getElem hil]; rfl
      have HSL := Lib.hid (ls_new wr b SB wr.heap.size rfl hSB)
      have HOK := Lib.hid (own_keep_s HO.out (one_bs wr (.cells #[.string SB] 9)) (fun b hb => (HO.out.lt b hb).2))
      have HBA := Lib.hid (HB.out.trans ((one_bs wr (.cells #[.string SB] 9)).mono hwr))
      have hn3 : n2 + 1 ≤ 1000 := by have := HE.out; have := HN.out; omega
      have HE2 : Hid (n2 + 1 = i + 1) := by show _ = _; rw [HE.out]
      clear hb hSB hY HO
      go_wp2_with (at_builtin; refine wpList_append_src _ rfl (.tmp 12) (.tmp 15) 56 56 rfl w.heap.size 9 i0 _ 1 16 Try.underlying56 HI0.out HZ0.out HZ1.out HZ2.out rfl (.slice a2 n2 c2) n2 (stc (L.take i)) rfl HOK.out _ 1 (stc [b]) rfl ?qs ?qa ?qb ?qc ?_)
      case qs => exact HSL.out.src
      case qa => unfold maxLen; omega
      case qb => omega
      case qc => exact HBA.out.size
      intro v2 w2 hown hgrow hat
      have hown2 : w2.ownsRow w.heap.size 9 1 v2 (n2 + 1) (stc (L.take (i + 1))) := by rw [HT.out, show stc (L.take i ++ [b]) = stc (L.take i) ++ stc [b] by simp [stc]]; exact hown
      have HB2 := Lib.hid (HBA.out.grown hgrow HBA.out.size (fun k e => (HOK.out.lt k e).1))
      obtain ⟨a3, c3, rfl⟩ := own_form_s hown2
      have HO2 := Lib.hid hown2
      clear hown hown2 hgrow hat HOK HSL HBA HB
      go_wp2
      go_roundw
      case rel => exact ⟨i + 1, a3, n2 + 1, c3, by omega, by go_num, rfl, hn3, HE2.out, HO2.out, HB2.out⟩
      case measure => simp [ixOf]; omega
    · have HF : Hid (L.take i = L) := by show _ = _; exact List.take_of_length_le (by have := HN.out; omega)
      go_wp2
      go_ret
      exact ⟨a2, n2, c2, rfl, by have := Ss.of_own HO.out; rw [HF.out] at this; exact this, HB.out⟩
end Go.Proofs.Ytmcjkaoddjakhaa
