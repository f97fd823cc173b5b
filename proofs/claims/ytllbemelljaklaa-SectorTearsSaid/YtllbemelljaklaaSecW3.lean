/- Layer 6: the walk of SectorTears. -/
import Derived.Test.YtllbemelljaklaaSecMay
import Derived.Deep.RegionHeld3
import Derived.Deep.RegionLaw
namespace Go.Proofs.Ytllbemelljaklaa
open Go.RowKit

theorem not_ownT {F : Nat → Prop} {w : World} {a : Option Addr} {n c : Nat} {l : List UInt8} (hF : ∀ k, F k → w.heap.size ≤ k) (h : Yt (.slice a n c) l w) : 0 < l.length → ∀ x, a = some x → ¬ F x.block := by
  intro h0 x e hf
  rcases h with ⟨_, _, _, e2⟩ | ⟨g, off, cap, e2, _, hg, _⟩
  · rw [e2] at h0; simp at h0
  · injection e2 with e3 _ _
    rw [e] at e3
    injection e3 with e3
    subst e3
    have h1 := hF _ hf
    have h2 : g < w.heap.size := hg
    exact absurd h1 (by show ¬ w.heap.size ≤ g; omega)
theorem info1b : (Try.prog.info? 5).map (fun i => (i.zero, i.size, i.bytes)) = some (some (.int .u8 0), 1, 1) := by kernel_rfl
theorem not_ownI {F : Nat → Prop} {w : World} {a : Option Addr} {n c : Nat} {l : List Int} (hF : ∀ k, F k → w.heap.size ≤ k) (h : It (.slice a n c) l w) : 0 < l.length → ∀ x, a = some x → ¬ F x.block := by
  intro h0 x e hf
  rcases h with ⟨_, _, _, e2⟩ | ⟨g, off, cap, e2, _, hg, _⟩
  · rw [e2] at h0; simp at h0
  · injection e2 with e3 _ _
    rw [e] at e3
    injection e3 with e3
    subst e3
    have h1 := hF _ hf
    have h2 : g < w.heap.size := hg
    exact absurd h1 (by show ¬ w.heap.size ≤ g; omega)
theorem repl_len (i : Nat) : ((List.replicate 64 ([] : List UInt8)).getD i []).length ≤ 0 := by
  rw [List.getD, List.getElem?_replicate]
  by_cases h : i < 64
  · rw [if_pos h]; exact Nat.le_refl _
  · rw [if_neg h]; exact Nat.le_refl _
theorem ext64 {a b : List (List UInt8)} (ha : a.length = 64) (hb : b.length = 64) (h : ∀ i, i < 64 → a.getD i [] = b.getD i []) : a = b := by
  apply List.ext_getElem?
  intro i
  by_cases hi : i < 64
  · have h1 := h i hi
    rw [List.getD, List.getD, List.getElem?_eq_getElem (by omega : i < a.length), List.getElem?_eq_getElem (by omega : i < b.length)] at h1
    rw [List.getElem?_eq_getElem (by omega : i < a.length), List.getElem?_eq_getElem (by omega : i < b.length)]
    exact congrArg some h1
  · rw [List.getElem?_eq_none (by omega), List.getElem?_eq_none (by omega)]
theorem yc_app (a b : List UInt8) : yc (a ++ b) = yc a ++ yc b := by unfold yc; rw [List.map_append]
theorem yt_at {a : Option Addr} {n c : Nat} {X : List UInt8} {W : World} (h : Yt (.slice a n c) X W) {k : Nat} (hk : k < X.length) : ∃ g off, a = some ⟨g, off, none⟩ ∧ n ≤ c ∧ n = X.length ∧ W.cell? ⟨g, off + k, none⟩ = some (.int .u8 ((X.getD k 0).toNat : Int)) := by
  rcases h with ⟨_, _, _, e⟩ | ⟨g, off, cap, e, hc, hg, hcell⟩
  · rw [e] at hk; simp at hk
  · injection e with e1 e2 e3
    exact ⟨g, off, e1, by omega, e2, hcell k hk⟩
/-- behind an append to the slice at one place -/
theorem Dm.app {Dev : Nat → Sm.Dv → (Nat → Prop) → World → Prop} (V : SecCon Dev) {B g gm : Nat} {d : Sm.Dv} {F : Nat → Prop} {ms : List (List UInt8)} {v : Nat → Value} {W w2 : World} (h : Dm Dev B g gm d F ms v W) {k : Nat} (hk : k < 64) {x : UInt8} {o : Obj} {v2 : Value} {l : List UInt8} (hl : l = ms.getD k [])
    (hown : w2.ownsRow B 5 1 v2 (l.length + 1) (yc l ++ yc [x])) (hg : ((W.alloc o).drew).grownBy w2 (v k).ownBlock) (hat : v2.ownBlock = (v k).ownBlock ∨ v2.ownBlock = some ((W.alloc o).drew).heap.size) :
    (∃ v3, Dm Dev B g gm d F (ms.set k (l ++ [x])) v3 (w2.setCell ⟨gm, k, none⟩ v2) ∧ (∀ i, Mf gm v3 i → Mf gm v i ∨ W.heap.size ≤ i) ∧ Only (Mf gm v) W (w2.setCell ⟨gm, k, none⟩ v2)) ∧ w2.cell? ⟨gm, k, none⟩ = some (v k) ∧ (∀ o, w2.frozen? ⟨gm, o, none⟩ = false) ∧ gm < w2.heap.size := by
  subst hl
  have ho : Only (fun b => (v k).ownBlock = some b) W w2 := Only.grown (Only.drew (Only.alloc (Only.refl _ _) o)) hg (fun b e => .inl e)
  have hb := ho.block gm h.m.lt (h.m.ne k hk)
  refine ⟨Dm.upd V h hk ho (l := ms.getD k [] ++ [x]) (by rw [yc_app]; rw [List.length_append]; exact hown) ?_, ?_, ?_, ?_⟩
  · rcases hat with e | e
    · exact .inl e
    · exact .inr ⟨_, e, by simp⟩
  · rw [← h.m.cell k hk]; simp [World.cell?, hb]
  · intro o; rw [← h.m.fz o]; simp [World.frozen?, hb]
  · have := ho.size; have := h.m.lt; omega
set_option maxHeartbeats 4000000 in
set_option maxRecDepth 100000 in
theorem walk_tears {Dev : Nat → Sm.Dv → (Nat → Prop) → World → Prop} (V : SecCon Dev) (a0 : Option Addr) (n0 c0 : Nat) (lb : List UInt8) (a1 : Option Addr) (n1 c1 : Nat) (l : List Sp) (a2 : Option Addr) (n2 c2 : Nat) (ts : List Int) (w : World) (m1 : n1 ≤ maxLen) (y0 : Yt (.slice a0 n0 c0) lb w) (y1 : Sv a1 n1 l w) (y2 : It (.slice a2 n2 c2) ts w) :
    Calls Try.prog 5 #[.slice a0 n0 c0, .slice a1 n1 c1, .slice a2 n2 c2] w fun e w' => e = .returned (.bool true) ∧ Below w.heap.size w w' := by
  have HV := Lib.hid V
  have HM1 : Hid ((n1 : Int) ≤ 9223372036854775807) := by show _ ≤ _; unfold maxLen at m1; omega
  have hn0 : n0 = lb.length := by obtain ⟨_, _, e⟩ := y0.form; injection e
  have hn2 : n2 = ts.length := by obtain ⟨_, _, e⟩ := y2.form; injection e
  have HN0 := Lib.hid hn0
  have HN2 := Lib.hid hn2
  have HY := Lib.hid y0
  have HS := Lib.hid y1
  have HT := Lib.hid y2
  clear V y0 y1 y2 hn0 hn2 m1
  by_cases hlen : n0 ≤ 64 ∧ n2 ≤ 200
  case neg =>
    rcases (show 64 < n0 ∨ (n0 ≤ 64 ∧ 200 < n2) by omega) with h1 | ⟨h1, h2⟩
    · have q1 : decide ((64 : Int) < (n0 : Int)) = true := by simp; omega
      clear h1
      go_enter Try.func5, Try.ntmps5
      go_wp2_with fail
      refine (walk_first HV.out w).mono ?_
      rintro e w1 ⟨rfl, hb1⟩
      have HB1 := Lib.hid hb1
      clear hb1
      go_wp2
      go_ret
      exact ⟨rfl, HB1.out⟩
    · have q1 : decide ((64 : Int) < (n0 : Int)) = false := by simp; omega
      have q2 : decide ((200 : Int) < (n2 : Int)) = true := by simp; omega
      clear h1 h2
      go_enter Try.func5, Try.ntmps5
      go_wp2_with fail
      refine (walk_first HV.out w).mono ?_
      rintro e w1 ⟨rfl, hb1⟩
      have HB1 := Lib.hid hb1
      clear hb1
      go_wp2
      go_ret
      exact ⟨rfl, HB1.out⟩
  obtain ⟨hl0, hl2⟩ := hlen
  have q1 : decide ((64 : Int) < (n0 : Int)) = false := by simp; omega
  have q2 : decide ((200 : Int) < (n2 : Int)) = false := by simp; omega
  go_enter Try.func5, Try.ntmps5
  go_wp2_with fail
  refine (walk_first HV.out w).mono ?_
  rintro e w1 ⟨rfl, hb1⟩
  have HB1 := Lib.hid hb1
  clear hb1
  go_wp2_with fail
  refine (HV.out.new 4 w1 (by omega) (by omega)).mono ?_
  rintro e w2 ⟨g, F, rfl, hd, hF, hb⟩
  have hs1 := HB1.out.size
  have HD2 := Lib.hid hd; have HB2 := Lib.hid (HB1.out.trans (hb.mono hs1)); have HF2 : Hid (∀ k, F k → w.heap.size ≤ k) := fun k hk => by have := hF k hk; omega
  obtain ⟨e1, e2, HTR0⟩ := Sm.tr_start lb (by have := HN0.out; omega)
  have HE1 := Lib.hid e1; have HE2 := Lib.hid e2; have HTR := Lib.hid HTR0
  clear hd hF hb HB1 hs1 q1 q2 e1 e2 HTR0
  go_wp2_with fail
  refine (HV.out.write 3 a0 n0 c0 lb HD2.out (lim_of (by show ([] : List Sm.Wr).length ≤ 1000; decide) (.inl rfl) (.inl rfl)) (HY.out.keep HB2.out) (by have := HN0.out; omega) (not_ownT HF2.out HY.out)).mono ?_
  rintro e w3 ⟨rfl, hd⟩
  obtain ⟨F3, HD3, HF3, HB3⟩ := hd.own HB2.out HF2.out
  rw [show (Sm.write (Sm.new 4) 3 lb).2 = 0 by rw [HE1.out]]
  clear hd HD2 HB2 HF2
  go_wp2_with fail
  refine (HV.out.flush HD3.out (by rw [HE1.out]; exact lim_of (by show 1 ≤ 1000; decide) (.inr (.inl rfl)) (.inl rfl))).mono ?_
  rintro e w4 ⟨rfl, hd⟩
  obtain ⟨F4, HD4, HF4, HB4⟩ := hd.own HB3.out HF3.out
  rw [show (Sm.flush (Sm.write (Sm.new 4) 3 lb).1).2 = 0 by rw [HE2.out]]
  have HCW : Hid ((Sm.flush (Sm.write (Sm.new 4) 3 lb).1).1.ws.length = 0 ∧ (Sm.flush (Sm.write (Sm.new 4) 3 lb).1).1.calls = 2) := by rw [HE2.out]; exact ⟨rfl, rfl⟩
  obtain ⟨d, hd0⟩ : ∃ d, d = (Sm.flush (Sm.write (Sm.new 4) 3 lb).1).1 := ⟨_, rfl⟩
  rw [← hd0] at HD4 HTR HCW
  clear hd HD3 HB3 HF3 HE1 HE2 hd0
  go_upto_region 9 with (fail)
  obtain ⟨cs, hcs⟩ : ∃ cs : Array Value, cs = #[.slice none 0 0, .slice none 0 0, .slice none 0 0, .slice none 0 0, .slice none 0 0, .slice none 0 0, .slice none 0 0, .slice none 0 0, .slice none 0 0, .slice none 0 0, .slice none 0 0, .slice none 0 0, .slice none 0 0, .slice none 0 0, .slice none 0 0, .slice none 0 0, .slice none 0 0, .slice none 0 0, .slice none 0 0, .slice none 0 0, .slice none 0 0, .slice none 0 0, .slice none 0 0, .slice none 0 0, .slice none 0 0, .slice none 0 0, .slice none 0 0, .slice none 0 0, .slice none 0 0, .slice none 0 0, .slice none 0 0, .slice none 0 0, .slice none 0 0, .slice none 0 0, .slice none 0 0, .slice none 0 0, .slice none 0 0, .slice none 0 0, .slice none 0 0, .slice none 0 0, .slice none 0 0, .slice none 0 0, .slice none 0 0, .slice none 0 0, .slice none 0 0, .slice none 0 0, .slice none 0 0, .slice none 0 0, .slice none 0 0, .slice none 0 0, .slice none 0 0, .slice none 0 0, .slice none 0 0, .slice none 0 0, .slice none 0 0, .slice none 0 0, .slice none 0 0, .slice none 0 0, .slice none 0 0, .slice none 0 0, .slice none 0 0, .slice none 0 0, .slice none 0 0, .slice none 0 0] := ⟨_, rfl⟩
  rw [← hcs]
  have hs4 := HB4.out.size
  have hmy := My.start (B := w.heap.size) (w := w4) (ty := 53) (hcs.trans rfl) hs4
  have HDM := Lib.hid (show Dm Dev w.heap.size g w4.heap.size d F4 (List.replicate 64 []) (fun _ => .slice none 0 0) (w4.alloc (.cells cs 53)) from ⟨HV.out.below HD4.out (one_bs w4 _), hmy, HF4.out, fun k hk hm => by have h1 := mf_start k hm; have := HV.out.lt HD4.out k hk; omega⟩)
  have HB5 := Lib.hid (HB4.out.trans ((one_bs w4 (.cells cs 53)).mono hs4))
  obtain ⟨gm, hgm⟩ : ∃ gm, gm = w4.heap.size := ⟨_, rfl⟩
  obtain ⟨w5, hw5⟩ : ∃ w5, w5 = w4.alloc (.cells cs 53) := ⟨_, rfl⟩
  rw [← hw5] at HDM HB5 ⊢
  rw [← hgm] at HDM ⊢
  clear hcs hmy hs4 HD4 HB4 HF4 hgm hw5
  go_wp2_with fail
  go_loopw [52] (fun iv wr => ∃ (j : Nat) (d : Sm.Dv) (F : Nat → Prop) (ms : List (List UInt8)) (v : Nat → Value), j ≤ n1 ∧ iv = .int .i64 (j : Int) ∧ Hid (Sm.Tr lb d ms) ∧ Hid (Dm Dev w.heap.size g gm d F ms v wr) ∧ Hid (Below w.heap.size w wr) ∧ Hid (d.ws.length ≤ j ∧ d.ws.length ≤ 50 ∧ 0 ≤ d.calls ∧ d.calls ≤ 2 + (j : Int) ∧ d.calls ≤ 52) ∧ Hid (∀ i, (ms.getD i []).length ≤ j ∧ (ms.getD i []).length ≤ 50)) (fun iv _ => n1 - (ixOf iv).toNat)
  case atStart => exact ⟨0, d, F4, _, _, Nat.zero_le _, rfl, HTR.out, HDM.out, HB5.out, (by have := HCW.out; exact ⟨by omega, by omega, by omega, by omega, by omega⟩), fun i => ⟨repl_len i, Nat.le_trans (repl_len i) (Nat.zero_le _)⟩⟩
  case round =>
    obtain ⟨j, d, F, ms, v, hj, rfl, HTR, HDM, HB, HC, HL⟩ := hrel
    have hwr := HB.out.size
    by_cases hlt : j < n1
    · have hj63 : (j : Int) + 1 ≤ 9223372036854775807 := by have := HM1.out; omega
      obtain ⟨gs, off, ab, nb, cb, av, nt, ct, ha, hx0⟩ := HS.out.2 j (by rw [← HS.out.1]; exact hlt)
      generalize l[j]'(by rw [← HS.out.1]; exact hlt) = s at hx0
      have hx := hx0.keep HB.out
      subst ha
      obtain ⟨sk, si, sb, sts⟩ := s
      have e0 := hx.c0; have e1 := hx.c1; have e2 := hx.c2; have e3 := hx.c3
      dsimp only at e0 e1 e2 e3
      have hba := one_bs wr (.cells #[.int .i64 sk, .int .i64 si, .slice ab nb cb, .slice av nt ct] 34)
      have HDA := Lib.hid (Dm.below HV.out HDM.out hba)
      have HBA := Lib.hid (HB.out.trans (hba.mono hwr))
      have HY0 := Lib.hid (show Yt (.slice ab nb cb) sb w from hx0.b)
      have HLT := Lib.hid (HV.out.lt HDM.out.d)
      have hnb : nb = sb.length := by obtain ⟨_, _, e⟩ := hx.b.form; injection e
      have HNB := Lib.hid hnb
      have HCN : Hid (d.ws.length ≤ j + 1 ∧ d.ws.length ≤ 50 ∧ 0 ≤ d.calls ∧ d.calls ≤ 2 + ((j + 1 : Nat) : Int) ∧ d.calls ≤ 52) := by have := HC.out; exact ⟨by omega, by omega, by omega, by omega, by omega⟩
      have HLN : Hid (∀ i, (ms.getD i []).length ≤ j + 1 ∧ (ms.getD i []).length ≤ 50) := fun i => ⟨by have := (HL.out i).1; omega, (HL.out i).2⟩
      clear hba hnb hx hx0
      by_cases h50 : 50 ≤ j
      · have q : decide ((50 : Int) ≤ (j : Int)) = true := by simp; omega
        clear h50
        go_wp2
        go_roundw
        case rel => exact ⟨j + 1, d, F, ms, v, by omega, by go_num, HTR, HDA, HBA, HCN, HLN⟩
        case measure => simp [ixOf]; omega
      have q50 : decide ((50 : Int) ≤ (j : Int)) = false := by simp; omega
      by_cases h64 : nb ≤ 64
      case neg =>
        have q : decide ((64 : Int) < (nb : Int)) = true := by simp; omega
        clear h64 h50
        go_wp2
        go_roundw
        case rel => exact ⟨j + 1, d, F, ms, v, by omega, by go_num, HTR, HDA, HBA, HCN, HLN⟩
        case measure => simp [ixOf]; omega
      have q64 : decide ((64 : Int) < (nb : Int)) = false := by simp; omega
      obtain ⟨U, hU⟩ : ∃ U : Nat, (U : Int) = sk % 18446744073709551616 := ⟨(sk % 18446744073709551616).toNat, by omega⟩
      have hw1 : IntKind.u64.wrap sk = (U : Int) := by rw [IntKind.wrap_u64, hU]
      obtain ⟨K, hK⟩ : ∃ K : Int, (U : Int).tmod 5 = K := ⟨_, rfl⟩
      have hKb : 0 ≤ K ∧ K < 5 := by rw [← hK, Int.tmod_eq_emod_of_nonneg (by omega)]; omega
      obtain ⟨hK0, hK5⟩ := hKb
      clear hU
      rcases (show (K = 0 ∨ K = 1) ∨ K = 2 ∨ K = 3 ∨ K = 4 by omega) with hK01 | rfl | rfl | rfl
      iterate 1
        · have h2l : Lim d := ⟨by have := HC.out; omega, by have := HC.out; omega, by have := HC.out; omega, by rw [HTR.out.left]; decide, by rw [HTR.out.left]; decide⟩
          have HLIM := Lib.hid h2l
          obtain ⟨U2, hU2⟩ : ∃ U : Nat, (U : Int) = si % 18446744073709551616 := ⟨(si % 18446744073709551616).toNat, by omega⟩
          obtain ⟨mm, hmm⟩ : ∃ mm, mm = U2 % 3 := ⟨_, rfl⟩
          have hm3 : mm < 3 := by omega
          have hx1 : IntKind.u64.wrap si = (U2 : Int) := by rw [IntKind.wrap_u64, hU2]
          have hx2 : (U2 : Int).tmod 3 = (mm : Int) := by rw [Int.tmod_eq_emod_of_nonneg (by omega)]; omega
          have hx3 : wrap64 (mm : Int) = (mm : Int) := by unfold wrap64; omega
          have hsb : sb.length ≤ 64 := by have := HNB.out; omega
          obtain ⟨tf1, tf2, tf3, tf4⟩ := Sm.tr_write HTR.out mm hm3 hsb
          have HT2 := Lib.hid tf4
          have HC2 : Hid ((Sm.write d (mm : Int) sb).1.ws.length = d.ws.length + 1 ∧ (Sm.write d (mm : Int) sb).1.calls = d.calls + 1) := by rw [tf1]; exact ⟨by show (d.ws ++ [_]).length = _; rw [List.length_append]; rfl, rfl⟩
          have hj49 : j < 50 := by omega
          have HSB := Lib.hid hsb
          have b2 : ((K : Int) == 2) = false := by rcases hK01 with e | e <;> rw [e] <;> rfl
          have b3 : ((K : Int) == 3) = false := by rcases hK01 with e | e <;> rw [e] <;> rfl
          have b4 : ((K : Int) == 4) = false := by rcases hK01 with e | e <;> rw [e] <;> rfl
          clear hK01 hK0 hK5
          clear hU2 hmm tf1 tf4 h2l h64 h50 HTR HDM hj63 hsb
          go_wp2_with fail
          refine (HV.out.write (mm : Int) ab nb cb sb HDA.out.d HLIM.out (HY0.out.keep HBA.out) (by have := HSB.out; omega) (not_ownT HDA.out.o HY0.out)).mono ?_
          rintro e w6 ⟨rfl, hd⟩
          obtain ⟨F6, HD6, HB6⟩ := Dm.did HDA.out hd HBA.out HBA.out.size
          obtain ⟨d6, hd6⟩ : ∃ d6, d6 = (Sm.write d (mm : Int) sb).1 := ⟨_, rfl⟩
          rw [← hd6] at HD6 HT2 HC2 tf2 tf3
          have hs6 := HB6.out.size
          clear hd hd6 HDA HBA HLIM hx1 hx2 hx3
          go_wp2_with fail
          refine (HV.out.read 0 HD6.out.d (by have := HC2.out.1; have := HC.out; omega)).mono ?_
          rintro e w7 ⟨a7, c7, n7, rfl, hn7, ho7, hb⟩
          obtain ⟨X, hX⟩ : ∃ X, X = (Sm.read d6 0).1 := ⟨_, rfl⟩
          rw [← hX] at hn7 ho7 tf2 HT2
          replace hn7 : n7 = 64 := hn7.trans tf2
          subst hn7
          have HX : Hid (Xs gm v (.slice a7 64 c7) X w7) := ⟨Yt.of_own ho7, fun b e hm => by have h1 := (ho7.lt b e).1; have h2 := HD6.out.m.mf_lt b hm; omega⟩
          have HD7 := Lib.hid (Dm.below HV.out HD6.out hb); have HB7 := Lib.hid (HB6.out.trans (hb.mono hs6))
          have HXL := Lib.hid tf2
          clear hb ho7 HD6 HB6 hs6 hX tf2 tf3
          go_wp2_with fail
          go_loopw [116] (fun kv wk => ∃ (k : Nat) (ms' : List (List UInt8)) (v' : Nat → Value), k ≤ 64 ∧ kv = .int .i64 (k : Int) ∧ Hid (Dm Dev w.heap.size g gm d6 F6 ms' v' wk) ∧ Hid (Below w.heap.size w wk) ∧ Hid (Xs gm v' (.slice a7 64 c7) X wk) ∧ Hid (∀ i, ms'.getD i [] = if i < k then ms.getD i [] ++ [X.getD i 0] else ms.getD i [])) (fun kv _ => 64 - (ixOf kv).toNat)
          case atStart => exact ⟨0, ms, v, by omega, rfl, HD7.out, HB7.out, HX.out, fun i => by rw [if_neg (Nat.not_lt_zero i)]⟩
          case round =>
            obtain ⟨k, ms', v', hk, rfl, HDK, HBK, HXK, HMK⟩ := hrel
            have hsk := HBK.out.size
            by_cases hk64 : k < 64
            · obtain ⟨gx, ox, ha7, -, -, hcx⟩ := Xs.at HXK.out (show k < X.length by have := HXL.out; omega)
              subst ha7
              obtain ⟨x, hx⟩ : ∃ x, x = X.getD k 0 := ⟨_, rfl⟩
              rw [← hx] at hcx
              have hcm := HDK.out.m.cell k hk64
              have hfm := HDK.out.m.fz
              have hgl := HDK.out.m.lt
              obtain ⟨lk, hlk⟩ : ∃ lk, lk = ms'.getD k [] := ⟨_, rfl⟩
              have hlk2 : lk = ms.getD k [] := by rw [hlk, HMK.out k, if_neg (Nat.lt_irrefl k)]
              have hll : lk.length ≤ 50 := by rw [hlk2]; exact (HL.out k).2
              have hov := HDK.out.m.own k hk64
              rw [← hlk] at hov
              obtain ⟨i0, hi0, hz0, hz1, hz2⟩ := info_of info1b
              have HI0 := Lib.hid hi0; have HZ0 := Lib.hid hz0; have HZ1 := Lib.hid hz1; have HZ2 := Lib.hid hz2
              have HOV := Lib.hid hov
              have HAPP : Hid (∀ (v2 : Value) (w2 : World), w2.ownsRow w.heap.size 5 1 v2 (lk.length + 1) (yc lk ++ yc [x]) → ((wr.alloc (.cells #[.int .u8 (x.toNat : Int)] 5)).drew).grownBy w2 (v' k).ownBlock → (v2.ownBlock = (v' k).ownBlock ∨ v2.ownBlock = some ((wr.alloc (.cells #[.int .u8 (x.toNat : Int)] 5)).drew).heap.size) → (∃ v3, Dm Dev w.heap.size g gm d6 F6 (ms'.set k (lk ++ [x])) v3 (w2.setCell ⟨gm, k, none⟩ v2) ∧ (∀ i, Mf gm v3 i → Mf gm v' i ∨ wr.heap.size ≤ i) ∧ Only (Mf gm v') wr (w2.setCell ⟨gm, k, none⟩ v2)) ∧ w2.cell? ⟨gm, k, none⟩ = some (v' k) ∧ (∀ o, w2.frozen? ⟨gm, o, none⟩ = false) ∧ gm < w2.heap.size) := fun v2 w2 ho hg ha => Dm.app HV.out HDK.out hk64 hlk ho hg ha
              have HSRC := Lib.hid (Yt.src (Yt.of_own (own_drew (own_litw wr x w.heap.size hsk))))
              have HMK2 : Hid (∀ i, (ms'.set k (lk ++ [x])).getD i [] = if i < k + 1 then ms.getD i [] ++ [X.getD i 0] else ms.getD i []) := by
                intro i
                rw [getD_setL _ _ _ _ (by rw [HDK.out.m.len]; exact hk64)]
                by_cases e : i = k
                · rw [if_pos e, if_pos (by omega), hlk2, hx, e]
                · rw [if_neg e, HMK.out i]
                  by_cases hi : i < k
                  · rw [if_pos hi, if_pos (by omega)]
                  · rw [if_neg hi, if_neg (by omega)]
              obtain ⟨vk, hvk⟩ : ∃ vk, vk = v' k := ⟨_, rfl⟩
              rw [← hvk] at hcm HOV HAPP
              clear hi0 hz0 hz1 hz2 hlk hlk2 hov hvk hx HMK hsk
              go_upto_region 26 with (fail)
              go_region_law (first
                | (refine step_append_src _ rfl (.tmp 122) (.tmp 127) 31 31 rfl w.heap.size 5 i0 (.int .u8 0) 1 1 Try.underlying31 HI0.out HZ0.out HZ1.out HZ2.out rfl vk lk.length (yc lk) rfl (own_drew (HOV.out.alloc _)) _ 1 (yc [x]) rfl HSRC.out (by unfold maxLen; omega) (by omega) (by have := HBK.out.size; simp; omega) ?_; intro v2 w2 hown hgrow hat; obtain ⟨⟨v3, h1, h2, h3⟩, d0, df, dl⟩ := HAPP.out v2 w2 hown hgrow hat; obtain ⟨a2, c2', rfl⟩ := own_slice hown (by omega); have HDK2 := Lib.hid h1; have HXK2 := Lib.hid (Xs.step HXK.out (by have := HXL.out; omega) h2 h3); have HBK2 := Lib.hid (HBK.out.trans (only_bel h3 HBK.out.size (fun b hb hm => by have := HDK.out.m.mf_ge b hm; omega))); clear h1 h2 h3 hown hgrow hat))
              all_goals
                clear HAPP HDK HXK HBK HSRC HOV
                go_wp2
                go_roundw
                case rel => exact ⟨k + 1, ms'.set k (lk ++ [x]), v3, by omega, by go_num, HDK2, HBK2, HXK2, HMK2⟩
                case measure => simp [ixOf]; omega
            · have hkk : k = 64 := by omega
              have HMS : Hid (ms' = Sm.more ms X) := by
                refine ext64 HDK.out.m.len (Sm.more_len HD7.out.m.len HXL.out) (fun i hi => ?_)
                rw [HMK.out i, if_pos (by omega), Sm.more_at HD7.out.m.len HXL.out hi]
              have HT3 := Lib.hid (HMS.out ▸ HT2.out : Sm.Tr lb d6 ms')
              have HCN2 : Hid (d6.ws.length ≤ j + 1 ∧ d6.ws.length ≤ 50 ∧ 0 ≤ d6.calls ∧ d6.calls ≤ 2 + ((j + 1 : Nat) : Int) ∧ d6.calls ≤ 52) := by have h1 := HC.out; have h2 := HC2.out; exact ⟨by omega, by omega, by omega, by omega, by omega⟩
              have HLN2 : Hid (∀ i, (ms'.getD i []).length ≤ j + 1 ∧ (ms'.getD i []).length ≤ 50) := by
                intro i
                rw [HMK.out i]
                have := HL.out i
                by_cases hi : i < k
                · rw [if_pos hi, List.length_append]; show _ + 1 ≤ _ ∧ _ + 1 ≤ _; omega
                · rw [if_neg hi]; omega
              clear HMS HT2 HMK HXK
              go_wp2
              go_roundw
              case rel => exact ⟨j + 1, d6, F6, ms', v', by omega, by go_num, HT3, HDK, HBK, HCN2, HLN2⟩
              case measure => simp [ixOf]; omega
      · have h2l : Lim d := ⟨by have := HC.out; omega, by have := HC.out; omega, by have := HC.out; omega, by rw [HTR.out.left]; decide, by rw [HTR.out.left]; decide⟩
        have HLIM := Lib.hid h2l
        obtain ⟨tf1, tf2, tf3, tf4⟩ := Sm.tr_flush HTR.out
        have HT2 := Lib.hid tf4
        have HC2 : Hid ((Sm.flush d).1.ws.length = 0 ∧ (Sm.flush d).1.calls = d.calls + 1) := by rw [tf1]; exact ⟨rfl, rfl⟩
        have hj49 : j < 50 := by omega
        clear tf1 tf4 h2l h64 h50 HTR HDM hj63
        go_wp2_with fail
        refine (HV.out.flush HDA.out.d HLIM.out).mono ?_
        rintro e w6 ⟨rfl, hd⟩
        obtain ⟨F6, HD6, HB6⟩ := Dm.did HDA.out hd HBA.out HBA.out.size
        obtain ⟨d6, hd6⟩ : ∃ d6, d6 = (Sm.flush d).1 := ⟨_, rfl⟩
        rw [← hd6] at HD6 HT2 HC2 tf2 tf3
        have hs6 := HB6.out.size
        clear hd hd6 HDA HBA HLIM
        go_wp2_with fail
        refine (HV.out.read 0 HD6.out.d (by have := HC2.out.1; omega)).mono ?_
        rintro e w7 ⟨a7, c7, n7, rfl, hn7, ho7, hb⟩
        obtain ⟨X, hX⟩ : ∃ X, X = (Sm.read d6 0).1 := ⟨_, rfl⟩
        rw [← hX] at hn7 ho7 tf2 HT2
        replace hn7 : n7 = 64 := hn7.trans tf2
        subst hn7
        have HX : Hid (Xs gm v (.slice a7 64 c7) X w7) := ⟨Yt.of_own ho7, fun b e hm => by have h1 := (ho7.lt b e).1; have h2 := HD6.out.m.mf_lt b hm; omega⟩
        have HD7 := Lib.hid (Dm.below HV.out HD6.out hb); have HB7 := Lib.hid (HB6.out.trans (hb.mono hs6))
        have HXL := Lib.hid tf2
        clear hb ho7 HD6 HB6 hs6 hX tf2 tf3
        go_wp2_with fail
        go_loopw [91] (fun kv wk => ∃ (k : Nat) (ms' : List (List UInt8)) (v' : Nat → Value), k ≤ 64 ∧ kv = .int .i64 (k : Int) ∧ Hid (Dm Dev w.heap.size g gm d6 F6 ms' v' wk) ∧ Hid (Below w.heap.size w wk) ∧ Hid (Xs gm v' (.slice a7 64 c7) X wk) ∧ Hid (∀ i, i < k → ms'.getD i [] = [X.getD i 0])) (fun kv _ => 64 - (ixOf kv).toNat)
        case atStart => exact ⟨0, ms, v, by omega, rfl, HD7.out, HB7.out, HX.out, fun i hi => absurd hi (by omega)⟩
        case round =>
          obtain ⟨k, ms', v', hk, rfl, HDK, HBK, HXK, HMK⟩ := hrel
          have hsk := HBK.out.size
          by_cases hk64 : k < 64
          · obtain ⟨gx, ox, ha7, -, -, hcx⟩ := Xs.at HXK.out (show k < X.length by have := HXL.out; omega)
            subst ha7
            obtain ⟨x, hx⟩ : ∃ x, x = X.getD k 0 := ⟨_, rfl⟩
            rw [← hx] at hcx
            have hcm := HDK.out.m.cell k hk64
            have hfm := HDK.out.m.fz
            have hgl := HDK.out.m.lt
            have hex := Dm.upd HV.out HDK.out hk64 (Only.alloc (Only.refl _ _) _ : Only (fun b => (v' k).ownBlock = some b) wr (wr.alloc (.cells #[.int .u8 (x.toNat : Int)] 5))) (own_litw wr x w.heap.size hsk) (.inr ⟨wr.heap.size, rfl, Nat.le_refl _⟩)
            obtain ⟨v2, h1, h2, h3⟩ := hex
            have HDK2 := Lib.hid h1
            have HXK2 := Lib.hid (Xs.step HXK.out (by have := HXL.out; omega) h2 h3)
            have HBK2 := Lib.hid (HBK.out.trans (only_bel h3 hsk (fun b hb hm => by have := HDK.out.m.mf_ge b hm; omega)))
            have HMK2 : Hid (∀ i, i < k + 1 → (ms'.set k [x]).getD i [] = [X.getD i 0]) := by
              intro i hi
              rw [getD_setL _ _ _ _ (by rw [HDK.out.m.len]; exact hk64)]
              by_cases e : i = k
              · rw [if_pos e, hx, e]
              · rw [if_neg e]; exact HMK.out i (by omega)
            obtain ⟨vk, hvk⟩ : ∃ vk, vk = v' k := ⟨_, rfl⟩
            rw [← hvk] at hcm
            have hcm2 : (wr.alloc (.cells #[.int .u8 (x.toNat : Int)] 5)).cell? ⟨gm, k, none⟩ = some vk := by
              rw [← hcm]; exact (one_bs wr _).cell (p := ⟨gm, k, none⟩) hgl
            have hfm2 : ∀ o, (wr.alloc (.cells #[.int .u8 (x.toNat : Int)] 5)).frozen? ⟨gm, o, none⟩ = false := fun o => by
              rw [← hfm o]; exact (one_bs wr _).frozen (p := ⟨gm, o, none⟩) hgl
            rw [World.setCell_alloc_past _ _ _ _ hgl] at HDK2 HXK2 HBK2
            clear h1 h2 h3 hvk hx HMK HDK HXK hfm hcm
            go_wp2
            go_roundw
            case rel => exact ⟨k + 1, ms'.set k [x], v2, by omega, by go_num, HDK2, HBK2, HXK2, HMK2⟩
            case measure => simp [ixOf]; omega
          · have hkk : k = 64 := by omega
            have HMS : Hid (ms' = X.map fun c => [c]) := by
              show _ = _
              apply List.ext_getElem?
              intro i
              by_cases hi : i < 64
              · have h1 := HMK.out i (by omega)
                have hl1 : i < ms'.length := by rw [HDK.out.m.len]; exact hi
                have hl2 : i < X.length := by have := HXL.out; omega
                rw [List.getD, List.getElem?_eq_getElem hl1] at h1
                rw [List.getElem?_eq_getElem hl1, List.getElem?_map, List.getElem?_eq_getElem hl2]
                simp [List.getD, hl2] at h1
                simp [h1]
              · rw [List.getElem?_eq_none (by rw [HDK.out.m.len]; omega), List.getElem?_eq_none (by rw [List.length_map]; have := HXL.out; omega)]
            have HT3 := Lib.hid (HMS.out ▸ HT2.out : Sm.Tr lb d6 ms')
            have HCN2 : Hid (d6.ws.length ≤ j + 1 ∧ d6.ws.length ≤ 50 ∧ 0 ≤ d6.calls ∧ d6.calls ≤ 2 + ((j + 1 : Nat) : Int) ∧ d6.calls ≤ 52) := by have h1 := HC.out; have h2 := HC2.out; exact ⟨by omega, by omega, by omega, by omega, by omega⟩
            have HLN2 : Hid (∀ i, (ms'.getD i []).length ≤ j + 1 ∧ (ms'.getD i []).length ≤ 50) := by
              intro i
              by_cases hi : i < 64
              · rw [HMK.out i (by omega)]; show 1 ≤ _ ∧ 1 ≤ _; omega
              · rw [List.getD, List.getElem?_eq_none (by rw [HDK.out.m.len]; omega)]; exact ⟨Nat.zero_le _, Nat.zero_le _⟩
            clear HMS HT2 HMK HXK
            go_wp2
            go_roundw
            case rel => exact ⟨j + 1, d6, F6, ms', v', by omega, by go_num, HT3, HDK, HBK, HCN2, HLN2⟩
            case measure => simp [ixOf]; omega
      · clear h64 h50
        go_wp2
        go_roundw
        case rel => exact ⟨j + 1, d, F, ms, v, by omega, by go_num, HTR, HDA, HBA, HCN, HLN⟩
        case measure => simp [ixOf]; omega
      · clear h64 h50
        go_wp2
        go_roundw
        case rel => exact ⟨j + 1, d, F, ms, v, by omega, by go_num, HTR, HDA, HBA, HCN, HLN⟩
        case measure => simp [ixOf]; omega
    · have HTS : Hid (ts.length ≤ 1000) := by have := HN2.out; show _ ≤ _; omega
      go_wp2_with fail
      refine (HV.out.crash a2 n2 c2 ts HDM.out.d (by have := HC.out; omega) (HT.out.keep HB.out) HTS.out (not_ownI HDM.out.o HT.out)).mono ?_
      rintro e w6 ⟨rfl, hd⟩
      obtain ⟨F6, HD6, HB6⟩ := Dm.did HDM.out hd HB.out hwr
      obtain ⟨t1, t2, t3, t4⟩ := Sm.tr_end HTR.out ts
      obtain ⟨d6, hd6⟩ : ∃ d6, d6 = Sm.crash d ts := ⟨_, rfl⟩
      have HW0 : Hid (d6.ws.length ≤ 1000) := by rw [hd6]; show ([] : List Sm.Wr).length ≤ 1000; decide
      rw [← hd6] at HD6 t1 t2 t3 t4
      have HE1 := Lib.hid t1; have HE2 := Lib.hid t2
      obtain ⟨X, hX⟩ : ∃ X, X = (Sm.read d6 0).1 := ⟨_, rfl⟩
      rw [← hX] at t3 t4
      have HXL := Lib.hid t3; have HIN := Lib.hid t4; have HXE := Lib.hid hX
      have hs6 := HB6.out.size
      clear hd hd6 HDM HB hwr HTR t1 t2 t3 t4 hX HC
      go_wp2_with fail
      refine (HV.out.read 0 HD6.out.d HW0.out).mono ?_
      rintro e w7 ⟨a7, c7, n7, rfl, hn7, ho7, hb⟩
      rw [HE2.out]
      rw [← HXE.out] at hn7 ho7
      replace hn7 : n7 = 64 := hn7.trans HXL.out
      subst hn7
      have HY7 := Lib.hid (Yt.of_own ho7)
      have HD7 := Lib.hid (Dm.below HV.out HD6.out hb); have HB7 := Lib.hid (HB6.out.trans (hb.mono hs6))
      have hs7 := HB7.out.size
      clear hb ho7 HD6 HB6 hs6 HXE HE2
      go_wp2_with fail
      refine (HV.out.read 3 HD7.out.d HW0.out).mono ?_
      rintro e w8 ⟨a8, c8, n8, rfl, hn8, ho8, hb⟩
      rw [HE1.out] at hn8 ho8 ⊢
      have hlf : (Sm.full lb).length = 64 := Sm.full_len (by have := HN0.out; omega)
      replace hn8 : n8 = 64 := hn8.trans hlf
      subst hn8
      have hdr : Below w8.heap.size w8 w8.drew := ⟨rfl, rfl, rfl, Nat.le_refl _, fun _ _ => rfl⟩
      have HD8 := Lib.hid (Dm.below HV.out (Dm.below HV.out HD7.out hb) hdr)
      have HB8 := Lib.hid ((HB7.out.trans (hb.mono hs7)).trans (hdr.mono (by have := hb.size; omega)))
      have HY8 := Lib.hid ((Yt.of_own ho8).keep hdr)
      have HX8 := Lib.hid ((HY7.out.keep hb).keep hdr)
      obtain ⟨S, hS⟩ : ∃ S, S = bstr (Sm.full lb) := ⟨_, rfl⟩
      obtain ⟨B, hB⟩ : ∃ B, B = bstr lb := ⟨_, rfl⟩
      have hSS : (S.toList == S.toList) = true := by simp
      have HFU : Hid (∀ W, Calls Try.prog 23 #[.string B] W fun e w' => e = .returned (.string S) ∧ W = w') := fun W => by rw [hS, hB]; exact ref6_full lb W (by have := HN0.out; omega)
      have S0 := Lib.hid (show (convert 31 9 (.slice a8 64 c8)).run Try.prog w8.drew = .ok (.string S) w8.drew ∧ (convert 31 9 (.slice a0 n0 c0)).run Try.prog w8.drew = .ok (.string B) w8.drew ∧ Hid (Dm Dev w.heap.size g gm d6 F6 ms v w8.drew ∧ Below w.heap.size w w8.drew ∧ Yt (.slice a7 64 c7) X w8.drew) from
        ⟨by rw [hS]; exact Yt.str HY8.out, by rw [hB]; exact Yt.str (HY.out.keep HB8.out), HD8.out, HB8.out, HX8.out⟩)
      clear hb HD7 HB7 hs7 ho8 hlf hdr HD8 HB8 HY8 HX8 HY7 hS hB HE1
      dsimp only
      go_upto_region 32 with (fail)
      go_region_held3 (fun w' => (convert 31 9 (.slice a8 64 c8)).run Try.prog w' = .ok (.string S) w' ∧ (convert 31 9 (.slice a0 n0 c0)).run Try.prog w' = .ok (.string B) w' ∧ Hid (Dm Dev w.heap.size g gm d6 F6 ms v w' ∧ Below w.heap.size w w' ∧ Yt (.slice a7 64 c7) X w')) (first | exact S0.out | assumption)
        (first | (go_at_call 23; refine (HFU.out _).mono ?_; rintro e w5 ⟨rfl, rfl⟩))
      all_goals
        rename_i hHeld
        have HF := Lib.hid hHeld.2.2.out
        clear hHeld S0 HFU hSS
        obtain ⟨w9, hw9⟩ : ∃ w9, w9 = w8.drew := ⟨_, rfl⟩
        rw [← hw9] at HF ⊢
        clear hw9
        go_wp2_with fail
        go_loopw [161] (fun kv wx => ∃ k : Nat, k ≤ 64 ∧ kv = .int .i64 (k : Int) ∧ wx = w9) (fun kv _ => 64 - (ixOf kv).toNat)
        case atStart => exact ⟨0, by omega, rfl, rfl⟩
        case round =>
          obtain ⟨k, hk, rfl, hww⟩ := hrel
          subst hww
          by_cases hk64 : k < 64
          · obtain ⟨gx, ox, ha7, -, -, hcx⟩ := yt_at HF.out.2.2 (show k < X.length by have := HXL.out; omega)
            subst ha7
            have hin := HIN.out k hk64
            obtain ⟨x, hx⟩ : ∃ x, x = X.getD k 0 := ⟨_, rfl⟩
            obtain ⟨lk, hlk⟩ : ∃ lk, lk = ms.getD k [] := ⟨_, rfl⟩
            rw [← hx, ← hlk] at hin
            rw [← hx] at hcx
            have hcm := HF.out.1.m.cell k hk64
            have hyk := Yt.of_own (HF.out.1.m.own k hk64)
            obtain ⟨av, cv, hv⟩ := hyk.form
            rw [hv] at hcm hyk
            rw [← hlk] at hcm hyk
            obtain ⟨L, hL⟩ : ∃ L, L = lk.length := ⟨_, rfl⟩
            have hL50 : L ≤ 50 := by rw [hL, hlk]; exact (HL.out k).2
            rw [← hL] at hcm hyk
            have HLE := Lib.hid hL; have HYK := Lib.hid hyk; have HX0 := Lib.hid hin
            obtain ⟨b0, hb0⟩ : ∃ b0 : Bool, ((x.toNat : Int) == 0) = b0 := ⟨_, rfl⟩
            have HB0 : Hid (x = 0 → b0 = true) := fun e => by rw [← hb0, e]; rfl
            clear hin hx hlk hv hL hyk
            go_wp2_with fail
            go_loopw [24, 172] (fun bv iv wx => ∃ (i : Nat) (bb : Bool), i ≤ L ∧ bv = .bool bb ∧ iv = .int .i64 (i : Int) ∧ wx = wr ∧ Hid (b0 = true → bb = true) ∧ Hid (∀ i', i' < i → lk[i']? = some x → bb = true)) (fun _ iv _ => L - (ixOf iv).toNat)
            case atStart => exact ⟨0, b0, by omega, rfl, rfl, rfl, fun e => e, fun i hi => absurd hi (by omega)⟩
            case round =>
              obtain ⟨i, bb, hi, rfl, rfl, hww, HBB, HII⟩ := hrel
              subst hww
              by_cases hiL : i < L
              · obtain ⟨gy, oy, hav, -, -, hcy⟩ := yt_at HYK.out (show i < lk.length by have := HLE.out; omega)
                subst hav
                obtain ⟨y, hy⟩ : ∃ y, y = lk.getD i 0 := ⟨_, rfl⟩
                rw [← hy] at hcy
                have HYE : Hid (lk[i]? = some y) := by
                  show _ = _
                  have h1 : i < lk.length := by have := HLE.out; omega
                  rw [hy, List.getD, List.getElem?_eq_getElem h1]; rfl
                clear hy hb0
                cases bb with
                | true =>
                  go_wp2
                  go_roundw
                  case rel => exact ⟨i + 1, true, by omega, rfl, by go_num, trivial, fun _ => rfl, fun _ _ _ => rfl⟩
                  case measure => simp [ixOf]; omega
                | false =>
                  obtain ⟨b1, hb1⟩ : ∃ b1 : Bool, ((y.toNat : Int) == (x.toNat : Int)) = b1 := ⟨_, rfl⟩
                  have HB1 : Hid (y = x → b1 = true) := fun e => by rw [← hb1, e]; simp
                  have HI2 : Hid (∀ i', i' < i + 1 → lk[i']? = some x → b1 = true) := by
                    intro i' hi' he
                    by_cases h2 : i' = i
                    · subst h2
                      rw [HYE.out] at he
                      exact HB1.out (Option.some.inj he)
                    · exact absurd (HII.out i' (by omega) he) (by decide)
                  have HI3 : Hid (b0 = true → b1 = true) := fun e => absurd (HBB.out e) (by decide)
                  clear HII HBB HYE HB1
                  go_wp2
                  go_roundw
                  case rel => exact ⟨i + 1, b1, by omega, rfl, by go_num, trivial, HI3, HI2⟩
                  case measure => simp [ixOf]; omega
              · have hbb : bb = true := by
                  rcases HX0.out with e | e
                  · exact HBB.out (HB0.out e)
                  · obtain ⟨i', hi'⟩ := List.getElem?_of_mem e
                    have hil : i' < lk.length := (List.getElem?_eq_some_iff.1 hi').1
                    exact HII.out i' (by have := HLE.out; omega) hi'
                subst hbb
                clear HII HBB hb0
                go_wp2
                go_roundw
                case rel => exact ⟨k + 1, by omega, by go_num, trivial⟩
                case measure => simp [ixOf]; omega
          · go_wp2
            go_ret
            exact ⟨rfl, HF.out.2.1⟩
end Go.Proofs.Ytllbemelljaklaa
