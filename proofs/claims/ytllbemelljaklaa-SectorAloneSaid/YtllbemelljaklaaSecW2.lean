/- Layer 6: the walk of SectorAlone. -/
import Derived.Test.YtllbemelljaklaaSecW0
import Derived.Deep.RegionHeld3
import Derived.OwnWalk
import Derived.Laws.OwnMore
namespace Go.Proofs.Ytllbemelljaklaa
open Go.RowKit

/-- two devices that hold the same, apart from each other -/
structure Tw (Dev : Nat → Sm.Dv → (Nat → Prop) → World → Prop) (B g1 g2 : Nat) (d1 d2 : Sm.Dv) (F1 F2 : Nat → Prop) (W : World) : Prop where
  a : Dev g1 d1 F1 W
  b : Dev g2 d2 F2 W
  o1 : ∀ k, F1 k → B ≤ k
  o2 : ∀ k, F2 k → B ≤ k
  dis : ∀ k, F1 k → ¬ F2 k
section
variable {Dev : Nat → Sm.Dv → (Nat → Prop) → World → Prop} (V : SecCon Dev)
include V
theorem Tw.below {B g1 g2 : Nat} {d1 d2 : Sm.Dv} {F1 F2 : Nat → Prop} {W W' : World} (h : Tw Dev B g1 g2 d1 d2 F1 F2 W) (hb : Below W.heap.size W W') : Tw Dev B g1 g2 d1 d2 F1 F2 W' :=
  ⟨V.below h.a hb, V.below h.b hb, h.o1, h.o2, h.dis⟩
theorem Tw.one {B g1 g2 : Nat} {d1 d2 d : Sm.Dv} {F1 F2 : Nat → Prop} {w W W' : World} (h : Tw Dev B g1 g2 d1 d2 F1 F2 W) (hd : Did Dev g1 F1 d W W') (hw : Below B w W) (hB : B ≤ W.heap.size) : ∃ F, Hid (Tw Dev B g1 g2 d d2 F F2 W') ∧ Hid (Below B w W') := by
  obtain ⟨F, h1, h2, h3⟩ := hd
  refine ⟨F, ⟨h1, V.keep h.b h2 (fun k hk hp => h.dis k hp hk), fun k hk => ?_, h.o2, fun k hk hp => ?_⟩, hw.trans (only_bel h2 hB (fun k hk hp => by have := h.o1 k hp; omega))⟩
  · rcases h3 k hk with h4 | h4
    · exact h.o1 k h4
    · omega
  · rcases h3 k hk with h4 | h4
    · exact h.dis k h4 hp
    · have := V.lt h.b k hp; omega
theorem Tw.two {B g1 g2 : Nat} {d1 d2 d : Sm.Dv} {F1 F2 : Nat → Prop} {w W W' : World} (h : Tw Dev B g1 g2 d1 d2 F1 F2 W) (hd : Did Dev g2 F2 d W W') (hw : Below B w W) (hB : B ≤ W.heap.size) : ∃ F, Hid (Tw Dev B g1 g2 d1 d F1 F W') ∧ Hid (Below B w W') := by
  obtain ⟨F, h1, h2, h3⟩ := hd
  refine ⟨F, ⟨V.keep h.a h2 (fun k hk hp => h.dis k hk hp), h1, h.o1, fun k hk => ?_, fun k hk hp => ?_⟩, hw.trans (only_bel h2 hB (fun k hk hp => by have := h.o2 k hp; omega))⟩
  · rcases h3 k hk with h4 | h4
    · exact h.o2 k h4
    · omega
  · rcases h3 k hp with h4 | h4
    · exact h.dis k hk h4
    · have := V.lt h.a k hk; omega
end
theorem al_lim {lb : List UInt8} {d : Sm.Dv} {n : Nat} (h : Sm.Al lb d n) (hn : n ≤ 100) : Lim d := ⟨by rw [h.ws]; omega, by rw [h.calls]; omega, by rw [h.calls]; omega, by rw [h.left]; decide, by rw [h.left]; decide⟩
/-- what a memory that came in is to a device of one's own -/
theorem not_own {F : Nat → Prop} {w : World} {a : Option Addr} {n c : Nat} {l : List UInt8} (hF : ∀ k, F k → w.heap.size ≤ k) (h : Yt (.slice a n c) l w) (h0 : 0 < l.length) : ∀ x, a = some x → ¬ F x.block := by
  intro x e hf
  rcases h with ⟨_, _, _, e2⟩ | ⟨g, off, cap, e2, _, hg, _⟩
  · rw [e2] at h0; simp at h0
  · injection e2 with e3 _ _
    rw [e] at e3
    injection e3 with e3
    subst e3
    have h1 := hF _ hf
    have h2 : g < w.heap.size := hg
    exact absurd h1 (by show ¬ w.heap.size ≤ g; omega)

theorem Tw.keep {Dev : Nat → Sm.Dv → (Nat → Prop) → World → Prop} (V : SecCon Dev) {B g1 g2 : Nat} {d1 d2 : Sm.Dv} {F1 F2 : Nat → Prop} {W W' : World} {p : Nat → Prop} (h : Tw Dev B g1 g2 d1 d2 F1 F2 W) (ho : Only p W W') (hp : ∀ k, F1 k ∨ F2 k → ¬ p k) : Tw Dev B g1 g2 d1 d2 F1 F2 W' :=
  ⟨V.keep h.a ho (fun k hk => hp k (.inl hk)), V.keep h.b ho (fun k hk => hp k (.inr hk)), h.o1, h.o2, h.dis⟩
theorem info1i : (Try.prog.info? 3).map (fun i => (i.zero, i.size, i.bytes)) = some (some (.int .i64 0), 1, 8) := by kernel_rfl
theorem it_made {w : World} {B g n : Nat} (h : w.ownsRow B 3 1 (.slice (some ⟨g, 0, none⟩) n n) n (madeCells #[Value.int .i64 0] n).toList) : It (.slice (some ⟨g, 0, none⟩) n n) (List.replicate n 0) w := by
  have hc := h.cells (g := g) rfl
  refine .inr ⟨g, 0, n, by rw [List.length_replicate], by rw [List.length_replicate]; exact Nat.le_refl _, (h.lt g rfl).2, fun j hj => ?_⟩
  rw [List.length_replicate] at hj
  have h1 := hc j (.int .i64 0) (by
    rw [toList_madeCells_one, List.getElem?_replicate, if_pos (by omega)])
  rw [add_pl] at h1
  rw [h1]
  simp [List.getD, hj]
theorem it_cell {g n c : Nat} {ts : List Int} {w : World} (h : It (.slice (some ⟨g, 0, none⟩) n c) ts w) {j : Nat} (hj : j < ts.length) : w.cell? ⟨g, j, none⟩ = some (.int .i64 ts[j]) := by
  obtain ⟨b, o, e, _, _, hc⟩ := It.at h j hj
  injection e with e
  injection e with e1 e2
  subst e1; subst e2
  rwa [Nat.zero_add] at hc
theorem It.set {g n c : Nat} {ts : List Int} {w : World} (h : It (.slice (some ⟨g, 0, none⟩) n c) ts w) (j : Nat) (x : Int) (hj : j < ts.length) : It (.slice (some ⟨g, 0, none⟩) n c) (ts.set j x) (w.setCell ⟨g, j, none⟩ (.int .i64 x)) := by
  have hc0 := it_cell h hj
  rcases h with ⟨_, _, _, rfl⟩ | ⟨b, off, cap, e, hc, hg, hcell⟩
  · simp at hj
  · injection e with e1 e2 e3
    injection e1 with e1
    injection e1 with e1 e4
    subst e1; subst e4; subst e3
    refine .inr ⟨g, 0, c, by rw [List.length_set, e2], by rw [List.length_set]; exact hc, by simpa using hg, fun i hi => ?_⟩
    rw [List.length_set] at hi
    have hi0 := hcell i hi
    rw [Nat.zero_add] at hi0 ⊢
    by_cases hij : i = j
    · subst hij
      rw [World.cell?_setCell_same _ _ _ hc0]
      simp [List.getD, hi]
    · rw [World.cell?_setCell_other w ⟨g, j, none⟩ ⟨g, i, none⟩ _ (fun e => by injection e with _ e2; exact hij e2.symm), hi0]
      simp [List.getD, Ne.symm hij]

set_option maxHeartbeats 4000000 in
set_option maxRecDepth 100000 in
theorem walk_alone {Dev : Nat → Sm.Dv → (Nat → Prop) → World → Prop} (V : SecCon Dev) (a0 : Option Addr) (n0 c0 : Nat) (lb : List UInt8) (a1 : Option Addr) (n1 c1 : Nat) (l : List Sp) (w : World) (y0 : Yt (.slice a0 n0 c0) lb w) (y1 : Sv a1 n1 l w) :
    Calls Try.prog 6 #[.slice a0 n0 c0, .slice a1 n1 c1] w fun e w' => e = .returned (.bool true) ∧ Below w.heap.size w w' := by
  have HV := Lib.hid V
  have hn0 : n0 = lb.length := by obtain ⟨_, _, e⟩ := y0.form; injection e
  have HN0 := Lib.hid hn0
  have HY := Lib.hid y0
  have HS := Lib.hid y1
  clear V y0 y1 hn0
  by_cases hlen : n0 ≤ 64
  case neg =>
    have hl : (64 : Int) < (n0 : Int) := by omega
    go_enter Try.func6, Try.ntmps6
    go_wp2_with fail
    refine (walk_first HV.out w).mono ?_
    rintro e w1 ⟨rfl, hb1⟩
    have HB1 := Lib.hid hb1
    clear hb1
    go_wp2
    go_ret
    exact ⟨rfl, HB1.out⟩
  have hl : (n0 : Int) ≤ 64 := by omega
  go_enter Try.func6, Try.ntmps6
  go_wp2_with fail
  refine (walk_first HV.out w).mono ?_
  rintro e w1 ⟨rfl, hb1⟩
  have HB1 := Lib.hid hb1
  clear hb1
  go_wp2_with fail
  refine (HV.out.new 5 w1 (by omega) (by omega)).mono ?_
  rintro e w2 ⟨g1, F1, rfl, hd1, hF1, hb2⟩
  have hl2 := HV.out.lt hd1
  go_wp2_with fail
  refine (HV.out.new 5 w2 (by omega) (by omega)).mono ?_
  rintro e w3 ⟨g2, F2, rfl, hd2, hF2, hb3⟩
  have hs1 := HB1.out.size
  have hs2 := hb2.size
  have HT := Lib.hid (show Tw Dev w.heap.size g1 g2 (Sm.new 5) (Sm.new 5) F1 F2 w3 from ⟨HV.out.below hd1 hb3, hd2, fun k hk => by have := hF1 k hk; omega, fun k hk => by have := hF2 k hk; omega, fun k hk hp => by have := hl2 k hk; have := hF2 k hp; omega⟩)
  have HB3 := Lib.hid ((HB1.out.trans (hb2.mono hs1)).trans (hb3.mono (by omega)))
  have hs3 := HB3.out.size
  clear hd1 hF1 hb2 hl2 hd2 hF2 hb3 HB1 hs1 hs2
  have hlb : lb.length ≤ 64 := by have := HN0.out; omega
  obtain ⟨e0, HA0⟩ := Sm.al_start lb hlb
  have HE0 := Lib.hid e0
  have HAL := Lib.hid HA0
  clear e0 HA0
  have HNO : Hid (∀ F : Nat → Prop, (∀ k, F k → w.heap.size ≤ k) → 0 < lb.length → ∀ x, a0 = some x → ¬ F x.block) := fun F hF h0 => not_own hF HY.out h0
  clear hlb
  go_wp2_with fail
  refine (HV.out.write 4 a0 n0 c0 lb HT.out.a (lim_of (by show ([] : List Sm.Wr).length ≤ 1000; decide) (.inl rfl) (.inl rfl)) (HY.out.keep HB3.out) (by have := HN0.out; omega) (HNO.out F1 HT.out.o1)).mono ?_
  rintro e w4 ⟨rfl, hd⟩
  obtain ⟨F3, HT4, HB4⟩ := Tw.one HV.out HT.out hd HB3.out hs3
  have hs4 := HB4.out.size
  clear hd HT HB3 hs3
  go_wp2_with fail
  refine (HV.out.write 4 a0 n0 c0 lb HT4.out.b (lim_of (by show ([] : List Sm.Wr).length ≤ 1000; decide) (.inl rfl) (.inl rfl)) (HY.out.keep HB4.out) (by have := HN0.out; omega) (HNO.out F2 HT4.out.o2)).mono ?_
  rintro e w5 ⟨rfl, hd⟩
  obtain ⟨F4, HT5, HB5⟩ := Tw.two HV.out HT4.out hd HB4.out hs4
  have hs5 := HB5.out.size
  clear hd HT4 HB4 hs4 HE0
  go_upto_block 0 with (fail)
  go_cut [9] (fun nv wx => ∃ (n : Nat) (d : Sm.Dv) (G1 G2 : Nat → Prop), nv = .int .i64 (n : Int) ∧ n ≤ 52 ∧ Hid (Sm.Al lb d n) ∧ Hid (Tw Dev w.heap.size g1 g2 d d G1 G2 wx) ∧ Hid (Below w.heap.size w wx))
  case first =>
    go_wp2_with fail
    go_loopw [9, 42] (fun nv iv wr => ∃ (j : Nat) (d : Sm.Dv) (G1 G2 : Nat → Prop), j ≤ n1 ∧ iv = .int .i64 (j : Int) ∧ nv = .int .i64 ((j : Int) + 1) ∧ j ≤ 50 ∧ Hid (Sm.Al lb d (j + 1)) ∧ Hid (Tw Dev w.heap.size g1 g2 d d G1 G2 wr) ∧ Hid (Below w.heap.size w wr)) (fun _ iv _ => n1 - (ixOf iv).toNat)
    case atStart => exact ⟨0, _, F3, F4, Nat.zero_le _, rfl, by first | rfl | go_num, by omega, HAL.out, HT5.out, HB5.out⟩
    case round =>
      obtain ⟨j, d, G1, G2, hj, rfl, rfl, hj50, HA, HT, HB⟩ := hrel
      have hwr := HB.out.size
      by_cases hlt : j < n1
      · obtain ⟨g, off, ab, nb, cb, av, nt, ct, ha, hx0⟩ := HS.out.2 j (by rw [← HS.out.1]; exact hlt)
        generalize l[j]'(by rw [← HS.out.1]; exact hlt) = s at hx0
        have hx := hx0.keep HB.out
        subst ha
        obtain ⟨sk, si, sb, sts⟩ := s
        have e0 := hx.c0; have e1 := hx.c1; have e2 := hx.c2; have e3 := hx.c3
        dsimp only at e0 e1 e2 e3
        have hoff : off + j * 4 + 0 = off + j * 4 := Nat.add_zero _
        have hba := one_bs wr (.cells #[.int .i64 sk, .int .i64 si, .slice ab nb cb, .slice av nt ct] 34)
        have HTA := Lib.hid (Tw.below HV.out HT.out hba)
        have HBA := Lib.hid (HB.out.trans (hba.mono hwr))
        have HY0 := Lib.hid (show Yt (.slice ab nb cb) sb w from hx0.b)
        have HLT := Lib.hid (And.intro (HV.out.lt HT.out.a) (HV.out.lt HT.out.b))
        have hnb : nb = sb.length := by obtain ⟨_, _, e⟩ := hx.b.form; injection e
        have HNB := Lib.hid hnb
        clear hba hoff hnb hx hx0
        by_cases h50 : j = 50
        · have q : decide ((50 : Int) ≤ (j : Int)) = true := by simp; omega
          clear h50
          go_wp2
          go_meet
          exact ⟨j + 1, d, G1, G2, by go_num, by omega, HA, HTA, HBA⟩
        have q50 : decide ((50 : Int) ≤ (j : Int)) = false := by simp; omega
        by_cases h64 : nb ≤ 64
        case neg =>
          have q : decide ((64 : Int) < (nb : Int)) = true := by simp; omega
          clear h64 h50
          go_wp2
          go_meet
          exact ⟨j + 1, d, G1, G2, by go_num, by omega, HA, HTA, HBA⟩
        have q64 : decide ((64 : Int) < (nb : Int)) = false := by simp; omega
        obtain ⟨U, hU⟩ : ∃ U : Nat, (U : Int) = si % 18446744073709551616 := ⟨(si % 18446744073709551616).toNat, by omega⟩
        obtain ⟨mm, hmm⟩ : ∃ mm, mm = U % 4 := ⟨_, rfl⟩
        have hm4 : mm < 4 := by omega
        have hw1 : IntKind.u64.wrap si = (U : Int) := by rw [IntKind.wrap_u64, hU]
        have hw2 : (U : Int).tmod 4 = (mm : Int) := by rw [Int.tmod_eq_emod_of_nonneg (by omega)]; omega
        have hw3 : wrap64 (mm : Int) = (mm : Int) := by unfold wrap64; omega
        have hsb : sb.length ≤ 64 := by have := HNB.out; omega
        obtain ⟨w1e, HA2⟩ := Sm.al_step HA.out mm hm4 hsb
        have HAL2 := Lib.hid HA2
        have HLIM := Lib.hid (al_lim HA.out (by omega))
        have HSB := Lib.hid hsb
        have hj49 : j < 50 := by omega
        clear hU hmm w1e HA2 hsb h50 h64 HA HT
        go_wp2_with fail
        refine (HV.out.write (mm : Int) ab nb cb sb HTA.out.a HLIM.out (HY0.out.keep HBA.out) (by have := HSB.out; omega) (not_own HTA.out.o1 HY0.out)).mono ?_
        rintro e w6 ⟨rfl, hd⟩
        have hsA := HBA.out.size
        obtain ⟨F6, HT6, HB6⟩ := Tw.one HV.out HTA.out hd HBA.out hsA
        have hs6 := HB6.out.size
        obtain ⟨_, _, hon, _⟩ := hd
        have hbk := hon.block wr.heap.size (by simp) (fun hf => Nat.lt_irrefl _ (HLT.out.1 _ hf))
        rw [heap_alloc_new wr _] at hbk
        have k1 := Lib.cell_of_heap hbk 1; have k2 := Lib.cell_of_heap hbk 2
        replace k1 : w6.cell? ⟨wr.heap.size, 1, none⟩ = some (.int .i64 si) := k1
        replace k2 : w6.cell? ⟨wr.heap.size, 2, none⟩ = some (.slice ab nb cb) := k2
        clear hon hbk HTA HBA hsA
        go_wp2_with fail
        refine (HV.out.write (mm : Int) ab nb cb sb HT6.out.b HLIM.out (HY0.out.keep HB6.out) (by have := HSB.out; omega) (not_own HT6.out.o2 HY0.out)).mono ?_
        rintro e w7 ⟨rfl, hd⟩
        obtain ⟨F7, HT7, HB7⟩ := Tw.two HV.out HT6.out hd HB6.out hs6
        have hs7 := HB7.out.size
        clear hd HT6 HB6 hs6 k1 k2 HLT HLIM HSB HY0 HNB hw1 hw2 hw3
        obtain ⟨d7, hd7⟩ : ∃ d7, d7 = (Sm.write d (mm : Int) sb).1 := ⟨_, rfl⟩
        rw [← hd7] at HT7 HAL2
        have hrd := Sm.al_read HAL2.out
        clear hd7
        go_wp2_with fail
        refine (HV.out.read 4 HT7.out.a (by have := HAL2.out.ws; omega)).mono ?_
        rintro e w8 ⟨a8, c8, n8, rfl, hn8, ho8, hb⟩
        rw [hrd] at hn8 ho8 ⊢
        have hlf : (Sm.full lb).length = 64 := Sm.full_len (by have := HN0.out; omega)
        replace hn8 : n8 = 64 := hn8.trans hlf
        subst hn8
        have hdr : Below w8.heap.size w8 w8.drew := ⟨rfl, rfl, rfl, Nat.le_refl _, fun _ _ => rfl⟩
        have HT8 := Lib.hid (Tw.below HV.out (Tw.below HV.out HT7.out hb) hdr)
        have HB8 := Lib.hid ((HB7.out.trans (hb.mono hs7)).trans (hdr.mono (by have := hb.size; omega)))
        have HY8 := Lib.hid ((Yt.of_own ho8).keep hdr)
        obtain ⟨S, hS⟩ : ∃ S, S = bstr (Sm.full lb) := ⟨_, rfl⟩
        obtain ⟨B, hB⟩ : ∃ B, B = bstr lb := ⟨_, rfl⟩
        have hSS : (S.toList == S.toList) = true := by simp
        have HFU : Hid (∀ W, Calls Try.prog 23 #[.string B] W fun e w' => e = .returned (.string S) ∧ W = w') := fun W => by rw [hS, hB]; exact ref6_full lb W (by have := HN0.out; omega)
        have S0 := Lib.hid (show (convert 31 9 (.slice a8 64 c8)).run Try.prog w8.drew = .ok (.string S) w8.drew ∧ (convert 31 9 (.slice a0 n0 c0)).run Try.prog w8.drew = .ok (.string B) w8.drew ∧ Hid (Tw Dev w.heap.size g1 g2 d7 d7 F6 F7 w8.drew ∧ Below w.heap.size w w8.drew) from
          ⟨by rw [hS]; exact Yt.str HY8.out, by rw [hB]; exact Yt.str (HY.out.keep HB8.out), HT8.out, HB8.out⟩)
        clear hb HT7 HB7 hs7 hrd ho8 hlf hdr HT8 HB8 HY8 hS hB
        dsimp only
        go_upto_region 18 with (fail)
        go_region_held3 (fun w' => (convert 31 9 (.slice a8 64 c8)).run Try.prog w' = .ok (.string S) w' ∧ (convert 31 9 (.slice a0 n0 c0)).run Try.prog w' = .ok (.string B) w' ∧ Hid (Tw Dev w.heap.size g1 g2 d7 d7 F6 F7 w' ∧ Below w.heap.size w w')) (first | exact S0.out | assumption)
          (first | (go_at_call 23; refine (HFU.out _).mono ?_; rintro e w5 ⟨rfl, rfl⟩))
        all_goals
          rename_i w9 hHeld
          have HF := Lib.hid hHeld.2.2.out
          clear hHeld S0
          go_wp2
          go_roundw
          case rel => exact ⟨j + 1, d7, F6, F7, by omega, by go_num, by go_num, by omega, HAL2, HF.out.1, HF.out.2⟩
          case measure => simp [ixOf]; omega
      · go_wp2
        go_meet
        exact ⟨j + 1, d, G1, G2, by go_num, by omega, HA, HT, HB⟩
  case rest =>
    obtain ⟨n, d, G1, G2, rfl, hn, HA, HT, HB⟩ := hcut
    have hwc := HB.out.size
    obtain ⟨i0, hi0, hz0, hz1, hz2⟩ := info_of info1i
    have HI0 := Lib.hid hi0; have HZ0 := Lib.hid hz0; have HZ1 := Lib.hid hz1; have HZ2 := Lib.hid hz2
    clear hi0 hz0 hz1 hz2 HAL HT5 HB5 HS HNO hs5
    have HLT := Lib.hid (And.intro (HV.out.lt HT.out.a) (HV.out.lt HT.out.b))
    go_wp2_with (at_make; refine wpList_make_full _ rfl (.tmp 91) (.tmp 91) 32 rfl w.heap.size 3 i0 (.int .i64 0) 1 Try.underlying32 HI0.out HZ0.out HZ1.out .i64 .i64 (n : Int) (n : Int) n rfl rfl rfl rfl ?ma ?mb ?mc ?_)
    case ma => rw [HZ2.out]; omega
    case mb => unfold maxLen; omega
    case mc => exact hwc
    intro wm hown hgrow
    have hbm : Below wc.heap.size wc wm := (Below.refl _ _).grown hgrow (Nat.le_refl _) (fun i hi => by cases hi)
    have HTM := Lib.hid (Tw.below HV.out HT.out hbm)
    have HBM := Lib.hid (HB.out.trans (hbm.mono hwc))
    have hgm : wc.heap.size < wm.heap.size := by
      rcases hown.2 with ⟨hv, _⟩ | ⟨b, cap, cur, hv, _, hg, _⟩
      · cases hv
      · injection hv with e1 _ _; injection e1 with e1; injection e1 with e1
        subst e1
        exact (Array.getElem?_eq_some_iff.1 hg).1
    have hfzm : ∀ o, wm.frozen? ⟨wc.heap.size, o, none⟩ = false := by
      rcases hown.2 with ⟨hv, _⟩ | ⟨b, cap, cur, hv, _, hg, _⟩
      · cases hv
      · injection hv with e1 _ _; injection e1 with e1; injection e1 with e1
        subst e1
        exact fun o => Lib.frozen_of_heap hg o
    have HI := Lib.hid (it_made hown)
    obtain ⟨gA, hgA⟩ : ∃ gA, gA = wc.heap.size := ⟨_, rfl⟩
    rw [← hgA] at hgm hfzm HI ⊢
    have HNA : Hid (∀ k, G1 k ∨ G2 k → k ≠ gA) := by
      intro k hk e
      rcases hk with hk | hk
      · have := HLT.out.1 k hk; omega
      · have := HLT.out.2 k hk; omega
    have HGA : Hid (w.heap.size ≤ gA) := by show _ ≤ _; omega
    clear hown hgrow hbm HT HB hgA HLT
    go_wp2_with fail
    go_loopw [95] (fun iv wr => ∃ (j : Nat) (ts : List Int), j ≤ n ∧ iv = .int .i64 (j : Int) ∧ Hid (ts.length = n) ∧ Hid (∀ i, i < j → ts[i]? = some 64) ∧ Hid (It (.slice (some ⟨gA, 0, none⟩) n n) ts wr) ∧ Hid (Tw Dev w.heap.size g1 g2 d d G1 G2 wr) ∧ Hid (Below w.heap.size w wr) ∧ gA < wr.heap.size ∧ (∀ o, wr.frozen? ⟨gA, o, none⟩ = false)) (fun iv _ => n - (ixOf iv).toNat)
    case atStart => exact ⟨0, List.replicate n 0, by omega, rfl, List.length_replicate, fun i hi => absurd hi (by omega), HI.out, HTM.out, HBM.out, hgm, hfzm⟩
    case round =>
      obtain ⟨j, ts, hj, rfl, HTL, H64, HIT, HTW, HBW, hgl, hfz⟩ := hrel
      by_cases hlt : j < n
      · have hex : ∃ xv, wr.cell? ⟨gA, j, none⟩ = some (.int .i64 xv) := ⟨_, it_cell HIT.out (show j < ts.length by have := HTL.out; omega)⟩
        obtain ⟨xv, hc⟩ := hex
        have HIT2 := Lib.hid (It.set HIT.out j 64 (by have := HTL.out; omega))
        have H642 : Hid (∀ i, i < j + 1 → (ts.set j 64)[i]? = some 64) := by
          intro i hi
          rw [List.getElem?_set]
          by_cases e : j = i
          · subst e; rw [if_pos rfl, if_pos (by have := HTL.out; omega)]
          · rw [if_neg e]; exact H64.out i (by omega)
        have hon : Only (fun k => k = gA) wr (wr.setCell ⟨gA, j, none⟩ (.int .i64 64)) := Only.setCell (p := fun k => k = gA) (Only.refl _ _) (q := ⟨gA, j, none⟩) (.inl rfl) _
        have HTW2 := Lib.hid (Tw.keep HV.out HTW.out hon HNA.out)
        have HBW2 := Lib.hid (HBW.out.trans (only_bel hon HBW.out.size (fun k hk e => by have := HGA.out; omega)))
        have HTL2 : Hid ((ts.set j 64).length = n) := by show _ = _; rw [List.length_set]; exact HTL.out
        clear hon H64 HTL HTW
        go_wp2
        go_roundw
        case rel => exact ⟨j + 1, ts.set j 64, by omega, by go_num, HTL2, H642, HIT2, HTW2, HBW2, by simpa using hgl, fun o => by have := hfz o; simpa using this⟩
        case measure => simp [ixOf]; omega
      · have hjn : j = n := by omega
        subst hjn
        have H64A : Hid (∀ t ∈ ts, t = 64) := by
          intro t ht
          obtain ⟨i, hi⟩ := List.getElem?_of_mem ht
          have hil : i < ts.length := (List.getElem?_eq_some_iff.1 hi).1
          have := H64.out i (by have := HTL.out; omega)
          rw [this] at hi
          exact (Option.some.inj hi).symm
        have hsw := HBW.out.size
        have HTN : Hid (j ≤ ts.length) := by have := HTL.out; exact (by omega : j ≤ ts.length)
        have HTS : Hid (ts.length ≤ 1000) := by have := HTL.out; exact (by omega : ts.length ≤ 1000)
        clear hgl hfz H64 HTL HI HTM HBM hgm hfzm
        go_wp2_with fail
        refine (HV.out.crash (some ⟨gA, 0, none⟩) j j ts HTW.out.a (by have := HA.out.ws; omega) HIT.out HTS.out (fun _ x e hf => by injection e with e; subst e; exact HNA.out _ (.inl hf) rfl)).mono ?_
        rintro e w6 ⟨rfl, hd⟩
        obtain ⟨F6, HT6, HB6⟩ := Tw.one HV.out HTW.out hd HBW.out hsw
        have hs6 := HB6.out.size
        clear hd HTW HBW hsw HIT HNA HGA
        go_wp2_with fail
        refine (HV.out.flush HT6.out.b (al_lim HA.out (by omega))).mono ?_
        rintro e w7 ⟨rfl, hd⟩
        obtain ⟨F7, HT7, HB7⟩ := Tw.two HV.out HT6.out hd HB6.out hs6
        clear hd HT6 HB6 hs6
        have HEND : Hid (∀ k : Nat, k < 5 → Sm.read (Sm.crash d ts) (k : Int) = Sm.read (Sm.flush d).1 (k : Int)) := fun k hk => (Sm.al_end HA.out ts HTN.out H64A.out k hk).1
        have HCA : Hid ((Sm.flush d).1.calls = (j : Int) + 1) := (Sm.al_end HA.out ts HTN.out H64A.out 0 (by omega)).2.1
        have HFL : Hid ((Sm.flush d).1.ws.length ≤ 1000) := by
          show _ ≤ _
          rw [Sm.flush_free HA.out.left (by rw [HA.out.len]; omega)]; show ([] : List Sm.Wr).length ≤ 1000; decide
        clear HTN HTS H64A HA
        go_wp2_with fail
        go_loopw [107] (fun iv wr => ∃ k : Nat, k ≤ 5 ∧ iv = .int .i64 (k : Int) ∧ Hid (Tw Dev w.heap.size g1 g2 (Sm.crash d ts) (Sm.flush d).1 F6 F7 wr) ∧ Hid (Below w.heap.size w wr)) (fun iv _ => 5 - (ixOf iv).toNat)
        case atStart => exact ⟨0, by omega, rfl, HT7.out, HB7.out⟩
        case round =>
          obtain ⟨k, hk, rfl, HTK, HBK⟩ := hrel
          have hsk := HBK.out.size
          by_cases hk5 : k < 5
          · go_wp2_with fail
            refine (HV.out.read (k : Int) HTK.out.a (by show ([] : List Sm.Wr).length ≤ 1000; decide)).mono ?_
            rintro e w8 ⟨a8, c8, n8, rfl, hn8, ho8, hb⟩
            have HT8 := Lib.hid (Tw.below HV.out HTK.out hb); have HB8 := Lib.hid (HBK.out.trans (hb.mono hsk)); have HY8 := Lib.hid (Yt.of_own ho8)
            have hs8 := HB8.out.size
            clear hb ho8 HTK HBK hsk hn8
            go_wp2_with fail
            refine (HV.out.read (k : Int) HT8.out.b HFL.out).mono ?_
            rintro e w9 ⟨a9, c9, n9, rfl, hn9, ho9, hb⟩
            rw [← HEND.out k hk5] at ho9
            have HT9 := Lib.hid (Tw.below HV.out HT8.out hb); have HB9 := Lib.hid (HB8.out.trans (hb.mono hs8))
            have kx := Yt.str (HY8.out.keep hb); have ky := Yt.str (Yt.of_own ho9)
            obtain ⟨S, hS⟩ : ∃ S, S = bstr (Sm.read (Sm.crash d ts) (k : Int)).1 := ⟨_, rfl⟩
            rw [← hS] at kx ky
            have hSS : (S.toList == S.toList) = true := by simp
            clear hb ho9 HT8 HB8 hs8 hn9 HY8 hS
            go_wp2
            go_roundw
            case rel => exact ⟨k + 1, by omega, by go_num, HT9, HB9⟩
            case measure => simp [ixOf]; omega
          · go_wp2_with fail
            refine (HV.out.waiting HTK.out.a).mono ?_
            rintro e w8 ⟨rfl, hb⟩
            have HT8 := Lib.hid (Tw.below HV.out HTK.out hb); have HB8 := Lib.hid (HBK.out.trans (hb.mono hsk))
            have hs8 := HB8.out.size
            rw [show (Sm.crash d ts).ws.length = 0 from rfl]
            clear hb HTK HBK hsk
            go_wp2_with fail
            refine (HV.out.calls HT8.out.b).mono ?_
            rintro e w9 ⟨rfl, hb⟩
            have HB9 := Lib.hid (HB8.out.trans (hb.mono hs8))
            rw [HCA.out]
            clear hb HT8 HB8 hs8
            go_wp2
            go_ret
            exact ⟨rfl, HB9.out⟩
end Go.Proofs.Ytllbemelljaklaa
