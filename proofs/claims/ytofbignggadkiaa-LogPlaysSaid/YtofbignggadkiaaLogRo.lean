/- The reference's Open. -/
import Derived.BigQuiet
import Derived.Deep.QuietTactic
import Derived.Deep.CutBlock
import Derived.Deep.DeepCutAuto
import Derived.Test.YtofbignggadkiaaLogHr
namespace Go.Proofs.Ytofbignggadkiaa
open Go.RowKit

/-- what the reference's Open leaves -/
def OpR (gr kb kc : Nat) (wa : Option Addr) (d : Sm.Dv) (fr : Int) (w : World) (e : Ending) (w' : World) : Prop :=
  Only (fun k => Fp gr kb k) w w' ∧ ∃ wa' wc', Dr gr kb kc wa' wc' (Lm.open_ d fr).2.1 w' ∧ (∀ x, wa' = some x → wa = some x ∨ (w.heap.size ≤ x.block ∧ x.block < w'.heap.size)) ∧
  match (Lm.open_ d fr).1 with
  | some L => ∃ gl la lc, e = .returned (.tuple #[.pointer (some ⟨gl, 0, none⟩), .int .i64 0]) ∧ Rl gl gr la lc L w' ∧ w.heap.size ≤ gl ∧ (∀ x, la = some x → w.heap.size ≤ x.block) ∧ ∀ x, wa' = some x → x.block ≠ gl
  | none => e = .returned (.tuple #[.pointer none, .int .i64 (Lm.open_ d fr).2.2])
theorem below_dn7 (w : World) (k : Nat) : Below w.heap.size w (w.drewN k) := ⟨rfl, rfl, rfl, Nat.le_refl _, fun _ _ => rfl⟩
theorem zst : st [] = ⟨#[]⟩ := rfl
/-- the reference's log while it is read -/
def Ro (gl gr : Nat) (la : Option Addr) (lc : Nat) (L : Lm.Lg) (w wr : World) : Prop :=
  Rl gl gr la lc L wr ∧ Below w.heap.size w wr ∧ ∀ x, la = some x → w.heap.size ≤ x.block
theorem Ro.below {gl gr lc : Nat} {la : Option Addr} {L : Lm.Lg} {w wr W : World} (h : Ro gl gr la lc L w wr) (hb : Below wr.heap.size wr W) : Ro gl gr la lc L w W :=
  ⟨h.1.below hb, h.2.1.trans (hb.mono h.2.1.size), h.2.2⟩
/-- the list of batches is set in a world where the log's block is as it was -/
theorem setList' {gl gr lc : Nat} {la : Option Addr} {L : Lm.Lg} {W W' : World} (h : Rl gl gr la lc L W) (hc : ∀ o, W'.cell? ⟨gl, o, none⟩ = W.cell? ⟨gl, o, none⟩) (hf : ∀ o, W'.frozen? ⟨gl, o, none⟩ = W.frozen? ⟨gl, o, none⟩) (hs : gl < W'.heap.size) (l : List (List UInt8)) (a : Option Addr) (c : Nat) (hl : W'.ownsRow 0 9 1 (.slice a l.length c) l.length (sc l)) (hne : ∀ x, a = some x → x.block ≠ gl) :
    Rl gl gr a c { L with l := l } (W'.setCell ⟨gl, 6, none⟩ (.slice a l.length c)) := by
  have k : ∀ j v, j ≠ 6 → W.cell? ⟨gl, j, none⟩ = some v → (W'.setCell ⟨gl, 6, none⟩ (.slice a l.length c)).cell? ⟨gl, j, none⟩ = some v := fun j v h2 hv => by
    rw [cell_keep _ _ _ _ _ (Ne.symm h2), hc, hv]
  have hn : (Value.slice a l.length c).ownBlock ≠ some gl := fun e => by
    cases a with
    | none => cases e
    | some a => injection e with e; exact hne a rfl e
  exact ⟨k 0 _ (by decide) h.c0, k 1 _ (by decide) h.c1, k 2 _ (by decide) h.c2, k 3 _ (by decide) h.c3, k 4 _ (by decide) h.c4, k 5 _ (by decide) h.c5, World.cell?_setCell_same _ _ _ ((hc 6).trans h.c6), k 7 _ (by decide) h.c7, k 8 _ (by decide) h.c8, fun o => by simp only [World.frozen?_setCell]; exact (hf o).trans (h.fz o), by simpa using hs, own_set hl _ hn, hne⟩
theorem hv_le (s : List UInt8) (i : Nat) : (Lm.hv (Lm.rhead s i)).n < 4611686018427387904 := by
  cases e : Lm.rhead s i with
  | none => decide
  | some x => exact (Lm.rhead_some e).1
theorem hsR_le (d : Sm.Dv) : ∀ i, (Lm.hsR d i).n < 4611686018427387904
  | 0 => by show 0 < 4611686018427387904; decide
  | i + 1 => by
    unfold Lm.hsR
    split
    · exact hv_le _ _
    · exact hsR_le d i
theorem hdv_hv (o : Option Lm.Hd) : hdv o = .agg #[.int .i64 ((Lm.hv o).n : Int), .int .i64 ((Lm.hv o).epoch : Int), .int .i64 ((Lm.hv o).base : Int), .string (st (Lm.hv o).body)] := by
  cases o <;> rfl
set_option maxHeartbeats 4000000 in
set_option maxRecDepth 100000 in
theorem ref7_open {gr kb kc wc : Nat} {wa : Option Addr} {d : Sm.Dv} {w : World} (fr : Int) (hd : Dr gr kb kc wa wc d w) (hD : Dl d) (hok : Sm.Ok d) (hwa0 : ∀ x, wa = some x → x.block < w.heap.size) (hf : n64 fr) :
    Calls Try.prog 8 #[.pointer (some ⟨gr, 0, none⟩), .int .i64 fr] w fun e w' => OpR gr kb kc wa d fr w e w' := by
  have c0 := hd.c0
  have hgr := hd.lt
  obtain ⟨k, hk⟩ : ∃ k : Nat, k = d.kept.length := ⟨_, rfl⟩
  rw [← hk] at c0
  have hk2 : (k : Int) ≤ 200 := by have := hD.k; omega
  obtain ⟨hf0, hf1⟩ := hf
  have HD := Lib.hid hd; have HDL := Lib.hid hD; have HOK := Lib.hid hok; have HK := Lib.hid hk; have HWA0 := Lib.hid hwa0
  have HSELF : Hid (∀ code w', Lm.open_ d fr = (none, d, code) → Below w.heap.size w w' → OpR gr kb kc wa d fr w (.returned (.tuple #[.pointer none, .int .i64 code])) w') := fun code w' e hb => by
    unfold OpR
    rw [e]
    exact ⟨(only_of hb).mono (fun k hk e => absurd hk (by omega)), wa, wc, HD.out.keep hb, fun x e => .inl e, rfl⟩
  obtain ⟨km, hkm⟩ : ∃ km : Int, km = (k : Int) - 2 := ⟨_, rfl⟩
  have hwk : IntKind.i64.wrap ((k : Int) - 2) = km := by rw [IntKind.wrap_i64]; omega
  clear hd hD hok hk hwa0
  by_cases h1 : fr < 1
  case pos =>
    have hop := Lib.hid (HSELF.out 2 w.drew (by unfold Lm.open_; rw [if_pos (.inl h1)]) (below_drew7 w))
    have hop0 := Lib.hid (HSELF.out 2 w (by unfold Lm.open_; rw [if_pos (.inl h1)]) (Below.refl _ _))
    clear HSELF
    go_enter Try.func8, Try.ntmps8
    go_wp2
    first
      | (go_ret2; first | exact hop0.out | exact hop.out)
      | (go_quiet (fail); go_wp2; go_ret2; exact HSELF.out 2 _ (by unfold Lm.open_; rw [if_pos (.inl h1)]) (below_drewN _ _))
  case neg =>
  by_cases h2 : km < fr
  case pos =>
    have hop : Hid (∀ w', Below w.heap.size w w' → OpR gr kb kc wa d fr w (.returned (.tuple #[.pointer none, .int .i64 2])) w') := fun w' hb => HSELF.out 2 w' (by unfold Lm.open_; rw [if_pos (.inr (by rw [← HK.out]; omega))]) hb
    clear HSELF
    go_enter Try.func8, Try.ntmps8
    go_wp2
    go_ret2
    exact hop.out _ (Below.refl _ _)
  case neg =>
  obtain ⟨n, hn⟩ : ∃ n : Nat, n = fr.toNat := ⟨_, rfl⟩
  have hnf : fr = (n : Int) := by omega
  subst hnf
  have hn1 : 1 ≤ n := by omega
  have hnk : n + 2 ≤ k := by omega
  have HNK := Lib.hid hnk
  have HB1 : Hid (¬ ((n : Int) < 1 ∨ (d.kept.length : Int) - 2 < (n : Int))) := fun h => by rw [← HK.out] at h; omega
  have hn2 : (n : Int) ≤ 198 := by omega
  have HOK64 : Hid (∀ i, i < k → (Lm.cur d i).length = 64) := fun i hi => by
    unfold Lm.cur
    have hi' : i < d.kept.length := by rw [← HK.out]; exact hi
    exact Lm.last_64 _ _ _ (Sm.getD_64 HOK.out.k hi') (fun x hx => (HOK.out.w x hx).2)
  clear hf0 hf1 hn
  obtain ⟨gl, hgl⟩ : ∃ gl, gl = w.heap.size := ⟨_, rfl⟩
  have HGL := Lib.hid hgl
  obtain ⟨L0, hL0⟩ : ∃ L0 : Lm.Lg, L0 = ⟨n, ⟨0, 0, 0, []⟩, [], 0, false⟩ := ⟨_, rfl⟩
  have HL0 := Lib.hid hL0
  obtain ⟨W0, hW0⟩ : ∃ W0, W0 = w.alloc (.cells #[.pointer (some ⟨gr, 0, none⟩), .int .i64 (n : Int), .int .i64 0, .int .i64 0, .int .i64 0, .string ⟨#[]⟩, .slice none 0 0, .int .i64 0, .bool false] 58) := ⟨_, rfl⟩
  have hhp : W0.heap[gl]? = some (.cells #[.pointer (some ⟨gr, 0, none⟩), .int .i64 (n : Int), .int .i64 0, .int .i64 0, .int .i64 0, .string ⟨#[]⟩, .slice none 0 0, .int .i64 0, .bool false] 58 (0, 0)) := by rw [hW0, hgl]; exact heap_alloc_new w _
  have HR0 : Hid (Ro gl gr none 0 L0 w W0) := by
    rw [hL0]
    have hcell := Lib.cell_of_heap hhp
    refine ⟨⟨by rw [hcell]; rfl, by rw [hcell]; rfl, by rw [hcell]; rfl, by rw [hcell]; rfl, by rw [hcell]; rfl, by rw [hcell]; rfl, by rw [hcell]; rfl, by rw [hcell]; rfl, by rw [hcell]; rfl, fun o => Lib.frozen_of_heap hhp o, heap_lt hhp, World.ownsRow_nil _ _ _ _, fun x e => by cases e⟩, by rw [hW0]; exact one_b w _, fun x e => by cases e⟩
  have HRD : Hid (∀ (i : Nat) (W : World), Below w.heap.size w W → Calls Try.prog 27 #[.pointer (some ⟨gr, 0, none⟩), .int .i64 (i : Int)] W fun e w' => e = .returned (.tuple #[.string (st (Sm.read d (i : Int)).1), .int .i64 (Sm.read d (i : Int)).2]) ∧ Below W.heap.size W w') := fun i W hb => ref6_read gr kb kc wc wa d i W (HD.out.keep hb) (by have := HDL.out.w; omega)
  have hkn : ¬ ((k : Int) - 2 < (n : Int)) := by omega
  clear hhp h2 hnk hL0
  by_cases h3 : d.left = 0
  case pos =>
    have hop : Hid (∀ w', Below w.heap.size w w' → OpR gr kb kc wa d (n : Int) w (.returned (.tuple #[.pointer none, .int .i64 60])) w') := fun w' hb => HSELF.out 60 w' (by unfold Lm.open_; rw [if_neg HB1.out, if_pos h3]) hb
    have HRD0 : Hid (∀ W, Below w.heap.size w W → Calls Try.prog 27 #[.pointer (some ⟨gr, 0, none⟩), .int .i64 0] W fun e w' => e = .returned (.tuple #[.string ⟨#[]⟩, .int .i64 60]) ∧ Below W.heap.size W w') := fun W hb => by
      have h := HRD.out 0 W hb
      have hr : Sm.read d ((0 : Nat) : Int) = ([], 60) := by unfold Sm.read; rw [Sm.check_offR (by have := HNK.out; rw [← HK.out]; omega) h3, if_neg (by decide)]
      rw [hr] at h; exact h
    clear HSELF HRD h3
    go_enter Try.func8, Try.ntmps8
    go_wp2
    rw [← hW0, ← hgl]
    have HW0 := Lib.hid hW0
    clear hW0 hgl hkn hwk hkm c0
    go_loopw [7, 8, 9, 10, 11] (fun iv _ _ _ _ wr => iv = .int .i64 0 ∧ wr = W0) (fun _ _ _ _ _ _ => 0)
    case atStart => exact ⟨rfl, rfl⟩
    case round =>
      obtain ⟨rfl, rfl⟩ := hrel
      go_wp2_with fail
      refine (HRD0.out _ HR0.out.2.1).mono ?_
      rintro e w1 ⟨rfl, hb1⟩
      have HB1 := Lib.hid (HR0.out.2.1.trans (hb1.mono HR0.out.2.1.size))
      clear hb1
      go_wp2
      go_ret2
      exact hop.out _ HB1.out
  case neg =>
  have HRDI : Hid (∀ (i : Nat) (W : World), i < k → Below w.heap.size w W → Calls Try.prog 27 #[.pointer (some ⟨gr, 0, none⟩), .int .i64 (i : Int)] W fun e w' => e = .returned (.tuple #[.string (st (Lm.cur d i)), .int .i64 0]) ∧ Below W.heap.size W w') := fun i W hi hb => by
    have h := HRD.out i W hb
    rw [Sm.read_curR (Sm.check_inR (by rw [← HK.out]; exact hi) h3)] at h
    exact h
  obtain ⟨H, hH⟩ : ∃ H, H = Lm.hd d := ⟨_, rfl⟩
  have hHok := Lm.hd_ok d
  rw [← hH] at hHok
  have HOP : Hid (Lm.open_ d (n : Int) = if (Lm.next (Lm.up H) d).2 ≠ 0 then (none, (Lm.next (Lm.up H) d).1, (Lm.next (Lm.up H) d).2) else (some ⟨n, Lm.up H, (Lm.bats d n).1, (Lm.bats d n).2, false⟩, (Lm.next (Lm.up H) d).1, 0)) := by
    show _ = _
    unfold Lm.open_; rw [if_neg HB1.out, if_neg h3, ← hH, Int.toNat_natCast]
  have HH := Lib.hid hH; have HHOK := Lib.hid hHok; have HN3 := Lib.hid h3
  clear HSELF HRD h3 hH hHok
  go_enter Try.func8, Try.ntmps8
  go_wp2
  rw [← hW0, ← hgl]
  have HW0 := Lib.hid hW0
  clear hW0 hgl hkn hwk hkm c0
  have HI0 : Hid (Ro gl gr none 0 { L0 with h := Lm.hsR d 0 } w W0) := by have := HR0.out; rw [HL0.out] at this ⊢; exact this
  go_loopw [7, 8, 9, 10, 11] (fun iv _ _ _ _ wr => ∃ i : Nat, i ≤ 2 ∧ iv = .int .i64 (i : Int) ∧ Hid (Ro gl gr none 0 { L0 with h := Lm.hsR d i } w wr)) (fun iv _ _ _ _ _ => 2 - (ixOf iv).toNat)
  case atStart => exact ⟨0, by omega, rfl, HI0⟩
  case round =>
    obtain ⟨i, hi, rfl, HRO⟩ := hrel
    clear HI0 HR0
    by_cases hi2 : i < 2
    case neg =>
      have hie : i = 2 := by omega
      have HR2 : Hid (Ro gl gr none 0 { L0 with h := H } w wr) := by rw [HH.out, ← Lm.hsR_2, ← hie]; exact HRO.out
      have hnl2 : ¬ (i : Int) < 2 := by omega
      clear HRO hi2 hi hie
      obtain ⟨HE0, hHE0⟩ : ∃ x, x = H.epoch := ⟨_, rfl⟩
      obtain ⟨HB0, hHB0⟩ : ∃ x, x = H.base := ⟨_, rfl⟩
      obtain ⟨SC, hSC⟩ : ∃ SC, SC = (List.range n).map fun k => Lm.cur d (2 + k) := ⟨_, rfl⟩
      obtain ⟨BT, hBT⟩ : ∃ BT, BT = Lm.bats d n := ⟨_, rfl⟩
      have HSC : Hid (BT = Lm.scan HE0 (SC.drop 0) 0 HB0 false [] [] 0) := by show _ = _; rw [hBT, hSC, hHE0, hHB0, HH.out]; rfl
      have HSD : Hid (∀ k, k < n → SC.drop k = Lm.cur d (2 + k) :: SC.drop (k + 1)) := fun k hk => by
        have hk' : k < SC.length := by rw [hSC]; simpa using hk
        rw [List.drop_eq_getElem_cons hk']; congr 1; simp [hSC]
      have HSE : Hid (SC.drop n = []) := List.drop_eq_nil_of_le (by rw [hSC]; simp)
      have HBT := Lib.hid hBT; have HHE0 := Lib.hid hHE0; have HHB0 := Lib.hid hHB0
      have c4 := HR2.out.1.c4
      replace c4 : wr.cell? ⟨gl, 4, none⟩ = some (.int .i64 (HB0 : Int)) := by rw [hHB0]; exact c4
      have hglr := HR2.out.1.lt
      have HI2 : Hid (Ro gl gr none 0 ⟨n, H, [], 0, false⟩ w wr) := by have := HR2.out; rw [HL0.out] at this; exact this
      clear hHE0 hHB0 hSC hBT HR2
      go_upto_region 13 with (fail)
      go_upto_block 2 with (fail)
      go_cut [] (fun wx => ∃ (la : Option Addr) (lc : Nat), Hid (Ro gl gr la lc ⟨n, H, BT.1, BT.2, false⟩ w wx))
      case first =>
        go_wp2_with fail
        clear c4
        go_loopw [12, 13, 14, 15, 16, 17, 18, 19] (fun av iv bv kv _ _ _ _ wx => ∃ (k a at_ : Nat) (ins : Bool) (bt : List UInt8) (SB : ByteArray) (L : List (List UInt8)) (la : Option Addr) (lc : Nat), k ≤ n ∧ av = .int .i64 (a : Int) ∧ iv = .bool ins ∧ bv = .string SB ∧ kv = .int .i64 (k : Int) ∧ SB.size ≤ 46 * k ∧ L.length ≤ k ∧ Hid (SB = st bt) ∧ Hid (BT = Lm.scan HE0 (SC.drop k) k a ins bt L at_) ∧ Hid (Ro gl gr la lc ⟨n, H, L, at_, false⟩ w wx)) (fun _ _ _ kv _ _ _ _ _ => n - (ixOf kv).toNat)
        case atStart => exact ⟨0, HB0, 0, false, [], ⟨#[]⟩, [], none, 0, Nat.zero_le _, rfl, rfl, rfl, rfl, Nat.zero_le _, Nat.zero_le _, rfl, HSC.out, HI2.out⟩
        case round =>
          obtain ⟨kk, a, at_, ins, bt, SB, L, la, lc, hkn, rfl, rfl, rfl, rfl, hsb, hLk, HSB, HBS, HRO⟩ := hrel
          by_cases hlt : kk < n
          case neg =>
            have hie : kk = n := by omega
            have HR2 : Hid (Ro gl gr la lc ⟨n, H, BT.1, BT.2, false⟩ w wr) := by
              have e : BT = (L, at_) := by rw [HBS.out, hie, HSE.out]; rfl
              rw [e]; exact HRO.out
            have hnl2 : ¬ (kk : Int) < (n : Int) := by omega
            clear HRO HBS hie hsb hLk
            go_wp2
            go_meet
            exact ⟨_, _, HR2⟩
          case pos =>
            have hil : (kk : Int) < (n : Int) := by omega
            obtain ⟨s, hs⟩ : ∃ s, s = Lm.cur d (2 + kk) := ⟨_, rfl⟩
            have hsl : s.length = 64 := by rw [hs]; exact HOK64.out _ (by have := HNK.out; omega)
            have hcons := HSD.out kk hlt
            rw [← hs] at hcons
            obtain ⟨K2, hK2⟩ : ∃ K2 : Nat, K2 = 2 + kk := ⟨_, rfl⟩
            have hK2i : (2 : Int) + (kk : Int) = (K2 : Int) := by omega
            have hK2b : K2 ≤ 200 := by have := HNK.out; omega
            obtain ⟨S, hS⟩ : ∃ S, S = st s := ⟨_, rfl⟩
            have hsz : S.size = 64 := by rw [hS, st_size, hsl]
            have HR1 := Lib.hid (HRDI.out K2 wr (by have := HNK.out; omega) HRO.out.2.1)
            rw [hK2, ← hs, ← hS, ← hK2] at HR1
            obtain ⟨A1, hA1⟩ : ∃ A, A = st (s.take 4) := ⟨_, rfl⟩
            obtain ⟨A2, hA2⟩ : ∃ A, A = st ((s.drop 4).take 4) := ⟨_, rfl⟩
            obtain ⟨A3, hA3⟩ : ∃ A, A = st (s.take 8) := ⟨_, rfl⟩
            obtain ⟨A4, hA4⟩ : ∃ A, A = st (s.drop 56) := ⟨_, rfl⟩
            have x1 : S.extract 0 4 = A1 := by rw [hS, hA1, st_extract, List.drop_zero]
            have x2 : S.extract 4 8 = A2 := by rw [hS, hA2, st_extract]
            have x3 : S.extract 0 8 = A3 := by rw [hS, hA3, st_extract, List.drop_zero]
            have x4 : S.extract 56 64 = A4 := by rw [hS, hA4, st_extract, List.take_of_length_le (by rw [List.length_drop, hsl]; decide)]
            obtain ⟨ep, hep⟩ : ∃ e, e = Lm.num (s.take 4) := ⟨_, rfl⟩
            obtain ⟨kq, hkq⟩ : ∃ e, e = Lm.num ((s.drop 4).take 4) := ⟨_, rfl⟩
            have HN1 : Hid (∀ W, Calls Try.prog 35 #[.string A1] W fun e w' => e = .returned (.int .i64 ep) ∧ W = w') := fun W => by
              have := ref7_num (s.take 4) W (by rw [List.length_take]; omega)
              rw [← hA1, ← hep] at this; exact this
            have HN2 : Hid (∀ W, Calls Try.prog 35 #[.string A2] W fun e w' => e = .returned (.int .i64 kq) ∧ W = w') := fun W => by
              have := ref7_num ((s.drop 4).take 4) W (by rw [List.length_take]; omega)
              rw [← hA2, ← hkq] at this; exact this
            have hep0 : 0 ≤ ep := by rw [hep]; exact (Lm.num_lt4 (by simp; omega)).2
            obtain ⟨nb, hnb⟩ : ∃ nb : Nat, nb = (s.getD 9 0).toNat := ⟨_, rfl⟩
            obtain ⟨x8, hx8⟩ : ∃ x8 : Nat, x8 = (s.getD 8 0).toNat := ⟨_, rfl⟩
            have hix : (S[9].toNat : Int) = (nb : Int) := by subst hS; rw [st_get, hnb]
            have hix8 : (S[8].toNat : Int) = (x8 : Int) := by subst hS; rw [st_get, hx8]
            have hnb8 : nb < 256 := by rw [hnb]; exact UInt8.toNat_lt _
            have hx88 : x8 < 256 := by rw [hx8]; exact UInt8.toNat_lt _
            obtain ⟨b1, hb1⟩ : ∃ b, b = decide (s.take 8 ≠ s.drop 56) := ⟨_, rfl⟩
            obtain ⟨b2, hb2⟩ : ∃ b, b = decide (kq ≠ (kk : Int)) := ⟨_, rfl⟩
            obtain ⟨b3, hb3⟩ : ∃ b, b = decide (1 < x8) := ⟨_, rfl⟩
            obtain ⟨b4, hb4⟩ : ∃ b, b = decide (46 < nb) := ⟨_, rfl⟩
            obtain ⟨b5, hb5⟩ : ∃ b, b = decide (ep < 1) := ⟨_, rfl⟩
            obtain ⟨b6, hb6⟩ : ∃ b, b = decide (ep < (a : Int)) := ⟨_, rfl⟩
            obtain ⟨b7, hb7⟩ : ∃ b, b = decide ((HE0 : Int) < ep) := ⟨_, rfl⟩
            obtain ⟨b8, hb8⟩ : ∃ b, b = decide (ep ≠ (a : Int)) := ⟨_, rfl⟩
            have HBAD : Hid (Lm.badFr s kk HE0 a ins = (b1 || b2 || b3 || b4 || b5 || b6 || b7 || (ins && b8))) := by
              show _ = _
              rw [hb1, hb2, hb3, hb4, hb5, hb6, hb7, hb8, hep, hkq, hnb, hx8]; rfl
            have q1 : (A3.toList != A4.toList) = b1 := by rw [hA3, hA4, hb1, st_ne]; simp
            have q1e : (A3.toList == A4.toList) = !b1 := by rw [hA3, hA4, hb1, st_eq]; simp
            have q2 : (kq != (kk : Int)) = b2 := by
              rw [hb2, bne]
              by_cases e : kq = (kk : Int)
              · rw [e]; simp
              · rw [beq_eq_false_iff_ne.2 e, decide_eq_true e]; rfl
            have q3 : decide ((1 : Int) < (x8 : Int)) = b3 := by rw [hb3]; apply decide_eq_decide.2; omega
            have q4 : decide ((46 : Int) < (nb : Int)) = b4 := by rw [hb4]; apply decide_eq_decide.2; omega
            have q5 : decide (ep < 1) = b5 := hb5.symm
            have q6 : decide (ep < (a : Int)) = b6 := hb6.symm
            have q7 : decide ((HE0 : Int) < ep) = b7 := hb7.symm
            have q8 : (ep != (a : Int)) = b8 := by
              rw [hb8, bne]
              by_cases e : ep = (a : Int)
              · rw [e]; simp
              · rw [beq_eq_false_iff_ne.2 e, decide_eq_true e]; rfl
            have HS := Lib.hid hS; have HSL := Lib.hid hsl; have HEP := Lib.hid hep; have HNB := Lib.hid hnb; have HX8 := Lib.hid hx8; have HCO := Lib.hid hcons; have HEP0 := Lib.hid hep0
            clear hs hsl hcons hK2 hS hA1 hA2 hA3 hA4 hep hkq hnb hx8 hb1 hb2 hb3 hb4 hb5 hb6 hb7 hb8 hep0
            go_wp2_with fail
            refine HR1.out.mono ?_
            rintro e w1 ⟨rfl, hb⟩
            have HRO1 := Lib.hid (HRO.out.below hb)
            clear hb
            go_wp2_with fail
            refine (HN1.out _).mono ?_
            rintro e w2 ⟨rfl, rfl⟩
            go_upto_region 24 with (fail)
            have g3 := HRO1.out.1.c3
            replace g3 : w1.cell? ⟨gl, 3, none⟩ = some (.int .i64 (HE0 : Int)) := by rw [HHE0.out]; exact g3
            have hgl3 := HRO1.out.1.lt
            go_cut [143] (fun bv wy => bv = .bool (Lm.badFr s kk HE0 a ins) ∧ ∃ q, wy = w1.drewN q)
            case first =>
              cases b1 with
              | true =>
                go_quiet (exact Calls.quiet_of_same ((HN2.out _).mono fun e w2 h => ⟨h.1, h.2.symm⟩))
                go_wp2
                go_meet
                exact ⟨by rw [HBAD.out]; rfl, _, rfl⟩
              | false =>
              cases b2 with
              | true =>
                go_quiet (exact Calls.quiet_of_same ((HN2.out _).mono fun e w2 h => ⟨h.1, h.2.symm⟩))
                go_wp2
                go_meet
                exact ⟨by rw [HBAD.out]; rfl, _, rfl⟩
              | false =>
              cases b3 with
              | true =>
                go_quiet (exact Calls.quiet_of_same ((HN2.out _).mono fun e w2 h => ⟨h.1, h.2.symm⟩))
                go_wp2
                go_meet
                exact ⟨by rw [HBAD.out]; rfl, _, rfl⟩
              | false =>
              cases b4 with
              | true =>
                go_quiet (exact Calls.quiet_of_same ((HN2.out _).mono fun e w2 h => ⟨h.1, h.2.symm⟩))
                go_wp2
                go_meet
                exact ⟨by rw [HBAD.out]; rfl, _, rfl⟩
              | false =>
              cases b5 with
              | true =>
                go_quiet (exact Calls.quiet_of_same ((HN2.out _).mono fun e w2 h => ⟨h.1, h.2.symm⟩))
                go_wp2
                go_meet
                exact ⟨by rw [HBAD.out]; rfl, _, rfl⟩
              | false =>
              cases b6 with
              | true =>
                go_quiet (exact Calls.quiet_of_same ((HN2.out _).mono fun e w2 h => ⟨h.1, h.2.symm⟩))
                go_wp2
                go_meet
                exact ⟨by rw [HBAD.out]; rfl, _, rfl⟩
              | false =>
              cases b7 with
              | true =>
                go_quiet (exact Calls.quiet_of_same ((HN2.out _).mono fun e w2 h => ⟨h.1, h.2.symm⟩))
                go_wp2
                go_meet
                exact ⟨by rw [HBAD.out]; rfl, _, rfl⟩
              | false =>
              cases ins with
              | false =>
                go_quiet (exact Calls.quiet_of_same ((HN2.out _).mono fun e w2 h => ⟨h.1, h.2.symm⟩))
                go_wp2
                go_meet
                exact ⟨by rw [HBAD.out]; rfl, _, rfl⟩
              | true =>
              cases b8 with
              | true =>
                go_quiet (exact Calls.quiet_of_same ((HN2.out _).mono fun e w2 h => ⟨h.1, h.2.symm⟩))
                go_wp2
                go_meet
                exact ⟨by rw [HBAD.out]; rfl, _, rfl⟩
              | false =>
                go_quiet (exact Calls.quiet_of_same ((HN2.out _).mono fun e w2 h => ⟨h.1, h.2.symm⟩))
                go_wp2
                go_meet
                exact ⟨by rw [HBAD.out]; rfl, _, rfl⟩
            case rest =>
              obtain ⟨rfl, q, rfl⟩ := hcut
              have HRO2 := Lib.hid (HRO1.out.below (below_dn7 w1 q))
              clear q1 q1e q2 q3 q4 q5 q6 q7 q8 x1 x2 x3 x4 HBAD g3 HN1 HN2 HR1 HRO1 HRO
              cases hbad : Lm.badFr s kk HE0 a ins with
              | true =>
                have HR2 : Hid (Ro gl gr la lc ⟨n, H, BT.1, BT.2, false⟩ w (w1.drewN q)) := by
                  have e : BT = (L, at_) := by rw [HBS.out, HCO.out, Lm.scan_badF hbad]
                  rw [e]; exact HRO2.out
                clear hbad HRO2 HBS
                go_wp2
                go_meet
                exact ⟨_, _, HR2⟩
              | false =>
                have hnb46 : nb ≤ 46 := by
                  have h := hbad
                  simp only [Lm.badFr, Bool.or_eq_false_iff, decide_eq_false_iff_not] at h
                  have := h.1.1.1.1.2; rw [← HNB.out] at this; omega
                obtain ⟨lst, hlst⟩ : ∃ lst, lst = ((s.getD 8 0).toNat != 0) := ⟨_, rfl⟩
                have q0 : ((x8 : Int) == 0) = !lst := by rw [hlst, ← HX8.out]; cases e : (x8 != 0) <;> simp at e ⊢ <;> omega
                obtain ⟨body, hbody⟩ : ∃ body, body = (s.drop 10).take nb := ⟨_, rfl⟩
                have hbl : body.length = nb := by rw [hbody, List.length_take, List.length_drop, HSL.out]; omega
                obtain ⟨Bd, hBd⟩ : ∃ Bd, Bd = st body := ⟨_, rfl⟩
                obtain ⟨m, hm⟩ : ∃ m, m = 10 + nb := ⟨_, rfl⟩
                have hmi : (10 : Int) + (nb : Int) = (m : Int) := by omega
                have hm56 : m ≤ 56 := by omega
                have hm10 : 10 ≤ m := by omega
                have x5 : S.extract 10 m = Bd := by rw [HS.out, hBd, hbody, st_extract, hm]; congr 2; omega
                have zBd : Bd.size = nb := by rw [hBd, st_size, hbl]
                obtain ⟨SX, hSX⟩ : ∃ SX, SX = SB ++ Bd := ⟨_, rfl⟩
                have hSXs : SX = st (bt ++ body) := by rw [hSX, hBd, HSB.out, st_append]
                have zSX : SX.size ≤ 46 * (kk + 1) := by rw [hSX, ByteArray.size_append]; omega
                have x6 : SB ++ Bd = SX := hSX.symm
                have hsb2 : SB.size ≤ 10000 := by omega
                obtain ⟨k1, hk1⟩ : ∃ k1 : Nat, k1 = kk + 1 := ⟨_, rfl⟩
                have hk1i : (kk : Int) + 1 = (k1 : Int) := by omega
                have hk1b : k1 ≤ 200 := by omega
                have hepN : ep = ((ep.toNat : Nat) : Int) := by have := HEP0.out; omega
                have hg := Lm.scan_goodF (at_ := at_) (l := L) (bt := bt) (r := SC.drop (kk + 1)) hbad
                rw [← HCO.out, ← HBS.out, ← HNB.out, ← hbody, ← HEP.out, ← hlst, ← hk1] at hg
                have HBS2 := Lib.hid hg
                have HSXS := Lib.hid hSXs; have HZSX := Lib.hid zSX; have HEPN := Lib.hid hepN
                have HK1 := Lib.hid hk1
                clear hbad hlst hbody hbl hBd hm hSX hSXs zSX hk1 hepN hg HBS HEP HEP0 HX8 HS HSL
                cases lst with
                | false =>
                  go_wp2
                  go_roundw
                  case rel => exact ⟨k1, ep.toNat, at_, true, bt ++ body, SX, L, la, lc, by have := HK1.out; omega, by rw [← HEPN.out], rfl, rfl, rfl, by have := HZSX.out; have := HK1.out; omega, by have := HK1.out; omega, HSXS.out, HBS2.out, HRO2.out⟩
                  case measure => simp [ixOf]; have := HK1.out; omega
                | true =>
                  obtain ⟨N, hN⟩ : ∃ N, N = L.length := ⟨_, rfl⟩
                  have c6 := HRO2.out.1.c6
                  replace c6 : (w1.drewN q).cell? ⟨gl, 6, none⟩ = some (.slice la N lc) := by rw [hN]; exact c6
                  have fz := HRO2.out.1.fz
                  have hgl4 := HRO2.out.1.lt
                  obtain ⟨w3, hw3⟩ : ∃ w3, w3 = w1.drewN q := ⟨_, rfl⟩
                  rw [← hw3] at c6 fz hgl4 HRO2 ⊢
                  have HN := Lib.hid hN
                  have HSRC : Hid (Src Try.prog 1 56 (.slice (some ⟨w3.heap.size, 0, none⟩) 1 1) 1 (sc [bt ++ body]) (w3.alloc (.cells #[.string SX] 9))) := lit_srcS w3 _ SX HSXS.out
                  have HOW : Hid ((w3.alloc (.cells #[.string SX] 9)).ownsRow 0 9 1 (.slice la N lc) N (sc L)) := by rw [HN.out]; exact own_keep HRO2.out.1.ls (one_b w3 _)
                  have hNb : N ≤ 200 := by omega
                  obtain ⟨i0, hi0, hz0, hz1, hz2⟩ := info_of info1s
                  have HI0 := Lib.hid hi0; have HZ0 := Lib.hid hz0; have HZ1 := Lib.hid hz1; have HZ2 := Lib.hid hz2
                  clear hw3 hN hi0 hz0 hz1 hz2
                  go_wp2_with (at_builtin; refine wpList_append_src _ rfl (.tmp 160) (.tmp 162) 56 56 rfl 0 9 i0 _ 1 16 Try.underlying56 HI0.out HZ0.out HZ1.out HZ2.out rfl (.slice la N lc) N (sc L) rfl HOW.out _ 1 (sc [bt ++ body]) rfl HSRC.out ?ta ?tb ?tc ?_)
                  case ta => unfold maxLen; omega
                  case tb => omega
                  intro v7 w7 hown7 hgrow7 hv7
                  rw [← sc_app] at hown7
                  obtain ⟨a7, c7, rfl⟩ := own_formS hown7
                  have hla : ∀ x, la = some x → w.heap.size ≤ x.block := HRO2.out.2.2
                  have hO7 : Only (fun k => ∃ x, la = some x ∧ x.block = k) w3 w7 := ((Only.refl _ w3).alloc _).grown hgrow7 (fun k e => by
                    cases la with
                    | none => cases e
                    | some x => injection e with e; exact .inl ⟨x, rfl, e⟩)
                  have hngl : ¬ ∃ x, la = some x ∧ x.block = gl := fun ⟨x, e, e2⟩ => HRO2.out.1.ne x e e2
                  have ha7 : ∀ x, a7 = some x → w.heap.size ≤ x.block ∧ x.block ≠ gl := fun x e => by
                    subst e
                    rcases hv7 with h | h
                    · cases la with
                      | none => cases h
                      | some y => injection h with h; rw [h]; exact ⟨hla y rfl, HRO2.out.1.ne y rfl⟩
                    · injection h with h
                      have := HRO2.out.2.1.size
                      have h1 : x.block = w3.heap.size + 1 := by simpa using h
                      omega
                  have hbk := hO7.block gl hgl4 hngl
                  have hkeep : ∀ o, w7.cell? ⟨gl, o, none⟩ = w3.cell? ⟨gl, o, none⟩ := fun o => by simp [World.cell?, hbk]
                  have hfk : ∀ o, w7.frozen? ⟨gl, o, none⟩ = w3.frozen? ⟨gl, o, none⟩ := fun o => by simp [World.frozen?, hbk]
                  have hb7 : Below w.heap.size w w7 := HRO2.out.2.1.trans (only_bel hO7 HRO2.out.2.1.size (fun k hk hp => by obtain ⟨x, e, e2⟩ := hp; have := hla x e; omega))
                  have HN1' : Hid ((N + 1 : Nat) = (L ++ [bt ++ body]).length) := by show _ = _; rw [List.length_append, HN.out]; rfl
                  have hsl := setList' HRO2.out.1 hkeep hfk (by have := hO7.size; omega) (L ++ [bt ++ body]) a7 c7 (by rw [← HN1'.out]; exact own_zero hown7) (fun x e => (ha7 x e).2)
                  rw [← HN1'.out] at hsl
                  have hsa := Lib.hid (hsl.setAt k1)
                  have HB7 := Lib.hid hb7; have HA7 := Lib.hid ha7
                  have d6 : w7.cell? ⟨gl, 6, none⟩ = some (.slice la N lc) := (hkeep 6).trans c6
                  have d7 : ∃ z, w7.cell? ⟨gl, 7, none⟩ = some (.int .i64 z) := ⟨_, (hkeep 7).trans HRO2.out.1.c7⟩
                  obtain ⟨z7, d7⟩ := d7
                  have fz7 : ∀ o, w7.frozen? ⟨gl, o, none⟩ = false := fun o => (hfk o).trans (fz o)
                  have hgl7 : gl < w7.heap.size := by have := hO7.size; omega
                  have HGW : Hid (w.heap.size ≤ gl) := by show _ ≤ _; rw [HGL.out]; exact Nat.le_refl _
                  clear hown7 hgrow7 hv7 hla hO7 hngl ha7 hbk hkeep hfk hb7 hsl c6 fz HSRC HOW HRO2 HN1'
                  go_wp2
                  go_roundw
                  case rel => exact ⟨k1, ep.toNat, k1, false, [], ⟨#[]⟩, L ++ [bt ++ body], a7, c7, by have := HK1.out; omega, by rw [← HEPN.out], rfl, rfl, rfl, Nat.zero_le _, by rw [List.length_append]; have := HK1.out; show L.length + 1 ≤ k1; omega, rfl, HBS2.out, ⟨hsa.out, set1b (set1b HB7.out HGW.out _ _) HGW.out _ _, fun x e => (HA7.out x e).1⟩⟩
                  case measure => simp [ixOf]; have := HK1.out; omega
      case rest =>
        obtain ⟨la, lc, HRO⟩ := hcut
        obtain ⟨W5, rfl⟩ : ∃ W5, W5 = wc := ⟨wc, rfl⟩
        have c4' := HRO.out.1.c4; have c5' := HRO.out.1.c5
        have hgl5 := HRO.out.1.lt
        obtain ⟨BS, hBS⟩ : ∃ BS, BS = st H.body := ⟨_, rfl⟩
        replace c4' : W5.cell? ⟨gl, 4, none⟩ = some (.int .i64 (HB0 : Int)) := by rw [HHB0.out]; exact c4'
        replace c5' : W5.cell? ⟨gl, 5, none⟩ = some (.string BS) := by rw [hBS]; exact c5'
        have hkbl : kb < w.heap.size := (HD.out.kr.lt kb rfl).2
        have hgrl := HD.out.lt
        have HNX : Hid (Calls Try.prog 36 #[.pointer (some ⟨gl, 0, none⟩), .int .i64 (HB0 : Int), .string BS] W5.drew fun e w' => NxR gl gr kb kc wa la lc ⟨n, H, BT.1, BT.2, false⟩ d (Lm.up H) W5.drew e w') := by
          have hup : Lm.up H = ⟨H.n + 1, H.epoch + 1, HB0, H.body⟩ := by unfold Lm.up; rw [HHB0.out]
          rw [hup, hBS]
          exact ref7_nextB HB0 H.body (HRO.out.1.below (below_drew7 _)) (HD.out.keep (HRO.out.2.1.trans ((below_drew7 W5).mono HRO.out.2.1.size))) ⟨by rw [HGL.out]; omega, by rw [HGL.out]; omega⟩ (fun x e => by have := HRO.out.2.2 x e; exact ⟨by omega, by omega⟩) (fun x e => by have := HWA0.out x e; rw [HGL.out]; omega) (HDL.out.dw HOK.out) (by have := HHOK.out.1; show (H.n : Int) ≤ _; omega) (by have := HHOK.out.2.1; show (H.epoch : Int) ≤ _; omega) (by have := HHOK.out.2.1; have := HHOK.out.2.2.1; rw [HHB0.out]; omega) HHOK.out.2.2.2
        unfold NxR at HNX
        obtain ⟨xc, hxc⟩ : ∃ xc, xc = (Lm.next (Lm.up H) d).2 := ⟨_, rfl⟩
        obtain ⟨X1, hX1⟩ : ∃ X1, X1 = (Lm.next (Lm.up H) d).1 := ⟨_, rfl⟩
        rw [← hxc, ← hX1] at HNX
        have HOP2 : Hid (Lm.open_ d (n : Int) = if xc ≠ 0 then (none, X1, xc) else (some ⟨n, Lm.up H, BT.1, BT.2, false⟩, X1, 0)) := by show _ = _; rw [HOP.out, hxc, hX1, HBT.out]
        have HB5 := Lib.hid (HRO.out.2.1.trans ((below_drew7 W5).mono HRO.out.2.1.size))
        have HLA := Lib.hid HRO.out.2.2
        have HGW : Hid (w.heap.size ≤ gl) := by show _ ≤ _; rw [HGL.out]; exact Nat.le_refl _
        clear HI2 c4 HSC HSD HSE hBS hkbl hgrl hxc hX1 HRO HOP HBT
        go_upto_region 32 with (fail)
        go_region_with (go_at_call 36; refine HNX.out.mono ?_; rintro e w6 ⟨rfl, ho6, wa6, wc6, hd6, hwa6, hl6⟩)
        all_goals
          have hO6 : Only (fun k => Fp gr kb k) w w6 := ((only_of HB5.out).mono (q := fun k => Fp gr kb k ∨ k = gl ∨ w.heap.size ≤ k) (fun k hk e => .inr (.inr (by omega)))).trans' ho6 (fun k hk => by
            rcases hk with rfl | hk
            · exact .inl (.inr (.inl rfl))
            · exact .inl (.inl hk)) |>.mono (fun k hk e => by
            rcases e with e | rfl | e
            · exact e
            · have := HGW.out; omega
            · omega)
          have hs5 := HB5.out.size
          have HO6 := Lib.hid hO6; have HD6 := Lib.hid hd6
          have HWA6 : Hid (∀ x, wa6 = some x → wa = some x ∨ (w.heap.size ≤ x.block ∧ x.block < w6.heap.size)) := fun x e => by
            rcases hwa6 x e with h | h
            · exact .inl h
            · exact .inr ⟨by omega, h.2⟩
          have HWG6 : Hid (∀ x, wa6 = some x → x.block ≠ gl) := fun x e => by
            rcases hwa6 x e with h | h
            · have := HWA0.out x h; have := HGW.out; omega
            · have h1 : W5.heap.size ≤ x.block := h.1
              omega
          have HL6 := Lib.hid hl6
          clear ho6 hd6 hwa6 hl6 hO6 hs5
          by_cases hz : xc = 0
          case pos =>
            subst hz
            have hl6 := HL6.out
            rw [if_pos rfl] at hl6
            have HL7 := Lib.hid hl6
            have hop := HOP2.out
            rw [if_neg (fun h => h rfl)] at hop
            have HOP3 := Lib.hid hop
            clear HL6 hl6 hop HOP2
            go_wp2
            go_ret2
            unfold OpR
            rw [HOP3.out]
            exact ⟨HO6.out, wa6, wc6, HD6.out, HWA6.out, gl, la, lc, rfl, HL7.out, HGW.out, HLA.out, HWG6.out⟩
          case neg =>
            have hop := HOP2.out
            rw [if_pos hz] at hop
            have HOP3 := Lib.hid hop
            clear HL6 hop HOP2
            go_wp2
            go_ret2
            unfold OpR
            rw [HOP3.out]
            exact ⟨HO6.out, wa6, wc6, HD6.out, HWA6.out, rfl⟩
    case pos =>
      have hi2I : (i : Int) < 2 := by omega
      obtain ⟨s, hs⟩ : ∃ s, s = Lm.cur d i := ⟨_, rfl⟩
      have hsl : s.length = 64 := by rw [hs]; exact HOK64.out i (by have := HNK.out; omega)
      have HR1 := Lib.hid (HRDI.out i wr (by have := HNK.out; omega) HRO.out.2.1)
      rw [← hs] at HR1
      obtain ⟨SS, hSS⟩ : ∃ SS, SS = st s := ⟨_, rfl⟩
      rw [← hSS] at HR1
      obtain ⟨rh, hrh⟩ : ∃ rh, rh = Lm.rhead s i := ⟨_, rfl⟩
      have HRH : Hid (∀ W, Calls Try.prog 34 #[.string SS, .int .i64 (i : Int)] W fun e w' => e = .returned (.tuple #[.agg #[.int .i64 ((Lm.hv rh).n : Int), .int .i64 ((Lm.hv rh).epoch : Int), .int .i64 ((Lm.hv rh).base : Int), .string (st (Lm.hv rh).body)], .bool rh.isSome]) ∧ Below W.heap.size W w') := fun W => by
        have h := ref7_readhead s i W hsl hi2
        rw [← hrh, hdv_hv, ← hSS] at h; exact h
      have HSQ : Hid (Lm.hsR d (i + 1) = if rh.isSome = true ∧ (Lm.hsR d i).n < (Lm.hv rh).n then Lm.hv rh else Lm.hsR d i) := by show _ = _; rw [hrh, hs]; rfl
      have hvn : (Lm.hv rh).n < 4611686018427387904 := by rw [hrh]; exact hv_le _ _
      have hin := hsR_le d i
      obtain ⟨nh, hnh⟩ : ∃ nh : Int, nh = ((Lm.hv rh).n : Int) := ⟨_, rfl⟩
      obtain ⟨eh, heh⟩ : ∃ eh : Int, eh = ((Lm.hv rh).epoch : Int) := ⟨_, rfl⟩
      obtain ⟨bh, hbh⟩ : ∃ bh : Int, bh = ((Lm.hv rh).base : Int) := ⟨_, rfl⟩
      obtain ⟨Sh, hSh⟩ : ∃ Sh, Sh = st (Lm.hv rh).body := ⟨_, rfl⟩
      obtain ⟨nl, hnl⟩ : ∃ nl : Int, nl = ((Lm.hsR d i).n : Int) := ⟨_, rfl⟩
      obtain ⟨ok, hok⟩ : ∃ ok, ok = rh.isSome := ⟨_, rfl⟩
      rw [← hnh, ← heh, ← hbh, ← hSh, ← hok] at HRH
      have HNH := Lib.hid hnh; have HEH := Lib.hid heh; have HBH := Lib.hid hbh; have HSH := Lib.hid hSh; have HNL := Lib.hid hnl; have HOKK := Lib.hid hok
      clear hs hsl hSS hrh hvn hin hnh heh hbh hSh hnl hok
      go_wp2_with fail
      refine HR1.out.mono ?_
      rintro e w1 ⟨rfl, hb1⟩
      have HB1' := Lib.hid hb1
      have HRO1 := Lib.hid (HRO.out.below hb1)
      clear hb1
      go_wp2_with fail
      refine (HRH.out _).mono ?_
      rintro e w2 ⟨rfl, hb2⟩
      have HRO2 := Lib.hid (HRO1.out.below hb2)
      clear hb2
      go_upto_region 11 with (fail)
      obtain ⟨p, hp⟩ : ∃ p, p = w2.heap.size := ⟨_, rfl⟩
      obtain ⟨w3, hw3⟩ : ∃ w3, w3 = w2.alloc (.cells #[.int .i64 nh, .int .i64 eh, .int .i64 bh, .string Sh] 55) := ⟨_, rfl⟩
      have hq : w3.heap[p]? = some (.cells #[.int .i64 nh, .int .i64 eh, .int .i64 bh, .string Sh] 55 (0, 0)) := by rw [hw3, hp]; exact heap_alloc_new w2 _
      have hro3 : Ro gl gr none 0 { L0 with h := Lm.hsR d i } w w3 := by rw [hw3]; exact HRO2.out.below (one_b w2 _)
      have hgp : gl ≠ p := by have := HRO2.out.1.lt; omega
      rw [← hw3, ← hp]
      have HRO3 := Lib.hid hro3
      have p0 : w3.cell? ⟨p, 0, none⟩ = some (.int .i64 nh) := by rw [Lib.cell_of_heap hq]; rfl
      have p1 : w3.cell? ⟨p, 1, none⟩ = some (.int .i64 eh) := by rw [Lib.cell_of_heap hq]; rfl
      have p2 : w3.cell? ⟨p, 2, none⟩ = some (.int .i64 bh) := by rw [Lib.cell_of_heap hq]; rfl
      have p3 : w3.cell? ⟨p, 3, none⟩ = some (.string Sh) := by rw [Lib.cell_of_heap hq]; rfl
      have hpl := heap_lt hq
      have g2 := hro3.1.c2
      replace g2 : w3.cell? ⟨gl, 2, none⟩ = some (.int .i64 nl) := by rw [HNL.out]; exact g2
      have g3 := hro3.1.c3; have g4 := hro3.1.c4; have g5 := hro3.1.c5
      have fz := hro3.1.fz
      have hgl3 := hro3.1.lt
      clear hw3 hq hro3 hp
      cases ok with
      | false =>
        have HE : Hid (Lm.hsR d (i + 1) = Lm.hsR d i) := by show _ = _; rw [HSQ.out, if_neg (fun h => by rw [← HOKK.out] at h; cases h.1)]
        clear HSQ p1 p2 p3 g3 g4 g5
        go_quiet (fail)
        go_wp2
        go_roundw
        case rel => exact ⟨i + 1, by omega, by go_num, by rw [HE.out]; exact HRO3.out.below (below_dn7 _ _)⟩
        case measure => simp [ixOf]; omega
      | true =>
        by_cases hgt : nl < nh
        case neg =>
          have HE : Hid (Lm.hsR d (i + 1) = Lm.hsR d i) := by show _ = _; rw [HSQ.out, if_neg (fun h => by have h1 := h.2; have := HNL.out; have := HNH.out; omega)]
          have hgt2 : decide (nl < nh) = false := by simp; omega
          clear HSQ p1 p2 p3 g3 g4 g5
          go_quiet (fail)
          go_wp2
          go_roundw
          case rel => exact ⟨i + 1, by omega, by go_num, by rw [HE.out]; exact HRO3.out.below (below_dn7 _ _)⟩
          case measure => simp [ixOf]; omega
        case pos =>
          have HE : Hid (Lm.hsR d (i + 1) = Lm.hv rh) := by show _ = _; rw [HSQ.out, if_pos ⟨HOKK.out.symm, by have := HNL.out; have := HNH.out; omega⟩]
          have hgt2 : decide (nl < nh) = true := by simp; omega
          clear HSQ
          go_quiet (fail)
          go_wp2
          go_roundw
          case rel =>
            refine ⟨i + 1, by omega, by go_num, ?_⟩
            rw [HE.out]
            have h3 := HRO3.out.below (below_dn7 w3 nq)
            have hset := h3.1.setHead (Lm.hv rh)
            rw [← HNH.out, ← HEH.out, ← HBH.out, ← HSH.out] at hset
            have hgw : w.heap.size ≤ gl := by rw [HGL.out]; exact Nat.le_refl _
            exact ⟨hset, set1b (set1b (set1b (set1b h3.2.1 hgw _ _) hgw _ _) hgw _ _) hgw _ _, fun x e => by cases e⟩
          case measure => simp [ixOf]; omega
end Go.Proofs.Ytofbignggadkiaa
