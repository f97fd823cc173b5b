/- Package log: readHead. -/
import Derived.Test.YtofbignggadkiaaLogK7
import Derived.Test.YtofbignggadkiaaLogKy
namespace Go.Proofs.Ytofbignggadkiaa
open Go.RowKit

theorem Sm.read_cur {d : Sm.Dv} {i : Nat} (hc : Sm.check d (i : Int) 0 = 0) : (Sm.read d (i : Int)).1 = Lm.cur d i := by
  unfold Sm.read Lm.cur
  rw [if_pos hc, Int.toNat_natCast]
theorem Sm.check_in {d : Sm.Dv} {i : Nat} (h : i < d.kept.length) (hl : d.left ≠ 0) : Sm.check d (i : Int) 0 = 0 := by
  unfold Sm.check; rw [if_neg (by omega), if_neg hl]
namespace Lm
/-- the newest of the heads in the sectors before i -/
def hsq (d : Sm.Dv) : Nat → Hd
  | 0 => ⟨0, 0, 0, []⟩
  | i + 1 => if (rhead (cur d i) i).isSome = true ∧ (hsq d i).n < (hd0 (rhead (cur d i) i)).n then hd0 (rhead (cur d i) i) else hsq d i
theorem hsq_2 (d : Sm.Dv) : hsq d 2 = hd d := by
  unfold hd
  show (if (rhead (cur d 1) 1).isSome = true ∧ (hsq d 1).n < (hd0 (rhead (cur d 1) 1)).n then hd0 (rhead (cur d 1) 1) else hsq d 1) = _
  have e1 : hsq d 1 = match rhead (cur d 0) 0 with | none => ⟨0, 0, 0, []⟩ | some x => x := by
    show (if (rhead (cur d 0) 0).isSome = true ∧ 0 < (hd0 (rhead (cur d 0) 0)).n then hd0 (rhead (cur d 0) 0) else ⟨0, 0, 0, []⟩) = _
    cases e : rhead (cur d 0) 0 with
    | none => rw [if_neg (fun h => by cases h.1)]
    | some x => exact if_pos ⟨rfl, (rhead_some e).2.2.2.2.1⟩
  rw [e1]
  cases e0 : rhead (cur d 0) 0 with
  | none =>
    cases e : rhead (cur d 1) 1 with
    | none => rw [if_neg (fun h => by cases h.1)]; rfl
    | some y => exact if_pos ⟨rfl, (rhead_some e).2.2.2.2.1⟩
  | some x =>
    cases e : rhead (cur d 1) 1 with
    | none => rw [if_neg (fun h => by cases h.1)]; rfl
    | some y =>
      show (if (some y).isSome = true ∧ x.n < y.n then y else x) = if x.n < y.n then y else x
      by_cases h : x.n < y.n
      · rw [if_pos ⟨rfl, h⟩, if_pos h]
      · rw [if_neg (fun k => h k.2), if_neg h]
theorem hsq_le (d : Sm.Dv) : ∀ i, (hsq d i).n < 4611686018427387904 ∧ (hsq d i).body.length ≤ 32
  | 0 => ⟨show 0 < 4611686018427387904 by decide, show 0 ≤ 32 by decide⟩
  | i + 1 => by
    unfold hsq
    split
    · rename_i h
      cases e : rhead (cur d i) i with
      | none => rw [e] at h; cases h.1
      | some x => exact ⟨(rhead_some e).1, (rhead_some e).2.2.2.1⟩
    · exact hsq_le d i
theorem hd0_le {s : List UInt8} {i : Nat} : (hd0 (rhead s i)).n < 4611686018427387904 ∧ (hd0 (rhead s i)).body.length ≤ 32 := by
  cases e : rhead s i with
  | none => exact ⟨by decide, by decide⟩
  | some x => exact ⟨(rhead_some e).1, (rhead_some e).2.2.2.1⟩
end Lm
/-- the log while its head is read: what is in it, what has changed since W -/
def Rh (gl g : Nat) (ba : Option Addr) (bc : Nat) (vs : List Value) (Y : Nat → Prop) (L : Lm.Lg) (W wr : World) : Prop :=
  ∃ ha hc Y', Lk gl g ha hc ba bc vs Y' L wr ∧ Only (fun k => k = gl) W wr ∧ ∀ k, Y' k → Y k ∨ W.heap.size ≤ k
theorem below_drewN (w : World) (k : Nat) : Below w.heap.size w (w.drewN k) := ⟨rfl, rfl, rfl, Nat.le_refl _, fun _ _ => rfl⟩
theorem Rh.drewN {gl g : Nat} {ba : Option Addr} {bc : Nat} {vs : List Value} {Y : Nat → Prop} {L : Lm.Lg} {W wr : World} (h : Rh gl g ba bc vs Y L W wr) (k : Nat) : Rh gl g ba bc vs Y L W (wr.drewN k) := by
  obtain ⟨ha, hc, Y', h1, h2, h3⟩ := h
  exact ⟨ha, hc, Y', h1.below (below_drewN _ _), h2.trans ((only_of (below_drewN wr k)).mono (fun k hk e => absurd hk (by omega))), h3⟩
set_option maxHeartbeats 4000000 in
set_option maxRecDepth 100000 in
theorem log_readHead {gl g : Nat} {ha : Option Addr} {hc : Nat} {ba : Option Addr} {bc : Nat} {vs : List Value} {Y : Nat → Prop} {L : Lm.Lg} {d : Sm.Dv} {F : Nat → Prop} {W : World} (hl : Lk gl g ha hc ba bc vs Y { L with h := ⟨0, 0, 0, []⟩ } W) (hd : DevK g d F W) (hap : ¬ F gl) (hw : d.ws.length ≤ 500) (hk : 2 ≤ d.kept.length) (hleft : d.left ≠ 0) :
    Calls Try.prog 30 #[.pointer (some ⟨gl, 0, none⟩)] W fun e w' => e = .returned (.int .i64 0) ∧ Rh gl g ba bc vs Y { L with h := Lm.hd d } W w' := by
  have HD := Lib.hid hd; have HAP := Lib.hid hap
  have HI : Hid (Rh gl g ba bc vs Y { L with h := Lm.hsq d 0 } W W) := ⟨ha, hc, Y, hl, Only.refl _ _, fun k h => .inl h⟩
  have HBA : Hid (∀ x, ba = some x → x.block < W.heap.size) := fun x e => hl.lt _ (.inr (.inl ⟨x, e, rfl⟩))
  have HGL := Lib.hid (hl.lt gl (.inl rfl))
  obtain ⟨z, Z, hz, hZ, hZs⟩ : ∃ (z : Value) (Z : Array Value), (∀ w, (zeroValue 93).run Try.prog w = .ok z w) ∧ z.cells = Z ∧ Z.size = 64 := ⟨_, z64, (zero_of_info infoLz).1, rfl, Array.size_replicate⟩
  have HZ := Lib.hid hz; have HZ1 := Lib.hid hZ; have HZS := Lib.hid hZs
  clear hl hd hap hz hZ hZs
  go_enter Try.func30, Try.ntmps30
  go_wp2_with fail
  go_loopw [8] (fun iv wr => ∃ i : Nat, i ≤ 2 ∧ iv = .int .i64 (i : Int) ∧ Hid (Rh gl g ba bc vs Y { L with h := Lm.hsq d i } W wr)) (fun iv _ => 2 - (ixOf iv).toNat)
  case atStart => exact ⟨0, by omega, rfl, HI⟩
  case round =>
    obtain ⟨i, hi, rfl, HR⟩ := hrel
    clear HI
    by_cases hlt : i < 2
    · have hcu := Sm.check_in (d := d) (i := i) (by omega) hleft
      obtain ⟨S, hS⟩ : ∃ S, S = Lm.cur d i := ⟨_, rfl⟩
      have hSl : S.length = 64 := by rw [hS, ← Sm.read_cur hcu]; exact (Sm.read_64 (secCon.ok HD.out) hcu).1
      obtain ⟨ha1, hc1, Y1, hl1, ho1, hy1⟩ := HR.out
      have c0 := hl1.c0
      have hgl1 := hl1.lt gl (.inl rfl)
      have HRD := Lib.hid (log_readOk (i : Int) c0 hgl1 (secCon.keep HD.out ho1 (fun k hk e => HAP.out (e ▸ hk))) (by omega) hcu)
      rw [Sm.read_cur hcu, ← hS] at HRD
      have hnx : Lm.hsq d (i + 1) = if (Lm.rhead S i).isSome = true ∧ (Lm.hsq d i).n < (hd0 (Lm.rhead S i)).n then hd0 (Lm.rhead S i) else Lm.hsq d i := by rw [hS]; rfl
      have hle1 := Lm.hsq_le d i
      have hle2 := Lm.hd0_le (s := S) (i := i)
      have HLI : Hid (∀ w, Calls Try.prog 48 #[.agg (yc S).toArray, .int .i64 (i : Int)] w fun e w' => ∃ a m c, e = .returned (.tuple #[hdK ((hd0 (Lm.rhead S i)).n : Int) ((hd0 (Lm.rhead S i)).epoch : Int) ((hd0 (Lm.rhead S i)).base : Int) (.slice a m c), .bool (Lm.rhead S i).isSome]) ∧ Ytb w.heap.size a m c (hd0 (Lm.rhead S i)).body w' ∧ Below w.heap.size w w') := fun w => log_headIn S i w hSl hlt
      obtain ⟨hq, hhq⟩ : ∃ hq, hq = Lm.hsq d i := ⟨_, rfl⟩
      obtain ⟨hr, hhr⟩ : ∃ hr, hr = hd0 (Lm.rhead S i) := ⟨_, rfl⟩
      obtain ⟨hp, hhp⟩ : ∃ hp, hp = Lm.hsq d (i + 1) := ⟨_, rfl⟩
      obtain ⟨ok, hok⟩ : ∃ ok, ok = (Lm.rhead S i).isSome := ⟨_, rfl⟩
      rw [← hhq] at hl1 hnx hle1; rw [← hhr] at hnx HLI hle2; rw [← hhp] at hnx; rw [← hok] at hnx HLI
      obtain ⟨D, hD⟩ : ∃ D, D = (yc S).toArray := ⟨_, rfl⟩
      have hDs : D.size = 64 := by rw [hD, List.size_toArray, yc_length]; exact hSl
      have hD1 : D.all (·.oneCell') = true := by rw [hD]; exact yc_all _
      have HDE := Lib.hid hD; have HDS := Lib.hid hDs; have HD1 := Lib.hid hD1
      rw [← hD] at HRD HLI
      obtain ⟨n, hn⟩ : ∃ n : Int, n = (hr.n : Int) := ⟨_, rfl⟩
      obtain ⟨ep, hep⟩ : ∃ n : Int, n = (hr.epoch : Int) := ⟨_, rfl⟩
      obtain ⟨bs, hbs⟩ : ∃ n : Int, n = (hr.base : Int) := ⟨_, rfl⟩
      obtain ⟨N, hN⟩ : ∃ n : Int, n = (hq.n : Int) := ⟨_, rfl⟩
      rw [← hn, ← hep, ← hbs] at HLI
      have HL1 := Lib.hid hl1; have HO1 := Lib.hid ho1; have HY1 := Lib.hid hy1; have HNX := Lib.hid hnx; have HP := Lib.hid hhp
      have HN := Lib.hid hn; have HEP := Lib.hid hep; have HBS := Lib.hid hbs; have HNN := Lib.hid hN
      have hi2 : (i : Int) < 2 := by omega
      clear hl1 ho1 hy1 hnx hhp hhq hhr hok hD hDs hD1 hn hep hbs hN hcu hS HR hle1 hle2
      go_wp2_with fail
      refine HRD.out.mono ?_
      rintro e w1 ⟨rfl, hb1⟩
      have HB1 := Lib.hid hb1
      clear hb1 c0 hgl1
      unfold hdK at HLI
      go_wp2_with (first
        | (with_reducible refine wpList_alloc_of ?_ 93 ?_ z Z ?_ ?_ ?_
           · rfl
           · rfl
           · exact HZ.out
           · exact HZ1.out)
        | (refine wpList_store_last ?_ 93 (.tmp 4) (.tmp 15) ?_ w1 Z D ?_ ?_ ?_ ?_ ?_ HD1.out ?_
           · rfl
           · rfl
           · rfl
           · rfl
           · rfl
           · rw [HDS.out]; exact infoL2
           · exact HZS.out.trans HDS.out.symm)
        | (with_reducible refine wpList_load_row ?_ 93 (.tmp 4) ?_ w1.heap.size ?_ 93 D (0, 0) (.array 64 5) (heap_alloc_new w1 _) Try.underlying93 rfl ?_ ?_
           · rfl
           · rfl
           · rfl
           · rw [HDS.out]; exact infoL2))
      refine (HLI.out _).mono ?_
      rintro e w3 ⟨a, m, c, rfl, hyt, hb3⟩
      go_upto_region 8 with (fail)
      obtain ⟨q, hq3⟩ : ∃ q, q = w3.heap.size := ⟨_, rfl⟩
      obtain ⟨W4, hW4⟩ : ∃ W4, W4 = w3.alloc (.cells #[.int .i64 n, .int .i64 ep, .int .i64 bs, .slice a m c] 74) := ⟨_, rfl⟩
      have hB14 : Below wr.heap.size wr W4 := by
        rw [hW4]
        have h1 := HB1.out.size
        exact (((HB1.out.alloc h1 _).trans (hb3.mono (by simp; omega)))).alloc (by have := hb3.size; simp at this; omega) _
      have hrx : W4.heap[q]? = some (.cells #[.int .i64 n, .int .i64 ep, .int .i64 bs, .slice a m c] 74 (0, 0)) := by rw [hW4, hq3, heap_alloc_new]
      have HL4 : Hid (Lk gl g ha1 hc1 ba bc vs Y1 { L with h := hq } W4) := HL1.out.below hB14
      have HO4 : Hid (Only (fun k => k = gl) W W4) := HO1.out.trans' (only_of hB14) (fun k hk => by have := HO1.out.size; exact .inr (by omega))
      have hyt4 : Ytb (w1.alloc (.cells D 93)).heap.size a m c hr.body W4 := by rw [hW4]; exact hyt.keep (one_k _ _)
      have hws : W.heap.size ≤ (w1.alloc (.cells D 93)).heap.size := by have := HO1.out.size; have := HB1.out.size; simp; omega
      have HYT : Hid (m = hr.body.length ∧ Yt (.slice a m c) hr.body W4 ∧ (0 < hr.body.length → ∀ x, a = some x → W.heap.size ≤ x.block ∧ x.block < W4.heap.size)) := ⟨hyt4.1, hyt4.2.1, fun h0 x e => by have := hyt4.2.2 h0 x e; exact ⟨by omega, this.2⟩⟩
      rw [← hq3, ← hW4]
      have c2 := HL4.out.c2; have c3 := HL4.out.c3; have c4 := HL4.out.c4; have c5 := HL4.out.c5
      have fz := HL4.out.fz
      have hgl4 := HL4.out.lt gl (.inl rfl)
      have r0 : W4.cell? ⟨q, 0, none⟩ = some (.int .i64 n) := by rw [Lib.cell_of_heap hrx]; rfl
      have r1 : W4.cell? ⟨q, 1, none⟩ = some (.int .i64 ep) := by rw [Lib.cell_of_heap hrx]; rfl
      have r2 : W4.cell? ⟨q, 2, none⟩ = some (.int .i64 bs) := by rw [Lib.cell_of_heap hrx]; rfl
      have r3 : W4.cell? ⟨q, 3, none⟩ = some (.slice a m c) := by rw [Lib.cell_of_heap hrx]; rfl
      have hlq := heap_lt hrx
      have hqg : q ≠ gl := by have := HGL.out; have := HO1.out.size; have := HB1.out.size; have := hb3.size; simp at this; omega
      replace c2 : W4.cell? ⟨gl, 2, none⟩ = some (.int .i64 N) := by rw [HNN.out]; exact c2
      clear hq3 hW4 hB14 hrx hyt4 hws hyt hb3 HB1 HLI HRD HL1 HZ HZ1 HZS
      have HNO : Hid (hp = hq → Rh gl g ba bc vs Y { L with h := Lm.hsq d (i + 1) } W W4) := fun e => by rw [← HP.out, e]; exact ⟨ha1, hc1, Y1, HL4.out, HO4.out, HY1.out⟩
      cases ok with
      | false =>
        have HI1 := Lib.hid (HNO.out (by rw [HNX.out, if_neg (fun h => by cases h.1)]))
        go_quiet (fail)
        all_goals go_wp2
        all_goals go_roundw
        case rel => exact ⟨i + 1, by omega, by go_num, HI1.out.drewN _⟩
        case measure => simp [ixOf]; omega
      | true =>
      by_cases hNn : N < n
      case neg =>
        have HI1 := Lib.hid (HNO.out (by rw [HNX.out, if_neg (fun h => by have := h.2; have := HN.out; have := HNN.out; omega)]))
        go_quiet (fail)
        all_goals go_wp2
        all_goals go_roundw
        case rel => exact ⟨i + 1, by omega, by go_num, HI1.out.drewN _⟩
        case measure => simp [ixOf]; omega
      case pos =>
        have HPR : Hid (hp = hr) := by show _ = _; rw [HNX.out, if_pos ⟨rfl, by have := HN.out; have := HNN.out; omega⟩]
        clear HNO
        go_quiet (fail)
        all_goals go_wp2
        all_goals go_roundw
        case rel =>
          have hb := below_drewN W4 nq
          have e1 := HN.out; have e2 := HEP.out; have e3 := HBS.out; have e4 := HYT.out.1
          subst e1 e2 e3 e4
          have hset := (HL4.out.below hb).setHead hr a c (HYT.out.2.1.keep hb) (fun h0 x e => by
            have h1 := HYT.out.2.2 h0 x e
            exact ⟨h1.2, by have := HGL.out; omega, fun y e' => by have := HBA.out y e'; omega⟩)
          refine ⟨i + 1, by omega, by go_num, ?_⟩
          show Rh _ _ _ _ _ _ _ _ _
          rw [← HP.out, HPR.out]
          refine ⟨a, c, _, hset, (HO4.out.trans (only_of hb |>.mono (fun k hk e => absurd hk (by omega)))).trans ((((only_cell _ _ _ _).trans (only_cell _ _ _ _)).trans (only_cell _ _ _ _)).trans (only_cell _ _ _ _)), fun k hk => ?_⟩
          rcases hk with hk | ⟨h0, x, e, rfl⟩
          · exact HY1.out k hk
          · exact .inr (HYT.out.2.2 h0 x e).1
        case measure => simp [ixOf]; omega
    · have hin : i = 2 := by omega
      subst hin
      have hi2 : ¬ ((2 : Nat) : Int) < 2 := by omega
      go_wp2
      go_ret
      exact ⟨rfl, by have := HR.out; rwa [Lm.hsq_2] at this⟩
theorem Sm.check_off {d : Sm.Dv} {i : Nat} (h : i < d.kept.length) (hl : d.left = 0) : Sm.check d (i : Int) 0 = 60 := by
  unfold Sm.check; rw [if_neg (by omega), if_pos hl]
set_option maxHeartbeats 4000000 in
set_option maxRecDepth 100000 in
theorem log_readHeadNo {gl g : Nat} {d : Sm.Dv} {F : Nat → Prop} {W : World} (h0 : W.cell? ⟨gl, 0, none⟩ = some (.pointer (some ⟨g, 0, none⟩))) (hg : gl < W.heap.size) (hd : DevK g d F W) (hw : d.ws.length ≤ 500) (hk : 2 ≤ d.kept.length) (hleft : d.left = 0) :
    Calls Try.prog 30 #[.pointer (some ⟨gl, 0, none⟩)] W fun e w' => e = .returned (.int .i64 60) ∧ Below W.heap.size W w' := by
  have HRD : Hid (Calls Try.prog 47 #[.pointer (some ⟨gl, 0, none⟩), .int .i64 0] W fun e w' => (∃ s : List UInt8, s.length = 64 ∧ e = .returned (.tuple #[.agg (yc s).toArray, .int .i64 60])) ∧ Below W.heap.size W w') := log_readNo 0 h0 hg hd (by omega) (Sm.check_off (i := 0) (by omega) hleft)
  obtain ⟨z, Z, hz, hZ, hZs⟩ : ∃ (z : Value) (Z : Array Value), (∀ w, (zeroValue 93).run Try.prog w = .ok z w) ∧ z.cells = Z ∧ Z.size = 64 := ⟨_, z64, (zero_of_info infoLz).1, rfl, Array.size_replicate⟩
  have HZ := Lib.hid hz; have HZ1 := Lib.hid hZ; have HZS := Lib.hid hZs
  clear hz hZ hZs h0 hd hw hk hleft
  go_enter Try.func30, Try.ntmps30
  go_wp2_with fail
  go_loopw [8] (fun iv wr => iv = .int .i64 0 ∧ W = wr) (fun _ _ => 0)
  case atStart => exact ⟨rfl, rfl⟩
  case round =>
    obtain ⟨rfl, rfl⟩ := hrel
    go_wp2_with fail
    refine HRD.out.mono ?_
    rintro e w1 ⟨⟨s, hs, rfl⟩, hb⟩
    have HB := Lib.hid hb
    obtain ⟨D, hD⟩ : ∃ D, D = (yc s).toArray := ⟨_, rfl⟩
    have hDs : D.size = 64 := by rw [hD, List.size_toArray, yc_length]; exact hs
    have hD1 : D.all (·.oneCell') = true := by rw [hD]; exact yc_all _
    have HDS := Lib.hid hDs; have HD1 := Lib.hid hD1
    rw [← hD]
    clear hb hD hDs hD1 hs
    go_wp2_with (first
      | (with_reducible refine wpList_alloc_of ?_ 93 ?_ z Z ?_ ?_ ?_
         · rfl
         · rfl
         · exact HZ.out
         · exact HZ1.out)
      | (refine wpList_store_last ?_ 93 (.tmp 4) (.tmp 15) ?_ w1 Z D ?_ ?_ ?_ ?_ ?_ HD1.out ?_
         · rfl
         · rfl
         · rfl
         · rfl
         · rfl
         · rw [HDS.out]; exact infoL2
         · exact HZS.out.trans HDS.out.symm))
    go_ret
    exact ⟨rfl, HB.out.alloc HB.out.size _⟩
end Go.Proofs.Ytofbignggadkiaa
