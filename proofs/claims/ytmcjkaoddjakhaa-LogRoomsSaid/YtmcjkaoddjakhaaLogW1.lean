/- Layer 7: the walk of LogRooms. -/
import Derived.Test.YtmcjkaoddjakhaaLogW0
import Derived.Test.YtmcjkaoddjakhaaLogPl
namespace Go.Proofs.Ytmcjkaoddjakhaa
open Go.RowKit

/-- numbers of 16 bits: what is known of their cells -/
def Ut (v : Value) (l : List Nat) (w : World) : Prop :=
  (∃ a c, v = .slice a 0 c ∧ l = []) ∨
  ∃ g off cap, v = .slice (some ⟨g, off, none⟩) l.length cap ∧ l.length ≤ cap ∧ g < w.heap.size ∧ ∀ j, j < l.length → w.cell? ⟨g, off + j, none⟩ = some (Value.int .u16 (l.getD j 0 : Nat)) ∧ l.getD j 0 < 65536
theorem Ut.keep {v : Value} {l : List Nat} {w w' : World} (h : Ut v l w) (hb : Below w.heap.size w w') : Ut v l w' := by
  rcases h with h | ⟨g, off, cap, rfl, hc, hg, hcell⟩
  · exact .inl h
  · exact .inr ⟨g, off, cap, rfl, hc, by have := hb.size; omega, fun j hj => ⟨(hb.cell (p := ⟨g, off + j, none⟩) hg).trans (hcell j hj).1, (hcell j hj).2⟩⟩
theorem Ut.at {a : Option Addr} {n c : Nat} {l : List Nat} {w : World} (h : Ut (.slice a n c) l w) {j : Nat} (hj : j < l.length) : ∃ g off, a = some ⟨g, off, none⟩ ∧ w.cell? ⟨g, off + j, none⟩ = some (Value.int .u16 (l.getD j 0 : Nat)) ∧ l.getD j 0 < 65536 := by
  rcases h with ⟨a', c', e, rfl⟩ | ⟨g, off, cap, e, _, _, hcell⟩
  · simp at hj
  · injection e with e1 e2 e3
    exact ⟨g, off, e1, (hcell j hj).1, (hcell j hj).2⟩
theorem Ut.len {a : Option Addr} {n c : Nat} {l : List Nat} {w : World} (h : Ut (.slice a n c) l w) : n = l.length := by
  rcases h with ⟨a', c', e, rfl⟩ | ⟨g, off, cap, e, _, _, hcell⟩
  · injection e
  · injection e
theorem wq {x : Int} {m : Nat} (h : x = (m : Int)) (hm : m ≤ 2147483648) : wrap64 x = (m : Int) := by subst h; unfold wrap64; omega
theorem max2l (x y M : Int) (h : (if y > x then y else x) = M) (W : World) : (Builtin.max_ #[3, 3] 3 #[.int .i64 x, .int .i64 y]).run Try.prog W = .ok (.int .i64 M) W := by
  rw [← h, run_max_int2]
theorem wq16 {m : Nat} (hm : m < 65536) : IntKind.u16.wrap (m : Int) = (m : Int) := by rw [IntKind.wrap_u16]; omega
namespace Lm
/-- behind i appends -/
structure Rm (n i : Nat) (d : Sm.Dv) (L : Lg) : Prop where
  v : Lv n d L
  k : Lok L d
  l : d.left = -1
  c0 : 0 ≤ d.calls
  c1 : d.calls ≤ 2 + 61 * (i : Int)
  e : L.h.epoch = 1
  n : L.h.n = 1
theorem Rm.dl {n i : Nat} {d : Sm.Dv} {L : Lg} (h : Rm n i d L) (hn : n ≤ 60) (hi : i ≤ 100) : Dl d :=
  ⟨by rw [h.v.ws]; exact Nat.zero_le _, h.c0, by have := h.c1; omega, by rw [h.l]; decide, by rw [h.l]; decide, by have := h.v.rp.len; omega⟩
theorem rm_step {n i : Nat} {d : Sm.Dv} {L : Lg} (h : Rm n i d L) (hn : n ≤ 60) (b : List UInt8) (hb : b.length ≤ 65536) :
    (max 1 ((b.length + 45) / 46) ≤ n - L.at_ ∧ (append L d b).2.2 = 0 ∧ Rm n (i + 1) (append L d b).2.1 (append L d b).1 ∧ (append L d b).1.at_ = L.at_ + max 1 ((b.length + 45) / 46) ∧ (append L d b).1.l.length = L.l.length + 1) ∨
    (n - L.at_ < max 1 ((b.length + 45) / 46) ∧ append L d b = (L, d, 70)) := by
  have hat : L.at_ ≤ n := h.v.rp.af
  have hg := append_grow (b := b) h.k h.v.ok (by rw [h.l]; decide) (by rw [h.l]; decide)
  rcases app_cases h.v (by rw [h.e]; decide) (by omega) b with ⟨c, e, h1⟩ | ⟨_, h2, h3⟩
  · rcases h1 with ⟨_, h1⟩ | ⟨rfl, _, h1⟩
    · omega
    · rw [parts_len] at h1
      exact .inr ⟨by omega, e⟩
  · rcases h3 with ⟨e, h4, h5, h6⟩ | ⟨_, _, h4, _⟩
    · rw [parts_len] at h2 h4
      refine .inl ⟨by omega, e, ⟨h5, hg.2, h6 h.l, by have := hg.1.c0; have := h.c0; omega, ?_, by rw [h4]; exact h.e, by rw [h4]; exact h.n⟩, by rw [h4], by rw [h4]; simp⟩
      have h7 := hg.1.c1
      rw [h.v.frm] at h7
      have := h.c1
      omega
    · exact absurd h.l h4
theorem rm_new (n : Nat) (hn : 1 ≤ n) : open_ (Sm.new (n + 2)) (n : Int) = (some ⟨n, ⟨1, 1, 0, []⟩, [], 0, false⟩, (open_ (Sm.new (n + 2)) (n : Int)).2.1, 0) ∧ Rm n 0 (open_ (Sm.new (n + 2)) (n : Int)).2.1 ⟨n, ⟨1, 1, 0, []⟩, [], 0, false⟩ := by
  have hg := open_grow (d := Sm.new (n + 2)) (n : Int) (Sm.ok_new _) (by show (-1 : Int) ≤ -1; decide) (by show (-1 : Int) ≤ _; decide)
  rcases open_cases (rp_new n) (Sm.ok_new _) rfl hn (by decide) (by decide) with ⟨e, h1, h2⟩ | ⟨_, h1, _⟩
  · refine ⟨e, h1, (hg.2 _ (by rw [e]; rfl)).1, h2 rfl, by have := hg.1.c0; exact this, by have := hg.1.c1; exact this, rfl, rfl⟩
  · exact absurd rfl h1
theorem rm_reset {n i : Nat} {d : Sm.Dv} {L : Lg} (h : Rm n i d L) : (reset L d []).2.2 = 0 ∧ (reset L d []).1.down = false ∧ (reset L d []).1.frames = n ∧ (reset L d []).1.at_ = 0 ∧ Lok (reset L d []).1 (reset L d []).2.1 := by
  have hg := reset_grow (b := []) h.k h.v.ok (by rw [h.l]; decide) (by rw [h.l]; decide)
  rcases reset_cases h.v (by rw [h.e]; decide) (by rw [h.n]; decide) [] with ⟨h1, _⟩ | ⟨_, ⟨e, h1, h2, _⟩ | ⟨_, h1, _⟩⟩
  · exact absurd h1 (by decide)
  · exact ⟨e, h2.dn, h2.frm, by rw [h1], hg.2⟩
  · exact absurd h.l h1
end Lm
set_option maxHeartbeats 4000000 in
set_option maxRecDepth 100000 in
theorem walk_rooms {Dev : Nat → Sm.Dv → (Nat → Prop) → World → Prop} {Log : Nat → Nat → Lm.Lg → (Nat → Prop) → World → Prop} (V : SecCon Dev) (U : LogCon Dev Log) (f : Nat) (ta : Option Addr) (tn tc : Nat) (ts : List Nat) (w : World) (hf : f < 256) (hm : tn ≤ maxLen) (ht : Ut (.slice ta tn tc) ts w) :
    Calls Try.prog 5 #[.int .u8 (f : Int), .slice ta tn tc] w fun e w' => e = .returned (.bool true) ∧ Below w.heap.size w w' := by
  have HV := Lib.hid V
  have HU := Lib.hid U
  have htl := ht.len
  have hm2 : (tn : Int) ≤ 9223372036854775807 := by unfold maxLen at hm; omega
  obtain ⟨r, hr⟩ : ∃ r, r = f % 60 := ⟨_, rfl⟩
  have hr60 : r < 60 := by omega
  obtain ⟨n, hn⟩ : ∃ n, n = 1 + r := ⟨_, rfl⟩
  have hn60 : n ≤ 60 := by omega
  have hn1 : 1 ≤ n := by omega
  obtain ⟨n2, hn2⟩ : ∃ n2, n2 = n + 2 := ⟨_, rfl⟩
  have g1 : r ≤ 2147483648 := by omega
  have g2 : n ≤ 2147483648 := by omega
  have g3 : n2 ≤ 2147483648 := by omega
  have g4 : 1 + (r : Int) = (n : Int) := by omega
  have g5 : (n : Int) + 2 = (n2 : Int) := by omega
  have g6 : (f : Int).tmod 60 = (r : Int) := by rw [Int.tmod_eq_emod_of_nonneg (by omega)]; omega
  have hw2 : IntKind.u8.wrap (r : Int) = (r : Int) := by rw [IntKind.wrap_u8]; omega
  have hw3 : wrap64 (1 + (r : Int)) = (n : Int) := wq g4 g2
  have hw4 : wrap64 ((n : Int) + 2) = (n2 : Int) := wq g5 g3
  have hw5 : wrap64 (r : Int) = (r : Int) := wq rfl g1
  have HT0 := Lib.hid ht; have HTL := Lib.hid htl; have HM := Lib.hid hm2
  have HN2 := Lib.hid hn2
  obtain ⟨he1, hrm⟩ := Lm.rm_new n hn1
  rw [← hn2] at he1 hrm
  obtain ⟨d1, hd1⟩ : ∃ d1, d1 = (Lm.open_ (Sm.new n2) (n : Int)).2.1 := ⟨_, rfl⟩
  rw [← hd1] at he1 hrm
  have HE1 := Lib.hid he1; have HRM := Lib.hid hrm
  clear ht htl hm2 hm hr hn hn2 V U he1 hrm hd1
  go_enter Try.func5, Try.ntmps5
  go_wp2_with fail
  refine (walk_first HV.out HU.out w).mono ?_
  rintro e w1 ⟨rfl, hb1⟩
  have HB1 := Lib.hid hb1
  clear hb1
  go_wp2_with fail
  refine (HV.out.new n2 w1 (by have := HN2.out; omega) (by have := HN2.out; omega)).mono ?_
  rintro e w2 ⟨g, F, rfl, hd, hF, hb⟩
  have HD := Lib.hid hd; have HF := Lib.hid hF; have HB := Lib.hid (HB1.out.trans (hb.mono HB1.out.size))
  have HS1 := Lib.hid HB1.out.size
  clear hd hF hb HB1
  go_wp2_with fail
  refine (HU.out.openOk (n : Int) ⟨n, ⟨1, 1, 0, []⟩, [], 0, false⟩ HD.out ⟨Nat.zero_le _, Int.le_refl _, by show (0 : Int) ≤ _; omega, by show (-1 : Int) ≤ -1; omega, by show (-1 : Int) ≤ _; omega, by show (List.replicate n2 (Sm.full [])).length ≤ 200; rw [List.length_replicate]; have := HN2.out; omega⟩ ⟨by omega, by omega⟩ (by rw [HE1.out])).mono ?_
  rintro e w3 ⟨gl, F2, G2, rfl, hd, hl, ho, hf2, hg, ha⟩
  rw [HE1.out] at hd
  have HL : Hid (Ld Dev Log w.heap.size g gl d1 ⟨n, ⟨1, 1, 0, []⟩, [], 0, false⟩ F2 G2 w3) := ⟨hd, hl, fun k hk => by rcases hf2 k hk with h | h; have := HF.out k h; have := HS1.out; omega; have := HB.out.size; omega, fun k hk => by have := hg k hk; have := HB.out.size; omega, ha⟩
  have HB3 : Hid (Below w.heap.size w w3) := HB.out.trans (only_bel ho HB.out.size (fun k hk hp => by have := HF.out k hp; have := HS1.out; omega))
  clear hd hl ho hf2 hg ha HD HB HF HS1
  clear g1 g2 g3 g4 g5 g6 hw2 hw3 hw4 hw5
  go_upto_block 0 with (fail)
  go_cut [10] (fun lv wx => ∃ (z : Int) (d : Sm.Dv) (L : Lm.Lg) (F G : Nat → Prop), lv = .int .i64 z ∧ Hid (Lm.Rm n 61 d L) ∧ Hid (Ld Dev Log w.heap.size g gl d L F G wx) ∧ Hid (Below w.heap.size w wx))
  case first =>
    go_wp2_with fail
    go_loopw [10, 11, 38] (fun lv cv iv wr => ∃ (i left c : Nat) (d : Sm.Dv) (L : Lm.Lg) (F G : Nat → Prop), i ≤ tn ∧ i ≤ 60 ∧ iv = .int .i64 (i : Int) ∧ lv = .int .i64 (left : Int) ∧ cv = .int .i64 (c : Int) ∧ left ≤ 60 ∧ c ≤ 60 ∧ Hid (c ≤ i ∧ left = n - L.at_ ∧ L.l.length = c) ∧ Hid (Lm.Rm n i d L) ∧ Hid (Ld Dev Log w.heap.size g gl d L F G wr) ∧ Hid (Below w.heap.size w wr)) (fun _ _ iv _ => tn - (ixOf iv).toNat)
    case atStart => exact ⟨0, n, 0, _, _, F2, G2, Nat.zero_le _, Nat.zero_le _, rfl, rfl, rfl, hn60, Nat.zero_le _, ⟨Nat.le_refl _, rfl, rfl⟩, HRM.out, HL.out, HB3.out⟩
    case round =>
      obtain ⟨i, left, c, d, L, F, G, hi, hi60, rfl, rfl, rfl, hl60, hc60, HC, HRI, HLD, HB⟩ := hrel
      have hwr := HB.out.size
      by_cases hlt : i < tn
      · obtain ⟨gt, off, rfl, hcell0, hs0⟩ := HT0.out.at (j := i) (by have := HTL.out; omega)
        obtain ⟨s, hs⟩ : ∃ s, s = ts.getD i 0 := ⟨_, rfl⟩
        rw [← hs] at hcell0 hs0
        have hgt : gt < w.heap.size := World.block_lt_of_cell? w ⟨gt, off + i, none⟩ hcell0
        have hcell : wr.cell? ⟨gt, off + i, none⟩ = some (.int .u16 (s : Int)) := (HB.out.cell (p := ⟨gt, off + i, none⟩) hgt).trans hcell0
        have hm := HM.out
        by_cases h60 : i = 60
        · have q : decide ((60 : Int) ≤ (i : Int)) = true := by simp; omega
          clear h60 hs hs0 hcell0 hm
          go_wp2
          go_meet
          exact ⟨_, d, L, F, G, rfl, by have := HRI.out; exact ⟨this.v, this.k, this.l, this.c0, by have := this.c1; omega, this.e, this.n⟩, HLD, HB⟩
        have q60 : decide ((60 : Int) ≤ (i : Int)) = false := by simp; omega
        have hi59 : i < 60 := by omega
        obtain ⟨k, hk⟩ : ∃ k, k = s % 700 := ⟨_, rfl⟩
        have hk7 : k < 700 := by omega
        have hx1 : (s : Int).tmod 700 = (k : Int) := by rw [Int.tmod_eq_emod_of_nonneg (by omega)]; omega
        have g11 : k < 65536 := by omega
        obtain ⟨k45, hk45⟩ : ∃ k45, k45 = k + 45 := ⟨_, rfl⟩
        obtain ⟨qq, hqq⟩ : ∃ qq, qq = k45 / 46 := ⟨_, rfl⟩
        have g7 : (k : Int) + 45 = (k45 : Int) := by omega
        have g8 : k45 ≤ 2147483648 := by omega
        have g9 : k ≤ 2147483648 := by omega
        have g10 : qq ≤ 2147483648 := by omega
        have hx5 : (k45 : Int).tdiv 46 = (qq : Int) := by rw [Int.tdiv_eq_ediv_of_nonneg (by omega)]; omega
        obtain ⟨nd, hnd⟩ : ∃ nd, nd = max 1 qq := ⟨_, rfl⟩
        have hnd20 : nd ≤ 20 := by omega
        have hx7 := max2l 1 (qq : Int) (nd : Int) (by split <;> omega)
        have hstep := Lm.rm_step HRI.out hn60 (List.replicate k 0) (by simp; omega)
        rw [List.length_replicate, ← hk45, ← hqq, ← hnd, ← HC.out.2.1] at hstep
        have HST := Lib.hid hstep
        have HK7 := Lib.hid hk7
        have HK6 : Hid (k ≤ 1000000) := by show _ ≤ _; omega
        have HI1 : Hid (i + 1 ≤ 60 ∧ i + 1 ≤ tn) := ⟨by omega, by omega⟩
        have hk45b : k45 ≤ 745 := by omega
        have hqq16 : qq ≤ 16 := by omega
        clear g8 g9 g10 hi60 hstep hqq hk45 hnd hk hs hs0 hcell0 h60 hm hgt
        have hx2 : IntKind.u16.wrap (k : Int) = (k : Int) := wq16 g11
        have hmk : ∀ w, (Instr.makeSlice 39 (.int .i64 (k : Int)) (.int .i64 (k : Int))).run Try.prog w = .ok (.slice (some ⟨w.heap.size, 0, none⟩) k k) (w.alloc (.cells (Zr k) 5)) := fun w => mk_bytes k HK6.out w
        have HDL := Lib.hid (HRI.out.dl hn60 (Nat.le_of_lt (Nat.lt_trans hi59 (by decide))))
        go_wp2_with fail
        have hyz : Yt (.slice (some ⟨wr.heap.size, 0, none⟩) k k) (List.replicate k 0) (wr.alloc (.cells (Zr k) 5)) := yt_mk wr (List.replicate k 0) k (Zr k) _ (zr_yc k) (by rw [List.length_replicate])
        refine ((HLD.out.below HV.out HU.out (one_bs wr _)).append HU.out HDL.out HRI.out.k (HB.out.trans ((one_bs wr _).mono hwr)) (by simp; omega) hyz (by rw [List.length_replicate]; have := HK6.out; omega) (fun _ x e => by injection e with e; subst e; exact HLD.out.far HV.out HU.out _ (.inl (Nat.le_refl _))) (L' := (Lm.append L d (List.replicate k 0)).1) (d' := (Lm.append L d (List.replicate k 0)).2.1) (code := (Lm.append L d (List.replicate k 0)).2.2) rfl).mono ?_
        rintro e w4 ⟨rfl, F4, G4, HL4, HB4, _⟩
        have hg4 := HB4.out.size
        clear hyz HB
        rcases HST.out with ⟨s1, s2, s3, s4, s5⟩ | ⟨s1, s2⟩
        · rw [s2]
          obtain ⟨L2, hL2⟩ : ∃ L2, L2 = (Lm.append L d (List.replicate k 0)).1 := ⟨_, rfl⟩
          obtain ⟨d2, hd2⟩ : ∃ d2, d2 = (Lm.append L d (List.replicate k 0)).2.1 := ⟨_, rfl⟩
          rw [← hL2] at s3 s4 s5 HL4
          rw [← hd2] at s3 HL4
          obtain ⟨left2, hleft2⟩ : ∃ left2, left2 = left - nd := ⟨_, rfl⟩
          obtain ⟨c2, hc2⟩ : ∃ c2, c2 = c + 1 := ⟨_, rfl⟩
          have hcc := HC.out
          have q1 : decide ((nd : Int) ≤ (left : Int)) = true := by simp; omega
          have q2 : (left : Int) - (nd : Int) = (left2 : Int) := by omega
          have q3 : (c : Int) + 1 = (c2 : Int) := by omega
          have HR2 := Lib.hid s3
          have hro : ((L2.frames : Int) - (L2.at_ : Int)) = (left2 : Int) := by have := s3.v.frm; have := s3.v.rp.af; omega
          have hll : L2.l.length = c2 := by omega
          have hdn := s3.v.dn
          have HRO := Lib.hid hro; have HLL := Lib.hid hll; have HDN := Lib.hid hdn
          have HC2 : Hid (c2 ≤ i + 1 ∧ left2 = n - L2.at_ ∧ L2.l.length = c2) := ⟨by omega, by omega, hll⟩
          have hl2 : left2 ≤ 60 := by omega
          have hc2b : c2 ≤ 60 := by omega
          clear s1 s2 s3 s4 s5 hL2 hd2 hleft2 hc2 hcc hro hll hdn HST HRI HLD HC
          go_wp2_with fail
          refine (HU.out.room HL4.out.l HR2.out.k).mono ?_
          rintro e w5 ⟨rfl, hb⟩
          rw [HDN.out, if_neg (by decide), HRO.out]
          have HL5 := Lib.hid (HL4.out.below HV.out HU.out hb); have HB5 := Lib.hid (HB4.out.trans (hb.mono hg4))
          have hg5 := HB5.out.size
          clear hb HL4 HB4
          go_wp2_with fail
          refine (HU.out.batches HL5.out.l HR2.out.k (by have := HR2.out.v.rp.len; omega)).mono ?_
          rintro e w6 ⟨a6, n6, c6, rfl, hbs, hb⟩
          obtain ⟨hn6, _⟩ := hbs
          have HL6 := Lib.hid (HL5.out.below HV.out HU.out hb); have HB6 := Lib.hid (HB5.out.trans (hb.mono hg5))
          rw [HLL.out] at hn6
          have q6 : ((n6 : Int) != (c2 : Int)) = false := by rw [hn6]; simp
          clear hb HL5 HB5 hn6
          go_wp2
          go_roundw
          case rel => exact ⟨i + 1, left2, c2, d2, L2, F4, G4, HI1.out.2, HI1.out.1, by go_num, rfl, rfl, hl2, hc2b, HC2.out, HR2.out, HL6.out, HB6.out⟩
          case measure => simp [ixOf]; omega
        · rw [s2] at HL4 ⊢
          have q0 : (left : Int) < (nd : Int) := by have := HC.out; omega
          have q0n : left < nd := by omega
          have q1 : decide ((nd : Int) ≤ (left : Int)) = false := by simp; omega
          have q1n : decide (nd ≤ left) = false := by simp; omega
          have hro : ((L.frames : Int) - (L.at_ : Int)) = (left : Int) := by have := HC.out; have := HRI.out.v.frm; have := HRI.out.v.rp.af; omega
          have HRO := Lib.hid hro
          have HR2 : Hid (Lm.Rm n (i + 1) d L) := by have := HRI.out; exact ⟨this.v, this.k, this.l, this.c0, by have := this.c1; omega, this.e, this.n⟩
          have HC2 : Hid (c ≤ i + 1 ∧ left = n - L.at_ ∧ L.l.length = c) := by have := HC.out; exact ⟨by omega, this.2.1, this.2.2⟩
          clear s1 s2 hro HST HLD
          go_wp2_with fail
          refine (HU.out.room HL4.out.l HR2.out.k).mono ?_
          rintro e w5 ⟨rfl, hb⟩
          rw [HRI.out.v.dn, if_neg (by decide), HRO.out]
          have HL5 := Lib.hid (HL4.out.below HV.out HU.out hb); have HB5 := Lib.hid (HB4.out.trans (hb.mono hg4))
          have hg5 := HB5.out.size
          clear hb HL4 HB4
          go_wp2_with fail
          refine (HU.out.batches HL5.out.l HR2.out.k (by have := HR2.out.v.rp.len; omega)).mono ?_
          rintro e w6 ⟨a6, n6, c6, rfl, hbs, hb⟩
          obtain ⟨hn6, _⟩ := hbs
          have HL6 := Lib.hid (HL5.out.below HV.out HU.out hb); have HB6 := Lib.hid (HB5.out.trans (hb.mono hg5))
          rw [HC.out.2.2] at hn6
          have q6 : ((n6 : Int) != (c : Int)) = false := by rw [hn6]; simp
          clear hb HL5 HB5 hn6
          go_wp2
          go_roundw
          case rel => exact ⟨i + 1, left, c, d, L, F4, G4, HI1.out.2, HI1.out.1, by go_num, rfl, rfl, hl60, hc60, HC2.out, HR2.out, HL6.out, HB6.out⟩
          case measure => simp [ixOf]; omega
      · go_wp2
        go_meet
        exact ⟨_, d, L, F, G, rfl, by have := HRI.out; exact ⟨this.v, this.k, this.l, this.c0, by have := this.c1; omega, this.e, this.n⟩, HLD, HB⟩
  case rest =>
    obtain ⟨z, d, L, F, G, rfl, HRI, HLD, HB⟩ := hcut
    have hwc := HB.out.size
    have hmk : ∀ w, (Instr.makeSlice 39 (.int .i64 65537) (.int .i64 65537)).run Try.prog w = .ok (.slice (some ⟨w.heap.size, 0, none⟩) 65537 65537) (w.alloc (.cells (Zr 65537) 5)) := fun w => mk_bytes 65537 (by omega) w
    have hmk2 : ∀ w, (Instr.makeSlice 39 (.int .i64 33) (.int .i64 33)).run Try.prog w = .ok (.slice (some ⟨w.heap.size, 0, none⟩) 33 33) (w.alloc (.cells (Zr 33) 5)) := fun w => mk_bytes 33 (by omega) w
    have HDL := Lib.hid (HRI.out.dl hn60 (by decide))
    have HE1 : Hid (Lm.append L d (List.replicate 65537 0) = (L, d, 2)) := by
      show _ = _
      rcases Lm.app_cases HRI.out.v (by rw [HRI.out.e]; decide) (by omega) (List.replicate 65537 0) with ⟨c, e, ⟨rfl, _⟩ | ⟨rfl, h, _⟩⟩ | ⟨h, _⟩
      · exact e
      · rw [List.length_replicate] at h; omega
      · rw [List.length_replicate] at h; omega
    have HE2 : Hid (Lm.reset L d (List.replicate 33 0) = (L, d, 2)) := by
      show _ = _
      rcases Lm.reset_cases HRI.out.v (by rw [HRI.out.e]; decide) (by rw [HRI.out.n]; decide) (List.replicate 33 0) with ⟨_, e⟩ | ⟨h, _⟩
      · exact e
      · rw [List.length_replicate] at h; omega
    have HE3 := Lib.hid (Lm.rm_reset HRI.out)
    go_wp2_with fail
    refine ((HLD.out.below HV.out HU.out (one_bs wc _)).append HU.out HDL.out HRI.out.k (HB.out.trans ((one_bs wc _).mono hwc)) (by simp; omega) (yt_mk wc (List.replicate 65537 0) 65537 _ _ (zr_yc 65537) (by rw [List.length_replicate])) (by rw [List.length_replicate]; omega) (fun _ x e => by injection e with e; subst e; exact HLD.out.far HV.out HU.out _ (.inl (Nat.le_refl _))) HE1.out).mono ?_
    rintro e w4 ⟨rfl, F4, G4, HL4, HB4, _⟩
    have hg4 := HB4.out.size
    clear HLD HB
    go_wp2_with fail
    refine ((HL4.out.below HV.out HU.out (one_bs w4 _)).reset HU.out HDL.out HRI.out.k (by rw [HRI.out.n]; decide) (HB4.out.trans ((one_bs w4 _).mono hg4)) (by simp; omega) (yt_mk w4 (List.replicate 33 0) 33 _ _ (zr_yc 33) (by rw [List.length_replicate])) (by rw [List.length_replicate]; omega) (fun _ x e => by injection e with e; subst e; exact HL4.out.far HV.out HU.out _ (.inl (Nat.le_refl _))) HE2.out).mono ?_
    rintro e w5 ⟨rfl, F5, G5, HL5, HB5, _⟩
    have hg5 := HB5.out.size
    clear HL4 HB4
    go_wp2_with fail
    refine (HL5.out.reset HU.out HDL.out HRI.out.k (by rw [HRI.out.n]; decide) HB5.out hg5 (.inl ⟨_, _, rfl, rfl⟩ : Yt (.slice none 0 0) [] w5) (by decide) (fun h => absurd h (by decide)) (L' := (Lm.reset L d []).1) (d' := (Lm.reset L d []).2.1) (code := (Lm.reset L d []).2.2) rfl).mono ?_
    rintro e w6 ⟨rfl, F6, G6, HL6, HB6, _⟩
    have hg6 := HB6.out.size
    obtain ⟨r1, r2, r3, r4, r5⟩ := HE3.out
    rw [r1]
    have HR5 := Lib.hid r5
    have hro : (if (Lm.reset L d []).1.down = true then (0 : Int) else ((Lm.reset L d []).1.frames : Int) - ((Lm.reset L d []).1.at_ : Int)) = (n : Int) := by rw [r2, r3, r4, if_neg (by decide)]; omega
    have HRO := Lib.hid hro
    clear HL5 HB5 r1 r2 r3 r4 r5 hro
    go_wp2_with fail
    refine (HU.out.room HL6.out.l HR5.out).mono ?_
    rintro e w7 ⟨rfl, hb⟩
    rw [HRO.out]
    have HB7 := Lib.hid (HB6.out.trans (hb.mono hg6))
    clear hb HL6 HB6
    go_wp2
    go_ret
    exact ⟨rfl, HB7.out⟩
end Go.Proofs.Ytmcjkaoddjakhaa
