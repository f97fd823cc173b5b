/- Package row: parts of a row; Set. -/
import Derived.Test.YtmipomglbccjbaaDoorRowGc
import Derived.BigQuiet
namespace Go.Proofs.YtmipomglbccjbaaDoor
open Go.RowKit

theorem rs_size (w' : World) : (sizeOf (Tryd.prog.elem 22)).run Tryd.prog w' = .ok 5 w' := by kernel_rfl
/-- r[k:] -/
theorem Rs.from_ {a : Option Addr} {n c : Nat} {l : List Rm.C} {w : World} (h : Rs (.slice a n c) l w) (k : Nat) (hk : k ≤ n) (hb : n ≤ 1000000) :
    ∃ b d, Rs (.slice b (n - k) d) (l.drop k) w ∧ ∀ w', (Instr.slice 22 (.slice a n c) (some (.int .i64 (k : Int))) none none).run Tryd.prog w' = .ok (.slice b (n - k) d) w' := by
  have hr : ∀ (w' : World), (Instr.slice 22 (.slice a n c) (some (.int .i64 (k : Int))) none none).run Tryd.prog w' = .ok (sliced a k n c 5) w' := fun w' => by
    rw [run_slice_l w' 22 a n c (by kernel_rfl) .i64 k (by omega) (by omega), rs_size]
    simp
  by_cases hck : c = k
  · refine ⟨a, 0, ?_, fun w' => by rw [hr]; simp [sliced, hck]⟩
    have hl : n = l.length := by obtain ⟨b, d, e⟩ := h.form; injection e
    rcases h with ⟨a', c', e, rfl⟩ | ⟨g, off, cap, e, hc, hg, hcell⟩
    · injection e with e1 e2 e3
      subst e2
      rw [Nat.zero_sub]; exact .inl ⟨_, _, rfl, by simp⟩
    · injection e with e1 e2 e3
      rw [show n - k = 0 by omega, List.drop_of_length_le (by omega)]; exact .inl ⟨_, _, rfl, rfl⟩
  · refine ⟨a.map fun x => x.add (k * 5), c - k, ?_, fun w' => by rw [hr]; simp [sliced, hck]⟩
    have hl : n = l.length := by obtain ⟨b, d, e⟩ := h.form; injection e
    have h' := h
    rcases h with ⟨a', c', e, rfl⟩ | ⟨g, off, cap, e, hc, hg, hcell⟩
    · injection e with e1 e2 e3
      subst e2
      rw [Nat.zero_sub]; exact .inl ⟨_, _, rfl, by simp⟩
    · injection e with e1 e2 e3
      subst e1; subst e3
      have hp := h'.part (k := k) (m := n - k) (cap' := c - k) (by omega) (by omega)
      rw [List.take_of_length_le (by rw [List.length_drop]; omega)] at hp
      rw [Option.map_some, add_at]; exact hp
/-- r[:k] -/
theorem Rs.upto {a : Option Addr} {n c : Nat} {l : List Rm.C} {w : World} (h : Rs (.slice a n c) l w) (k : Nat) (hk : k ≤ n) (hb : n ≤ 1000000) :
    ∃ b d, Rs (.slice b k d) (l.take k) w ∧ ∀ w', (Instr.slice 22 (.slice a n c) none (some (.int .i64 (k : Int))) none).run Tryd.prog w' = .ok (.slice b k d) w' := by
  have hkc : k ≤ c := by
    rcases h with ⟨a', c', e, rfl⟩ | ⟨g, off, cap, e, hc, hg, hcell⟩
    · injection e with e1 e2 e3; omega
    · injection e with e1 e2 e3; omega
  have hr : ∀ (w' : World), (Instr.slice 22 (.slice a n c) none (some (.int .i64 (k : Int))) none).run Tryd.prog w' = .ok (sliced a 0 k c 5) w' := fun w' => by
    rw [run_slice_h w' 22 a n c (by kernel_rfl) .i64 k (by omega) (by omega), rs_size]
    simp
  by_cases hc0 : c = 0
  · subst hc0
    obtain rfl : k = 0 := by omega
    exact ⟨a, 0, .inl ⟨_, _, rfl, by simp⟩, fun w' => by rw [hr]; simp [sliced]⟩
  · refine ⟨a.map fun x => x.add 0, c, ?_, fun w' => by rw [hr]; simp [sliced, hc0]⟩
    rcases h with ⟨a', c', e, rfl⟩ | ⟨g, off, cap, e, hc, hg, hcell⟩
    · injection e with e1 e2 e3
      subst e2
      obtain rfl : k = 0 := by omega
      exact .inl ⟨_, _, rfl, by simp⟩
    · have h' : Rs (.slice a n c) l w := .inr ⟨g, off, cap, e, hc, hg, hcell⟩
      injection e with e1 e2 e3
      subst e1; subst e3
      have hp := h'.part (k := 0) (m := k) (cap' := c) (by omega) (by omega)
      rw [List.drop_zero, Nat.zero_mul, Nat.add_zero] at hp
      rw [Option.map_some, add_at, Nat.add_zero]; exact hp
theorem rss_two {W : World} {x y : RL} (hx : Rs (.slice x.1 x.2.1 x.2.2.1) x.2.2.2 W) (hy : Rs (.slice y.1 y.2.1 y.2.2.1) y.2.2.2 W) (h1 : x.2.1 ≤ 1000) (h2 : y.2.1 ≤ 1000) :
    Rss W.heap.size 0 [x, y] (W.alloc (.cells #[.slice x.1 x.2.1 x.2.2.1, .slice y.1 y.2.1 y.2.2.1] 22)) := by
  refine ⟨by simp, fun j hj => ?_⟩
  have hj2 : j < 2 := hj
  rcases (show j = 0 ∨ j = 1 by omega) with rfl | rfl
  · exact ⟨x, rfl, by simp, hx.keep (one_r _ _), h1⟩
  · exact ⟨y, rfl, by simp, hy.keep (one_r _ _), h2⟩
theorem rss_three {W : World} {x y z : RL} (hx : Rs (.slice x.1 x.2.1 x.2.2.1) x.2.2.2 W) (hy : Rs (.slice y.1 y.2.1 y.2.2.1) y.2.2.2 W) (hz : Rs (.slice z.1 z.2.1 z.2.2.1) z.2.2.2 W) (h1 : x.2.1 ≤ 1000) (h2 : y.2.1 ≤ 1000) (h3 : z.2.1 ≤ 1000) :
    Rss W.heap.size 0 [x, y, z] (W.alloc (.cells #[.slice x.1 x.2.1 x.2.2.1, .slice y.1 y.2.1 y.2.2.1, .slice z.1 z.2.1 z.2.2.1] 22)) := by
  refine ⟨by simp, fun j hj => ?_⟩
  have hj2 : j < 3 := hj
  rcases (show j = 0 ∨ j = 1 ∨ j = 2 by omega) with rfl | rfl | rfl
  · exact ⟨x, rfl, by simp, hx.keep (one_r _ _), h1⟩
  · exact ⟨y, rfl, by simp, hy.keep (one_r _ _), h2⟩
  · exact ⟨z, rfl, by simp, hz.keep (one_r _ _), h3⟩

set_option maxHeartbeats 4000000 in
set_option maxRecDepth 100000 in
theorem row_set (a : Option Addr) (n cap : Nat) (l : List Rm.C) (col : Int) (v : Vm.Cl) (w : World) (he : EnvV w) (hv : Rs (.slice a n cap) l w) (hl : n ≤ 1000) (hz : v.s.size ≤ maxLen) :
    Calls Tryd.prog 20 #[.slice a n cap, .int .i64 col, .agg #[.int .i64 v.k, .int .i64 v.n, .int .i64 v.sc, .string v.s]] w (RsA (Rm.set col v l) w) := by
  have hnl : n = l.length := by obtain ⟨b, d, e⟩ := hv.form; injection e
  have hn1 : n ≤ l.length := by omega
  have hn2 : l.length ≤ n := by omega
  clear hnl
  obtain ⟨R, hR⟩ : ∃ R, R = Rm.set col v l := ⟨_, rfl⟩
  rw [← hR]
  have HRR := Lib.hid hR
  clear hR
  obtain ⟨q, hq⟩ : ∃ q, q = w.heap.size := ⟨_, rfl⟩
  obtain ⟨W0, hW0⟩ : ∃ W0, W0 = w.alloc (.cells #[.int .i64 v.k, .int .i64 v.n, .int .i64 v.sc, .string v.s] 36) := ⟨_, rfl⟩
  have HB0 : Hid (Below w.heap.size w W0) := by show Below _ _ _; rw [hW0]; exact one_r w _
  have HX0 : Hid (Fx q v.k v.n v.sc v.s W0) := by show Fx _ _ _ _ _ _; rw [hW0, hq]; exact Fx.new w _ _ _ _ _
  have HV := Lib.hid (hv.keep HB0.out)
  have HE := Lib.hid (he.keep HB0.out)
  obtain ⟨f, hf⟩ : ∃ f, f = Rm.fillB v := ⟨_, rfl⟩
  have HF : Hid (∀ W, EnvV W → Calls Tryd.prog 27 #[.agg #[.int .i64 v.k, .int .i64 v.n, .int .i64 v.sc, .string v.s]] W (Says f W)) := fun W hW => by
    rw [hf]; exact row_filled v W hW hz
  have HO : Hid (Rm.one col v = if f then [⟨col, v⟩] else []) := by show _ = _; unfold Rm.one; rw [hf]
  clear hv he hz hf
  obtain ⟨vk, vn, vc, vs⟩ := v
  dsimp only at HB0 HX0 HF hW0
  have HQ : Hid (q = w.heap.size ∧ W0 = w.alloc (.cells #[.int .i64 vk, .int .i64 vn, .int .i64 vc, .string vs] 36)) := ⟨hq, hW0⟩
  clear hq hW0
  by_cases h0 : col < 0
  · have HR2 : Hid (R = l) := by show _ = _; rw [HRR.out]; unfold Rm.set; rw [if_pos h0]
    have HCL := Lib.hid (row_clone a n cap l W0 HV.out hl)
    clear HRR HO HF
    go_enter Tryd.func20, Tryd.ntmps20
    go_wp2_with (rw [← HQ.out.2])
    refine HCL.out.mono ?_
    rintro e w1 ⟨ra, rn, rc, rfl, hrn, hrs, hb⟩
    have HB1 := Lib.hid (HB0.out.trans (hb.mono HB0.out.size))
    have HRS := Lib.hid hrs; have HRN := Lib.hid hrn
    clear hb hrs hrn HCL
    go_wp2
    go_ret
    rw [HR2.out]
    exact ⟨ra, rn, rc, rfl, HRN.out, HRS.out, HB1.out⟩
  obtain ⟨k, hk⟩ : ∃ k, k = Rm.low col l := ⟨_, rfl⟩
  have hkl : k ≤ n := by have := Rm.low_le col l; omega
  have HBL : Hid (Calls Tryd.prog 40 #[.slice a n cap, .int .i64 col] W0 fun e w' => e = .returned (.int .i64 (k : Int)) ∧ W0 = w') := by rw [hk]; exact row_below a n cap l col W0 HV.out (by unfold maxLen; omega)
  obtain ⟨ba, bd, hbr, hbs⟩ := HV.out.upto k hkl (by omega)
  obtain ⟨ea, ed, her, hes⟩ := HV.out.from_ k hkl (by omega)
  have HBR := Lib.hid hbr; have HER := Lib.hid her
  have HSET : Hid (R = l.take k ++ (if f then [⟨col, ⟨vk, vn, vc, vs⟩⟩] else []) ++ Rm.rst col (l.drop k)) := by
    show _ = _
    rw [HRR.out, hk]; unfold Rm.set; rw [if_neg h0, Rm.ins_eq, HO.out]
  clear hbr her HRR HO hk
  have h00 : ¬ col < 0 := h0
  go_enter Tryd.func20, Tryd.ntmps20
  go_wp2_with (rw [← HQ.out.2])
  refine HBL.out.mono ?_
  rintro e w1 ⟨rfl, rfl⟩
  clear HBL
  go_wp2_with fail
  go_quiet (fail)
  obtain ⟨W1, hW1⟩ : ∃ W1, W1 = W0.drewN nq := ⟨_, rfl⟩
  rw [← hW1]
  rw [← HQ.out.1]
  have hbn : Below W0.heap.size W0 W1 := by rw [hW1]; exact below_nr (Below.refl _ _) nq
  have HB1 := Lib.hid (HB0.out.trans (hbn.mono HB0.out.size))
  have HX1 := Lib.hid (HX0.out.keep hbn)
  have HBR1 := Lib.hid (HBR.out.keep hbn)
  have HER1 := Lib.hid (HER.out.keep hbn)
  have HE1 := Lib.hid (HE.out.keep hbn)
  have x0 := HX1.out.bx.c0; have x1 := HX1.out.bx.c1; have x2 := HX1.out.bx.c2; have x3 := HX1.out.bx.c3
  clear hbn hW1 HB0 HX0 HBR HER HE HV hbs hes
  by_cases hkn : k < n
  · have hkL : k < l.length := by omega
    have hdr : l.drop k = l[k] :: l.drop (k + 1) := List.drop_eq_getElem_cons hkL
    have hk0 : 0 < (l.drop k).length := by rw [List.length_drop]; omega
    obtain ⟨g, off, hga, -, hg, hb⟩ := HER1.out.at 0 hk0
    have hb0 : (l.drop k)[0]'hk0 = l[k] := by rw [List.getElem_drop]; rfl
    rw [hb0] at hb
    obtain ⟨c, hc⟩ : ∃ c, c = l[k] := ⟨_, rfl⟩
    rw [← hc] at hb hdr
    obtain ⟨cl, cv⟩ := c
    have hb00 := hb.c0
    dsimp only at hb00
    have hlen : (0 : Int) < ((n - k : Nat) : Int) := by omega
    have hlen2 : 0 < n - k := by omega
    subst hga
    rw [Nat.zero_mul, Nat.add_zero] at hb00
    clear hb hc hb0 hk0
    have HDR := Lib.hid hdr
    clear hdr
    by_cases hcc : cl = col
    · subst hcc
      have HZL : Hid (l.drop (k + 1) = Rm.rst cl (l.drop k)) := by show _ = _; rw [HDR.out, Rm.rst, if_pos rfl]
      have hed : n - k ≤ ed := by
        rcases HER1.out with ⟨a', c', e, e2⟩ | ⟨g', off', cap', e, hc, _⟩
        · injection e with _ e _; omega
        · injection e with _ e1 e2; omega
      obtain ⟨zl, hzl⟩ : ∃ zl, zl = l.drop (k + 1) := ⟨_, rfl⟩
      by_cases hd1 : ed = 1
      · subst hd1
        have hn1 : n - k = 1 := by omega
        have HZZ : Hid (Rs (.slice (some ⟨g, off, none⟩) (n - k - 1) 0) zl W1) := by
          show Rs _ _ _
          rw [hn1, hzl, List.drop_of_length_le (by omega)]; exact .inl ⟨_, _, rfl, rfl⟩
        rw [← hzl] at HZL
        have hzb : n - k - 1 ≤ 1000 := by omega
        clear hzl HDR hed hn1
        go_wp2_with fail
        refine (HF.out _ HE1.out).mono ?_
        rintro e w2 ⟨rfl, hb⟩
        have HB2 := Lib.hid (HB1.out.trans (hb.mono HB1.out.size))
        have HBR2 := Lib.hid (HBR1.out.keep hb)
        have HZZ2 := Lib.hid (HZZ.out.keep hb)
        have HX2 := Lib.hid (HX1.out.keep hb)
        have hs2 := HB2.out.size
        clear hb HB1 HBR1 HZZ HX1 HE1 HF x0 x1 x2 x3
        have x0 := HX2.out.bx.c0; have x1 := HX2.out.bx.c1; have x2 := HX2.out.bx.c2; have x3 := HX2.out.bx.c3
        cases f
        · have HC := Lib.hid (row_concat (c := 2) (m := 2) rfl (by omega) (rss_two (W := w2) (x := (ba, k, bd, l.take k)) (y := (some ⟨g, off, none⟩, n - k - 1, 0, zl)) HBR2.out HZZ2.out (by show k ≤ 1000; omega) (by show n - k - 1 ≤ 1000; omega)))
          dsimp only at HC
          go_wp2_with fail
          refine HC.out.mono ?_
          rintro e w3 ⟨ra, rn, rc, rfl, hrn, hrs, hb⟩
          have HB3 := Lib.hid ((HB2.out.alloc hs2 _).trans (hb.mono (by simp; omega)))
          have HRS := Lib.hid hrs; have HRN := Lib.hid hrn
          clear hb hrs hrn HC
          go_wp2
          go_ret
          refine ⟨ra, rn, rc, rfl, ?_, ?_, HB3.out⟩
          · rw [HRN.out, HSET.out, ← HZL.out]; simp
          · have := HRS.out
            rw [HSET.out, ← HZL.out]; simpa using this
        · obtain ⟨W3, hW3⟩ : ∃ W3, W3 = w2.alloc (.cells #[.int .i64 cl, .int .i64 vk, .int .i64 vn, .int .i64 vc, .string vs] 38) := ⟨_, rfl⟩
          have hb3 : Below w2.heap.size w2 W3 := by rw [hW3]; exact one_r _ _
          obtain ⟨q3, hq3⟩ : ∃ q3, q3 = w2.heap.size := ⟨_, rfl⟩
          have HM : Hid (Rs (.slice (some ⟨q3, 0, none⟩) 1 1) [⟨cl, ⟨vk, vn, vc, vs⟩⟩] W3) := by
            show Rs _ _ _
            rw [hW3, hq3]
            exact Rs.of_own (own_litr w2 ⟨cl, ⟨vk, vn, vc, vs⟩⟩ 0 (Nat.zero_le _))
          have HB3 := Lib.hid (HB2.out.trans (hb3.mono hs2))
          have HC := Lib.hid (row_concat (c := 3) (m := 3) rfl (by omega) (rss_three (W := W3) (x := (ba, k, bd, l.take k)) (y := (some ⟨q3, 0, none⟩, 1, 1, [⟨cl, ⟨vk, vn, vc, vs⟩⟩])) (z := (some ⟨g, off, none⟩, n - k - 1, 0, zl)) (HBR2.out.keep hb3) HM.out (HZZ2.out.keep hb3) (by show k ≤ 1000; omega) (by show 1 ≤ 1000; omega) (by show n - k - 1 ≤ 1000; omega)))
          dsimp only at HC
          have HW3 := Lib.hid hW3; have HQ3 := Lib.hid hq3
          clear hb3 hW3 hq3
          go_wp2_with (rw [← HW3.out, ← HQ3.out])
          refine HC.out.mono ?_
          rintro e w4 ⟨ra, rn, rc, rfl, hrn, hrs, hb⟩
          have HB4 := Lib.hid ((HB3.out.alloc HB3.out.size _).trans (hb.mono (by have := HB3.out.size; simp; omega)))
          have HRS := Lib.hid hrs; have HRN := Lib.hid hrn
          clear hb hrs hrn HC
          go_wp2
          go_ret
          refine ⟨ra, rn, rc, rfl, ?_, ?_, HB4.out⟩
          · rw [HRN.out, HSET.out, ← HZL.out]; simp
          · have := HRS.out
            rw [HSET.out, ← HZL.out]; simpa using this
      · have HZZ : Hid (Rs (.slice (some ⟨g, off + 5, none⟩) (n - k - 1) (ed - 1)) zl W1) := by
          have := HER1.out.part (k := 1) (m := n - k - 1) (cap' := ed - 1) (by omega) (by omega)
          rw [List.drop_drop, List.take_of_length_le (by rw [List.length_drop]; omega)] at this
          rw [hzl]; exact this
        rw [← hzl] at HZL
        have hzb : n - k - 1 ≤ 1000 := by omega
        clear hzl HDR hed
        go_wp2_with fail
        refine (HF.out _ HE1.out).mono ?_
        rintro e w2 ⟨rfl, hb⟩
        have HB2 := Lib.hid (HB1.out.trans (hb.mono HB1.out.size))
        have HBR2 := Lib.hid (HBR1.out.keep hb)
        have HZZ2 := Lib.hid (HZZ.out.keep hb)
        have HX2 := Lib.hid (HX1.out.keep hb)
        have hs2 := HB2.out.size
        clear hb HB1 HBR1 HZZ HX1 HE1 HF x0 x1 x2 x3
        have x0 := HX2.out.bx.c0; have x1 := HX2.out.bx.c1; have x2 := HX2.out.bx.c2; have x3 := HX2.out.bx.c3
        cases f
        · have HC := Lib.hid (row_concat (c := 2) (m := 2) rfl (by omega) (rss_two (W := w2) (x := (ba, k, bd, l.take k)) (y := (some ⟨g, off + 5, none⟩, n - k - 1, ed - 1, zl)) HBR2.out HZZ2.out (by show k ≤ 1000; omega) (by show n - k - 1 ≤ 1000; omega)))
          dsimp only at HC
          go_wp2_with fail
          refine HC.out.mono ?_
          rintro e w3 ⟨ra, rn, rc, rfl, hrn, hrs, hb⟩
          have HB3 := Lib.hid ((HB2.out.alloc hs2 _).trans (hb.mono (by simp; omega)))
          have HRS := Lib.hid hrs; have HRN := Lib.hid hrn
          clear hb hrs hrn HC
          go_wp2
          go_ret
          refine ⟨ra, rn, rc, rfl, ?_, ?_, HB3.out⟩
          · rw [HRN.out, HSET.out, ← HZL.out]; simp
          · have := HRS.out
            rw [HSET.out, ← HZL.out]; simpa using this
        · obtain ⟨W3, hW3⟩ : ∃ W3, W3 = w2.alloc (.cells #[.int .i64 cl, .int .i64 vk, .int .i64 vn, .int .i64 vc, .string vs] 38) := ⟨_, rfl⟩
          have hb3 : Below w2.heap.size w2 W3 := by rw [hW3]; exact one_r _ _
          obtain ⟨q3, hq3⟩ : ∃ q3, q3 = w2.heap.size := ⟨_, rfl⟩
          have HM : Hid (Rs (.slice (some ⟨q3, 0, none⟩) 1 1) [⟨cl, ⟨vk, vn, vc, vs⟩⟩] W3) := by
            show Rs _ _ _
            rw [hW3, hq3]
            exact Rs.of_own (own_litr w2 ⟨cl, ⟨vk, vn, vc, vs⟩⟩ 0 (Nat.zero_le _))
          have HB3 := Lib.hid (HB2.out.trans (hb3.mono hs2))
          have HC := Lib.hid (row_concat (c := 3) (m := 3) rfl (by omega) (rss_three (W := W3) (x := (ba, k, bd, l.take k)) (y := (some ⟨q3, 0, none⟩, 1, 1, [⟨cl, ⟨vk, vn, vc, vs⟩⟩])) (z := (some ⟨g, off + 5, none⟩, n - k - 1, ed - 1, zl)) (HBR2.out.keep hb3) HM.out (HZZ2.out.keep hb3) (by show k ≤ 1000; omega) (by show 1 ≤ 1000; omega) (by show n - k - 1 ≤ 1000; omega)))
          dsimp only at HC
          have HW3 := Lib.hid hW3; have HQ3 := Lib.hid hq3
          clear hb3 hW3 hq3
          go_wp2_with (rw [← HW3.out, ← HQ3.out])
          refine HC.out.mono ?_
          rintro e w4 ⟨ra, rn, rc, rfl, hrn, hrs, hb⟩
          have HB4 := Lib.hid ((HB3.out.alloc HB3.out.size _).trans (hb.mono (by have := HB3.out.size; simp; omega)))
          have HRS := Lib.hid hrs; have HRN := Lib.hid hrn
          clear hb hrs hrn HC
          go_wp2
          go_ret
          refine ⟨ra, rn, rc, rfl, ?_, ?_, HB4.out⟩
          · rw [HRN.out, HSET.out, ← HZL.out]; simp
          · have := HRS.out
            rw [HSET.out, ← HZL.out]; simpa using this
    · have q1 : (cl == col) = false := by simpa using hcc
      have HZL : Hid (l.drop k = Rm.rst col (l.drop k)) := by show _ = _; rw [HDR.out, Rm.rst, if_neg hcc]
      obtain ⟨zl, hzl⟩ : ∃ zl, zl = l.drop k := ⟨_, rfl⟩
      have HZZ : Hid (Rs (.slice (some ⟨g, off, none⟩) (n - k) ed) zl W1) := by rw [hzl]; exact HER1.out
      have HZL2 : Hid (zl = Rm.rst col (l.drop k)) := by show _ = _; rw [hzl]; exact HZL.out
      clear HZL
      have HZL := HZL2
      clear HZL2 hzl HDR hcc
      go_wp2_with fail
      refine (HF.out _ HE1.out).mono ?_
      rintro e w2 ⟨rfl, hb⟩
      have HB2 := Lib.hid (HB1.out.trans (hb.mono HB1.out.size))
      have HBR2 := Lib.hid (HBR1.out.keep hb)
      have HZZ2 := Lib.hid (HZZ.out.keep hb)
      have HX2 := Lib.hid (HX1.out.keep hb)
      have hs2 := HB2.out.size
      clear hb HB1 HBR1 HZZ HX1 HE1 HF x0 x1 x2 x3
      have x0 := HX2.out.bx.c0; have x1 := HX2.out.bx.c1; have x2 := HX2.out.bx.c2; have x3 := HX2.out.bx.c3
      cases f
      · have HC := Lib.hid (row_concat (c := 2) (m := 2) rfl (by omega) (rss_two (W := w2) (x := (ba, k, bd, l.take k)) (y := (some ⟨g, off, none⟩, n - k, ed, zl)) HBR2.out HZZ2.out (by show k ≤ 1000; omega) (by show n - k ≤ 1000; omega)))
        dsimp only at HC
        go_wp2_with fail
        refine HC.out.mono ?_
        rintro e w3 ⟨ra, rn, rc, rfl, hrn, hrs, hb⟩
        have HB3 := Lib.hid ((HB2.out.alloc hs2 _).trans (hb.mono (by simp; omega)))
        have HRS := Lib.hid hrs; have HRN := Lib.hid hrn
        clear hb hrs hrn HC
        go_wp2
        go_ret
        refine ⟨ra, rn, rc, rfl, ?_, ?_, HB3.out⟩
        · rw [HRN.out, HSET.out, ← HZL.out]; simp
        · have := HRS.out
          rw [HSET.out, ← HZL.out]; simpa using this
      · obtain ⟨W3, hW3⟩ : ∃ W3, W3 = w2.alloc (.cells #[.int .i64 col, .int .i64 vk, .int .i64 vn, .int .i64 vc, .string vs] 38) := ⟨_, rfl⟩
        have hb3 : Below w2.heap.size w2 W3 := by rw [hW3]; exact one_r _ _
        obtain ⟨q3, hq3⟩ : ∃ q3, q3 = w2.heap.size := ⟨_, rfl⟩
        have HM : Hid (Rs (.slice (some ⟨q3, 0, none⟩) 1 1) [⟨col, ⟨vk, vn, vc, vs⟩⟩] W3) := by
          show Rs _ _ _
          rw [hW3, hq3]
          exact Rs.of_own (own_litr w2 ⟨col, ⟨vk, vn, vc, vs⟩⟩ 0 (Nat.zero_le _))
        have HB3 := Lib.hid (HB2.out.trans (hb3.mono hs2))
        have HC := Lib.hid (row_concat (c := 3) (m := 3) rfl (by omega) (rss_three (W := W3) (x := (ba, k, bd, l.take k)) (y := (some ⟨q3, 0, none⟩, 1, 1, [⟨col, ⟨vk, vn, vc, vs⟩⟩])) (z := (some ⟨g, off, none⟩, n - k, ed, zl)) (HBR2.out.keep hb3) HM.out (HZZ2.out.keep hb3) (by show k ≤ 1000; omega) (by show 1 ≤ 1000; omega) (by show n - k ≤ 1000; omega)))
        dsimp only at HC
        have HW3 := Lib.hid hW3; have HQ3 := Lib.hid hq3
        clear hb3 hW3 hq3
        go_wp2_with (rw [← HW3.out, ← HQ3.out])
        refine HC.out.mono ?_
        rintro e w4 ⟨ra, rn, rc, rfl, hrn, hrs, hb⟩
        have HB4 := Lib.hid ((HB3.out.alloc HB3.out.size _).trans (hb.mono (by have := HB3.out.size; simp; omega)))
        have HRS := Lib.hid hrs; have HRN := Lib.hid hrn
        clear hb hrs hrn HC
        go_wp2
        go_ret
        refine ⟨ra, rn, rc, rfl, ?_, ?_, HB4.out⟩
        · rw [HRN.out, HSET.out, ← HZL.out]; simp
        · have := HRS.out
          rw [HSET.out, ← HZL.out]; simpa using this
  · have hkn2 : n - k = 0 := by omega
    have hlen : ¬ (0 : Int) < ((n - k : Nat) : Int) := by omega
    have HZL : Hid (l.drop k = Rm.rst col (l.drop k)) := by show _ = _; rw [List.drop_of_length_le (by omega)]; rfl
    obtain ⟨zl, hzl⟩ : ∃ zl, zl = l.drop k := ⟨_, rfl⟩
    have HZZ : Hid (Rs (.slice ea 0 ed) zl W1) := by show Rs _ _ _; rw [hzl, ← hkn2]; exact HER1.out
    have HZL2 : Hid (zl = Rm.rst col (l.drop k)) := by show _ = _; rw [hzl]; exact HZL.out
    clear HZL
    have HZL := HZL2
    clear HZL2 hzl hkn
    go_wp2_with fail
    refine (HF.out _ HE1.out).mono ?_
    rintro e w2 ⟨rfl, hb⟩
    have HB2 := Lib.hid (HB1.out.trans (hb.mono HB1.out.size))
    have HBR2 := Lib.hid (HBR1.out.keep hb)
    have HZZ2 := Lib.hid (HZZ.out.keep hb)
    have HX2 := Lib.hid (HX1.out.keep hb)
    have hs2 := HB2.out.size
    clear hb HB1 HBR1 HZZ HX1 HE1 HF x0 x1 x2 x3
    have x0 := HX2.out.bx.c0; have x1 := HX2.out.bx.c1; have x2 := HX2.out.bx.c2; have x3 := HX2.out.bx.c3
    cases f
    · have HC := Lib.hid (row_concat (c := 2) (m := 2) rfl (by omega) (rss_two (W := w2) (x := (ba, k, bd, l.take k)) (y := (ea, 0, ed, zl)) HBR2.out HZZ2.out (by show k ≤ 1000; omega) (by show 0 ≤ 1000; omega)))
      dsimp only at HC
      go_wp2_with fail
      refine HC.out.mono ?_
      rintro e w3 ⟨ra, rn, rc, rfl, hrn, hrs, hb⟩
      have HB3 := Lib.hid ((HB2.out.alloc hs2 _).trans (hb.mono (by simp; omega)))
      have HRS := Lib.hid hrs; have HRN := Lib.hid hrn
      clear hb hrs hrn HC
      go_wp2
      go_ret
      refine ⟨ra, rn, rc, rfl, ?_, ?_, HB3.out⟩
      · rw [HRN.out, HSET.out, ← HZL.out]; simp
      · have := HRS.out
        rw [HSET.out, ← HZL.out]; simpa using this
    · obtain ⟨W3, hW3⟩ : ∃ W3, W3 = w2.alloc (.cells #[.int .i64 col, .int .i64 vk, .int .i64 vn, .int .i64 vc, .string vs] 38) := ⟨_, rfl⟩
      have hb3 : Below w2.heap.size w2 W3 := by rw [hW3]; exact one_r _ _
      obtain ⟨q3, hq3⟩ : ∃ q3, q3 = w2.heap.size := ⟨_, rfl⟩
      have HM : Hid (Rs (.slice (some ⟨q3, 0, none⟩) 1 1) [⟨col, ⟨vk, vn, vc, vs⟩⟩] W3) := by
        show Rs _ _ _
        rw [hW3, hq3]
        exact Rs.of_own (own_litr w2 ⟨col, ⟨vk, vn, vc, vs⟩⟩ 0 (Nat.zero_le _))
      have HB3 := Lib.hid (HB2.out.trans (hb3.mono hs2))
      have HC := Lib.hid (row_concat (c := 3) (m := 3) rfl (by omega) (rss_three (W := W3) (x := (ba, k, bd, l.take k)) (y := (some ⟨q3, 0, none⟩, 1, 1, [⟨col, ⟨vk, vn, vc, vs⟩⟩])) (z := (ea, 0, ed, zl)) (HBR2.out.keep hb3) HM.out (HZZ2.out.keep hb3) (by show k ≤ 1000; omega) (by show 1 ≤ 1000; omega) (by show 0 ≤ 1000; omega)))
      dsimp only at HC
      have HW3 := Lib.hid hW3; have HQ3 := Lib.hid hq3
      clear hb3 hW3 hq3
      go_wp2_with (rw [← HW3.out, ← HQ3.out])
      refine HC.out.mono ?_
      rintro e w4 ⟨ra, rn, rc, rfl, hrn, hrs, hb⟩
      have HB4 := Lib.hid ((HB3.out.alloc HB3.out.size _).trans (hb.mono (by have := HB3.out.size; simp; omega)))
      have HRS := Lib.hid hrs; have HRN := Lib.hid hrn
      clear hb hrs hrn HC
      go_wp2
      go_ret
      refine ⟨ra, rn, rc, rfl, ?_, ?_, HB4.out⟩
      · rw [HRN.out, HSET.out, ← HZL.out]; simp
      · have := HRS.out
        rw [HSET.out, ← HZL.out]; simpa using this
end Go.Proofs.YtmipomglbccjbaaDoor
