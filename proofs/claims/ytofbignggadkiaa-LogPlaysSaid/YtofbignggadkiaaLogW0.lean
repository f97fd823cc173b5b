/- Layer 7: first: what must be answered ahead of everything else. -/
import Derived.Test.YtofbignggadkiaaLogCon
import Derived.Lib.SlBytesConst
import Derived.BigQuiet
import Derived.OrdersHeld
import Derived.OwnWalk
import Derived.Laws.OwnMore
namespace Go.Proofs.Ytofbignggadkiaa
open Go.RowKit

theorem yt_mk (w : World) (l : List UInt8) (n : Nat) (C : Array Value) (fr : Nat × Nat) (h : C.toList = yc l) (hn : n = l.length) : Yt (.slice (some ⟨w.heap.size, 0, none⟩) n n) l (w.alloc (.cells C 5 fr)) := by
  subst hn
  refine .inr ⟨w.heap.size, 0, l.length, rfl, Nat.le_refl _, by simp, fun j hj => ?_⟩
  rw [Nat.zero_add, World.cell?_alloc_mark, ← Array.getElem?_toList, h, yc_get]
  simp [List.getD, hj]
theorem it_lit {w : World} {cs : Array Value} {l : List Int} (h : cs.toList = l.map fun n => Value.int .i64 n) : It (.slice (some ⟨w.heap.size, 0, none⟩) l.length l.length) l (w.alloc (.cells cs 3)) := by
  refine .inr ⟨w.heap.size, 0, l.length, rfl, Nat.le_refl _, by simp, fun j hj => ?_⟩
  rw [Lib.cell_of_heap (heap_alloc_new w _), Nat.zero_add, ← Array.getElem?_toList, h]
  simp [List.getD, hj]
theorem one_bs (w : World) (x : Obj) : Below w.heap.size w (w.alloc x) := (Below.refl _ _).alloc (Nat.le_refl _) _
theorem info1z : (Try.prog.info? 5).map (fun i => (i.zero, i.size, i.bytes)) = some (some (.int .u8 0), 1, 1) := by kernel_rfl
/-- a row of noughts -/
def Zr (n : Nat) : Array Value := madeCells #[Value.int .u8 0] n
theorem mk_bytes (n : Nat) (hn : n ≤ 1000000) (w : World) : (Instr.makeSlice 39 (.int .i64 (n : Int)) (.int .i64 (n : Int))).run Try.prog w = .ok (.slice (some ⟨w.heap.size, 0, none⟩) n n) (w.alloc (.cells (Zr n) 5)) := by
  obtain ⟨i0, hi0, hz0, hz1, hz2⟩ := info_of info1z
  have h := run_make (P := Try.prog) w 39 5 i0 _ Try.underlying39 hi0 hz0 .i64 .i64 (n : Int) (n : Int) (by omega) (Int.le_refl _) (by rw [hz2]; omega) (by omega)
  rw [hz1] at h
  rw [h, Int.toNat_natCast, Nat.mul_one]
  rfl
theorem zr_yc (n : Nat) : (Zr n).toList = yc (List.replicate n 0) := by
  rw [Zr, toList_madeCells_one]; simp [yc]
namespace Lm
def q1 : Lg := ⟨10, ⟨1, 1, 0, []⟩, [], 0, false⟩
def e1 : Sm.Dv := (open_ (Sm.new 12) 10).2.1
def q2 : Lg := ⟨10, ⟨1, 1, 0, []⟩, [[97]], 1, false⟩
def e2 : Sm.Dv := (append q1 e1 [97]).2.1
def e3 : Sm.Dv := Sm.bound e2 3
def q4 : Lg := (append q2 e3 (List.replicate 100 0)).1
def e4 : Sm.Dv := (append q2 e3 (List.replicate 100 0)).2.1
def e5 : Sm.Dv := Sm.crash e4 [64, 0, 64]
def q6 : Lg := ⟨10, ⟨2, 2, 0, []⟩, [[97]], 1, false⟩
def e6 : Sm.Dv := (open_ e5 10).2.1
def q7 : Lg := ⟨10, ⟨3, 3, 3, [104, 101, 97, 100]⟩, [], 0, false⟩
def e7 : Sm.Dv := (reset q6 e6 [104, 101, 97, 100]).2.1
set_option maxRecDepth 100000 in
theorem first_plain : (open_ (Sm.new 12) 10).1 = some q1 ∧ (append q1 e1 [97]).1 = q2 ∧ (append q1 e1 [97]).2.2 = 0 ∧ (append q2 e3 (List.replicate 100 0)).2.2 = 60 ∧ (open_ e5 10).1 = some q6 ∧ (reset q6 e6 [104, 101, 97, 100]).1 = q7 ∧ (reset q6 e6 [104, 101, 97, 100]).2.2 = 0 := ⟨by kernel_rfl, by kernel_rfl, by kernel_rfl, by kernel_rfl, by kernel_rfl, by kernel_rfl, by kernel_rfl⟩
set_option maxRecDepth 100000 in
theorem first_nums : (e1.kept.length = 12 ∧ e1.ws.length = 0 ∧ e1.calls = 2 ∧ e1.left = -1) ∧ (e2.kept.length = 12 ∧ e2.ws.length = 0 ∧ e2.calls = 4 ∧ e2.left = -1) ∧ (e4.kept.length = 12 ∧ e4.ws.length = 3 ∧ e4.calls = 7 ∧ e4.left = 0) ∧ (e6.kept.length = 12 ∧ e6.ws.length = 0 ∧ e6.calls = 9 ∧ e6.left = -1) := by
  refine ⟨⟨?_, ?_, ?_, ?_⟩, ⟨?_, ?_, ?_, ?_⟩, ⟨?_, ?_, ?_, ?_⟩, ⟨?_, ?_, ?_, ?_⟩⟩ <;> kernel_rfl
end Lm
theorem dl_of {d : Sm.Dv} {k n : Nat} {c l : Int} (h : d.kept.length = k ∧ d.ws.length = n ∧ d.calls = c ∧ d.left = l) (hn : n ≤ 10) (hk : k ≤ 200) (c0 : 0 ≤ c) (c1 : c ≤ 100) (l0 : -1 ≤ l) (l1 : l ≤ 100) : Dl d := by
  obtain ⟨h1, h2, h3, h4⟩ := h
  exact ⟨by omega, by omega, by omega, by omega, by omega, by omega⟩
theorem lok_q {L : Lm.Lg} {d : Sm.Dv} (hk : d.kept.length = 12) (hf : L.frames = 10) (ha : L.at_ ≤ 1) (he : L.h.epoch ≤ 10) (hb : L.h.base ≤ L.h.epoch) (hh : L.h.body.length ≤ 32) (hl : L.l.length ≤ L.at_) (hm : ∀ b ∈ L.l, b.length ≤ 46) : Lok L d :=
  ⟨by omega, by omega, by omega, by omega, hb, hh, hl, fun b h => by have := hm b h; omega⟩

set_option maxHeartbeats 4000000 in
set_option maxRecDepth 100000 in
theorem walk_first {Dev : Nat → Sm.Dv → (Nat → Prop) → World → Prop} {Log : Nat → Nat → Lm.Lg → (Nat → Prop) → World → Prop} (V : SecCon Dev) (U : LogCon Dev Log) (w : World) : Calls Try.prog 4 #[] w fun e w' => e = .returned (.bool true) ∧ Below w.heap.size w w' := by
  have HV := Lib.hid V
  have HU := Lib.hid U
  obtain ⟨p1, p2, p3, p4, p5, p6, p7⟩ := Lm.first_plain
  have P1 := Lib.hid p1; have P2 := Lib.hid p2; have P3 := Lib.hid p3; have P4 := Lib.hid p4; have P5 := Lib.hid p5; have P6 := Lib.hid p6; have P7 := Lib.hid p7
  have HN := Lib.hid Lm.first_nums
  clear p1 p2 p3 p4 p5 p6 p7 V U
  have kc := fun (w : World) (C : Array Value) (n c : Nat) => Lib.run_convert_bytes_const (P := Try.prog) w 39 5 C n c Try.underlying39 Try.underlying5
  have hmk : ∀ w, (Instr.makeSlice 39 (.int .i64 100) (.int .i64 100)).run Try.prog w = .ok (.slice (some ⟨w.heap.size, 0, none⟩) 100 100) (w.alloc (.cells (Zr 100) 5)) := fun w => mk_bytes 100 (by omega) w
  go_enter Try.func4, Try.ntmps4
  go_wp2_with fail
  refine (HV.out.new 12 w (by omega) (by omega)).mono ?_
  rintro e w1 ⟨g, F, rfl, hd, hF, hb⟩
  have HD := Lib.hid hd; have HF := Lib.hid hF; have HB := Lib.hid hb
  clear hd hF hb
  go_wp2_with fail
  refine (HU.out.openOk 10 Lm.q1 HD.out ⟨by decide, by decide, by decide, by decide, by decide, by decide⟩ ⟨by decide, by decide⟩ P1.out).mono ?_
  rintro e w2 ⟨gl, F2, G2, rfl, hd, hl, ho, hf, hg, ha⟩
  have HL2 : Hid (Ld Dev Log w.heap.size g gl Lm.e1 Lm.q1 F2 G2 w2) := ⟨hd, hl, fun k hk => by rcases hf k hk with h | h; exact HF.out k h; have := HB.out.size; omega, fun k hk => by have := hg k hk; have := HB.out.size; omega, ha⟩
  have HB2 : Hid (Below w.heap.size w w2) := HB.out.trans (only_bel ho HB.out.size (fun k hk hp => by have := HF.out k hp; omega))
  clear hd hl ho hf hg ha HD HB HF
  go_wp2_with fail
  refine ((HL2.out.below HV.out HU.out (one_bs w2 _)).append HU.out (dl_of HN.out.1 (by omega) (by omega) (by omega) (by omega) (by omega) (by omega)) (lok_q HN.out.1.1 rfl (by decide) (by decide) (by decide) (by decide) (by decide) (by decide)) (HB2.out.trans ((one_bs w2 _).mono HB2.out.size)) (by have := HB2.out.size; simp; omega) (yt_mk w2 [97] 1 _ _ rfl rfl) (by decide) (fun _ x e => by injection e with e; subst e; exact HL2.out.far HV.out HU.out _ (.inl (Nat.le_refl _))) (L' := Lm.q2) (d' := Lm.e2) (code := 0) (Prod.ext P2.out (Prod.ext rfl P3.out))).mono ?_
  rintro e w3 ⟨rfl, F3, G3, HL3, HB3, _⟩
  clear HL2 HB2
  go_wp2_with fail
  refine (HU.out.room HL3.out.l (lok_q (d := Lm.e2) HN.out.2.1.1 rfl (by decide) (by decide) (by decide) (by decide) (by decide) (by decide))).mono ?_
  rintro e w4 ⟨rfl, hb⟩
  have HL4 := Lib.hid (HL3.out.below HV.out HU.out hb); have HB4 := Lib.hid (HB3.out.trans (hb.mono HB3.out.size))
  rw [show (if Lm.q2.down = true then (0 : Int) else (Lm.q2.frames : Int) - (Lm.q2.at_ : Int)) = 9 from rfl]
  clear hb HL3 HB3
  go_wp2_with fail
  refine (HL4.out.limit 3 HV.out HU.out ⟨by decide, by decide⟩ HB4.out HB4.out.size).mono ?_
  rintro e w5 ⟨rfl, F5, HL5, HB5, _⟩
  replace HL5 : Hid (Ld Dev Log w.heap.size g gl Lm.e3 Lm.q2 F5 G3 w5) := HL5
  clear HL4 HB4
  go_wp2_with fail
  refine ((HL5.out.below HV.out HU.out (one_bs w5 _)).append HU.out (dl_of (d := Lm.e3) (l := 3) ⟨HN.out.2.1.1, HN.out.2.1.2.1, HN.out.2.1.2.2.1, rfl⟩ (by omega) (by omega) (by omega) (by omega) (by omega) (by omega)) (lok_q (d := Lm.e3) HN.out.2.1.1 rfl (by decide) (by decide) (by decide) (by decide) (by decide) (by decide)) (HB5.out.trans ((one_bs w5 _).mono HB5.out.size)) (by have := HB5.out.size; simp; omega) (yt_mk w5 (List.replicate 100 0) 100 _ _ (zr_yc 100) (by simp)) (by decide) (fun _ x e => by injection e with e; subst e; exact HL5.out.far HV.out HU.out _ (.inl (Nat.le_refl _))) (L' := Lm.q4) (d' := Lm.e4) (code := 60) (Prod.ext rfl (Prod.ext rfl P4.out))).mono ?_
  rintro e w6 ⟨rfl, F6, G6, HL6, HB6, _⟩
  clear HL5 HB5
  go_wp2_with fail
  refine ((HL6.out.below HV.out HU.out (one_bs w6 _)).crash (some ⟨w6.heap.size, 0, none⟩) 3 3 [64, 0, 64] HV.out HU.out (by have := HN.out.2.2.1.2.1; omega) (it_lit (w := w6) (cs := #[.int .i64 64, .int .i64 0, .int .i64 64]) (l := [64, 0, 64]) rfl) (by decide) (fun _ x e => by injection e with e; subst e; exact (HL6.out.far HV.out HU.out _ (.inl (Nat.le_refl _))).1) (HB6.out.trans ((one_bs w6 _).mono HB6.out.size)) (by have := HB6.out.size; simp; omega)).mono ?_
  rintro e w7 ⟨rfl, F7, HL7, HB7, _⟩
  replace HL7 : Hid (Ld Dev Log w.heap.size g gl Lm.e5 Lm.q4 F7 G6 w7) := HL7
  clear HL6 HB6
  go_wp2_with fail
  refine (HL7.out.open (L' := Lm.q6) (d' := Lm.e6) HV.out HU.out (dl_of (d := Lm.e5) (k := 12) (n := 0) (c := 7) (l := -1) ⟨by show (Sm.torn _ _ _).length = 12; rw [Sm.torn_len]; exact HN.out.2.2.1.1, rfl, HN.out.2.2.1.2.2.1, rfl⟩ (by omega) (by omega) (by omega) (by omega) (by omega) (by omega)) ⟨by decide, by decide⟩ HB7.out HB7.out.size (Prod.ext P5.out (Prod.ext rfl ((Lm.open_code Lm.e5 10).resolve_left (by rw [P5.out]; exact fun e => by cases e))))).mono ?_
  rintro e w8 ⟨gm, F8, G8, rfl, HL8, HB8, _, _⟩
  clear HL7 HB7
  go_wp2_with fail
  refine (HU.out.batches HL8.out.l (lok_q (d := Lm.e6) HN.out.2.2.2.1 rfl (by decide) (by decide) (by decide) (by decide) (by decide) (by decide)) (by have := HN.out.2.2.2.1; omega)).mono ?_
  rintro e w9 ⟨a9, n9, c9, rfl, hbs, hb⟩
  have HL9 := Lib.hid (HL8.out.below HV.out HU.out hb); have HB9 := Lib.hid (HB8.out.trans (hb.mono HB8.out.size))
  have HLT := Lib.hid (HL8.out.lt HV.out HU.out)
  have HBS := Lib.hid hbs
  obtain ⟨hn9, _⟩ := hbs
  replace hn9 : n9 = 1 := hn9
  have q9 : ((n9 : Int) == 1) = true := by rw [hn9]; rfl
  have q9a : (0 : Int) < (n9 : Int) := by omega
  have q9b : 0 < n9 := by omega
  clear hb HL8 HB8 hn9
  go_wp2_with fail
  refine ((HL9.out.below HV.out HU.out (one_bs w9 _)).reset HU.out (dl_of HN.out.2.2.2 (by omega) (by omega) (by omega) (by omega) (by omega) (by omega)) (lok_q HN.out.2.2.2.1 rfl (by decide) (by decide) (by decide) (by decide) (by decide) (by decide)) (by decide) (HB9.out.trans ((one_bs w9 _).mono HB9.out.size)) (by have := HB9.out.size; simp; omega) (yt_mk w9 [104, 101, 97, 100] 4 _ _ rfl rfl) (by decide) (fun _ x e => by injection e with e; subst e; exact HL9.out.far HV.out HU.out _ (.inl (Nat.le_refl _))) (L' := Lm.q7) (d' := Lm.e7) (code := 0) (Prod.ext P6.out (Prod.ext rfl P7.out))).mono ?_
  rintro e w10 ⟨rfl, F10, G10, HL10, HB10, HO10⟩
  have hk7 : Lm.e7.kept.length = 12 := by
    have h6 := HN.out.2.2.2
    have := (Lm.reset_grow (g := Lm.q6) (d := Lm.e6) (lok_q h6.1 rfl (by decide) (by decide) (by decide) (by decide) (by decide) (by decide)) [104, 101, 97, 100] (HV.out.ok HL9.out.d) (by omega) (by omega)).1.k
    rw [h6.1] at this; exact this
  have HKK := Lib.hid hk7
  have HK7 := Lib.hid (lok_q (L := Lm.q7) hk7 rfl (by decide) (by decide) (by decide) (by decide) (by decide) (by decide))
  have hbs := (HBS.out.keep (one_bs w9 _)).keepO HO10.out.1 (fun k h1 h2 hp => by have := HLT.out k hp; omega)
  obtain ⟨gb, off, rfl, _, h1c, hgb, a1, n1, c1, hcell, hn1, hy1, _⟩ := hbs.at (j := 0) (by decide)
  replace hn1 : n1 = 1 := hn1
  subst hn1
  rw [Nat.add_zero] at hcell
  have hcv : (convert 39 9 (.slice a1 1 c1)).run Try.prog w10 = .ok (.string ⟨#[97]⟩) w10 := Yt.str hy1
  clear hbs hk7 HBS HLT HO10 HL9 HB9 hy1
  go_wp2_with fail
  refine (HU.out.head HL10.out.l HK7.out).mono ?_
  rintro e w11 ⟨a2, n2, c2, rfl, hyt, hb⟩
  obtain ⟨hn2, hy2, _⟩ := hyt
  replace hn2 : n2 = 4 := hn2
  subst hn2
  have hcv2 : (convert 39 9 (.slice a2 4 c2)).run Try.prog w11 = .ok (.string ⟨#[104, 101, 97, 100]⟩) w11 := Yt.str hy2
  have HL11 := Lib.hid (HL10.out.below HV.out HU.out hb); have HB11 := Lib.hid (HB10.out.trans (hb.mono HB10.out.size))
  clear hb HL10 HB10 hy2
  go_wp2_with fail
  refine (HU.out.batches HL11.out.l HK7.out (by have := HKK.out; omega)).mono ?_
  rintro e w12 ⟨a3, n3, c3, rfl, hbs, hb⟩
  obtain ⟨hn3, _⟩ := hbs
  replace hn3 : n3 = 0 := hn3
  have q3 : ((n3 : Int) == 0) = true := by rw [hn3]; rfl
  have HL12 := Lib.hid (HL11.out.below HV.out HU.out hb); have HB12 := Lib.hid (HB11.out.trans (hb.mono HB11.out.size))
  clear hb HL11 HB11 hn3
  go_wp2_with fail
  refine (HU.out.room HL12.out.l HK7.out).mono ?_
  rintro e w13 ⟨rfl, hb⟩
  rw [show (if Lm.q7.down = true then (0 : Int) else (Lm.q7.frames : Int) - (Lm.q7.at_ : Int)) = 10 from rfl]
  have HL13 := Lib.hid (HL12.out.below HV.out HU.out hb); have HB13 := Lib.hid (HB12.out.trans (hb.mono HB12.out.size))
  clear hb HL12 HB12
  go_wp2_with fail
  refine (HU.out.epoch HL13.out.l HK7.out).mono ?_
  rintro e w14 ⟨rfl, hb⟩
  rw [show ((Lm.q7.h.epoch : Nat) : Int) = 3 from rfl]
  have HB14 := Lib.hid (HB13.out.trans (hb.mono HB13.out.size))
  clear hb HL13 HB13
  go_wp2
  go_ret
  exact ⟨rfl, HB14.out⟩
end Go.Proofs.Ytofbignggadkiaa
