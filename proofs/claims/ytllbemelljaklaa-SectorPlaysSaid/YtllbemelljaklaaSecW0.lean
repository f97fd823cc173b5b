/- Layer 6: first: what must be answered ahead of everything else. -/
import Derived.Test.YtllbemelljaklaaSecCon
import Derived.Lib.SlBytesConst
import Derived.BigQuiet
import Derived.OrdersHeld
namespace Go.Proofs.Ytllbemelljaklaa
open Go.RowKit

theorem yt_mk (w : World) (l : List UInt8) (n : Nat) (C : Array Value) (fr : Nat × Nat) (h : C.toList = yc l) (hn : n = l.length) : Yt (.slice (some ⟨w.heap.size, 0, none⟩) n n) l (w.alloc (.cells C 5 fr)) := by
  subst hn
  refine .inr ⟨w.heap.size, 0, l.length, rfl, Nat.le_refl _, by simp, fun j hj => ?_⟩
  rw [Nat.zero_add, World.cell?_alloc_mark, ← Array.getElem?_toList, h, yc_get]
  simp [List.getD, hj]
theorem it_lit {w : World} {cs : Array Value} {l : List Int} (h : cs.toList = l.map fun n => Value.int .i64 n) : It (.slice (some ⟨w.heap.size, 0, none⟩) l.length l.length) l (w.alloc (.cells cs 3)) := by
  refine .inr ⟨w.heap.size, 0, l.length, rfl, Nat.le_refl _, by simp, fun j hj => ?_⟩
  rw [Lib.cell_of_heap (heap_alloc_new w _), Nat.zero_add, ← Array.getElem?_toList, h]
  simp [List.getD, hj]
theorem one_bs (w : World) (x : Obj) : Below w.heap.size w (w.alloc x) := (Below.refl _ _).alloc (Nat.le_refl _) _
theorem bstr_st (l : List UInt8) : bstr l = st l := rfl

namespace Sm
def f1 : Dv := (write (new 3) 0 [97, 98, 99, 100]).1
def f2 : Dv := (write f1 0 [120, 121, 122]).1
def f3 : Dv := crash f2 [64, 1]
def f4 : Dv := bound f3 0
theorem first_plain : (write (new 3) 0 [97, 98, 99, 100]).2 = 0 ∧ (write f1 0 [120, 121, 122]).2 = 0 ∧ f2.ws.length = 2 ∧ read f3 0 = (full [120, 98, 99, 100], 0) ∧ flush f4 = (f4, 60) ∧ f4.calls = 2 ∧ f4.kept.length = 3 := ⟨rfl, rfl, rfl, rfl, rfl, rfl, rfl⟩
end Sm
theorem lim_of {d : Sm.Dv} (h1 : d.ws.length ≤ 1000) (h2 : d.calls = 0 ∨ d.calls = 1 ∨ d.calls = 2) (h3 : d.left = -1 ∨ d.left = 0) : Lim d := ⟨h1, by omega, by omega, by omega, by omega⟩
theorem Did.own {Dev : Nat → Sm.Dv → (Nat → Prop) → World → Prop} {g : Nat} {F : Nat → Prop} {d : Sm.Dv} {w W w' : World} (h : Did Dev g F d W w') (hb : Below w.heap.size w W) (hF : ∀ k, F k → w.heap.size ≤ k) : ∃ F', Hid (Dev g d F' w') ∧ Hid (∀ k, F' k → w.heap.size ≤ k) ∧ Hid (Below w.heap.size w w') := by
  obtain ⟨F', h1, h2, h3⟩ := h.bel hF hb.size
  exact ⟨F', h1, h2, hb.trans h3⟩

set_option maxHeartbeats 4000000 in
set_option maxRecDepth 100000 in
theorem walk_first {Dev : Nat → Sm.Dv → (Nat → Prop) → World → Prop} (V : SecCon Dev) (w : World) : Calls Try.prog 7 #[] w fun e w' => e = .returned (.bool true) ∧ Below w.heap.size w w' := by
  have HV := Lib.hid V
  obtain ⟨p1, p2, p3, p4, p5, p6, p7⟩ := Sm.first_plain
  have P1 := Lib.hid p1; have P2 := Lib.hid p2; have P3 := Lib.hid p3; have P4 := Lib.hid p4; have P5 := Lib.hid p5; have P6 := Lib.hid p6; have P7 := Lib.hid p7
  clear p1 p2 p3 p4 p5 p6 p7 V
  have kc := fun (w : World) (C : Array Value) (n c : Nat) => Lib.run_convert_bytes_const (P := Try.prog) w 31 5 C n c Try.underlying31 Try.underlying5
  go_enter Try.func7, Try.ntmps7
  go_wp2_with fail
  refine (HV.out.new 3 w (by omega) (by omega)).mono ?_
  rintro e w1 ⟨g, F, rfl, hd, hF, hb⟩
  have HD := Lib.hid hd; have HF := Lib.hid hF; have HB := Lib.hid hb
  clear hd hF hb
  go_wp2_with fail
  refine (HV.out.bad 0 w1 (by omega)).mono ?_
  rintro e w2 ⟨rfl, hb⟩
  have HD2 := Lib.hid (HV.out.below HD.out hb); have HB2 := Lib.hid (HB.out.trans (hb.mono HB.out.size))
  clear hb HD HB
  go_wp2_with fail
  have hb0 : Below w2.heap.size w2 (w2.alloc (.cells #[.int .u8 97, .int .u8 98, .int .u8 99, .int .u8 100] 5 (4, 5))) := (Below.refl _ _).alloc (Nat.le_refl _) _
  have hl := HV.out.lt HD2.out
  refine (HV.out.write 0 _ 4 4 [97, 98, 99, 100] (HV.out.below HD2.out hb0) (lim_of (by decide) (.inl rfl) (.inl rfl)) (yt_mk w2 _ 4 _ _ rfl rfl) (by decide) (fun _ x e hF => by injection e with e; subst e; have := hl _ hF; exact absurd this (Nat.lt_irrefl _))).mono ?_
  rintro e w3 ⟨rfl, hd⟩
  obtain ⟨F3, HD3, HF3, HB3⟩ := hd.own (HB2.out.trans (hb0.mono HB2.out.size)) HF.out
  rw [P1.out]
  clear hb0 hl hd HD2 HB2 HF
  go_wp2_with fail
  have hb0 : Below w3.heap.size w3 (w3.alloc (.cells #[.int .u8 120, .int .u8 121, .int .u8 122] 5 (3, 4))) := (Below.refl _ _).alloc (Nat.le_refl _) _
  have hl := HV.out.lt HD3.out
  refine (HV.out.write (d := Sm.f1) 0 _ 3 3 [120, 121, 122] (HV.out.below HD3.out hb0) (lim_of (by decide) (.inr (.inl rfl)) (.inl rfl)) (yt_mk w3 _ 3 _ _ rfl rfl) (by decide) (fun _ x e hF => by injection e with e; subst e; have := hl _ hF; exact absurd this (Nat.lt_irrefl _))).mono ?_
  rintro e w4 ⟨rfl, hd⟩
  obtain ⟨F4, HD4, HF4, HB4⟩ := hd.own (HB3.out.trans (hb0.mono HB3.out.size)) HF3.out
  rw [P2.out]
  clear hb0 hl hd HD3 HB3 HF3
  go_wp2_with fail
  refine (HV.out.waiting (d := Sm.f2) HD4.out).mono ?_
  rintro e w5 ⟨rfl, hb⟩
  have HD5 := Lib.hid (HV.out.below HD4.out hb); have HB5 := Lib.hid (HB4.out.trans (hb.mono HB4.out.size))
  rw [P3.out]
  clear hb HD4 HB4
  go_wp2_with fail
  have hb0 : Below w5.heap.size w5 (w5.alloc (.cells #[.int .i64 64, .int .i64 1] 3)) := (Below.refl _ _).alloc (Nat.le_refl _) _
  have hl := HV.out.lt HD5.out
  refine (HV.out.crash (some ⟨w5.heap.size, 0, none⟩) 2 2 [64, 1] (HV.out.below HD5.out hb0) (by decide) (it_lit (w := w5) (cs := #[.int .i64 64, .int .i64 1]) (l := [64, 1]) rfl) (by decide) (fun _ x e hF => by injection e with e; subst e; have := hl _ hF; exact absurd this (Nat.lt_irrefl _))).mono ?_
  rintro e w6 ⟨rfl, hd⟩
  obtain ⟨F6, HD6, HF6, HB6⟩ := hd.own (HB5.out.trans (hb0.mono HB5.out.size)) HF4.out
  clear hb0 hl hd HD5 HB5 HF4
  go_wp2_with fail
  refine (HV.out.read (d := Sm.f3) 0 HD6.out (by decide)).mono ?_
  rintro e w7 ⟨a7, c7, n7, rfl, hn7, ho7, hb⟩
  rw [P4.out] at hn7 ho7 ⊢
  have HD7 := Lib.hid (HV.out.below HD6.out hb); have HB7 := Lib.hid (HB6.out.trans (hb.mono HB6.out.size))
  have HLT6 := Lib.hid (HV.out.lt HD6.out)
  replace hn7 : n7 = 64 := hn7
  subst hn7
  have HO7 := Lib.hid ho7
  clear hb HD6 HB6 ho7
  dsimp only
  go_wp2_with fail
  refine (HV.out.limit (d := Sm.f3) 0 HD7.out ⟨by decide, by decide⟩).mono ?_
  rintro e w8 ⟨rfl, hd⟩
  obtain ⟨F8, HD8, HF8, HB8⟩ := hd.own HB7.out HF6.out
  obtain ⟨_, _, hon, _⟩ := hd
  have hy8 := Yt.of_own (own_only HO7.out hon (fun k hk hp => by have := HLT6.out k hp; omega))
  obtain ⟨S, hS⟩ : ∃ S, S = bstr (Sm.full [120, 98, 99, 100]) := ⟨_, rfl⟩
  have hSS : (S.toList == S.toList) = true := by simp
  have kr := Yt.str (hy8.keep ⟨rfl, rfl, rfl, Nat.le_refl _, fun _ _ => rfl⟩ : Yt (.slice a7 64 c7) (Sm.full [120, 98, 99, 100]) w8.drew)
  have HFU : Hid (∀ W, Calls Try.prog 23 #[.string ⟨#[120, 98, 99, 100]⟩] W fun e w' => e = .returned (.string S) ∧ W = w') := fun W => by rw [hS]; exact ref6_full [120, 98, 99, 100] W (by decide)
  rw [← hS] at kr
  have HD9 := Lib.hid (HV.out.below HD8.out (show Below w8.heap.size w8 w8.drew from ⟨rfl, rfl, rfl, Nat.le_refl _, fun _ _ => rfl⟩))
  clear hy8 hon hS HO7 HLT6 HF6 HD7 HB7 HD8
  go_upto_region 8 with (fail)
  go_region_with (first
    | (go_at_call 23; refine (HFU.out _).mono ?_; rintro e w4 ⟨rfl, rfl⟩)
    | (go_at_call 12; refine (HV.out.flush (d := Sm.f4) HD9.out (lim_of (by decide) (.inr (.inr rfl)) (.inr rfl))).mono ?_; rintro e w10 ⟨rfl, hd⟩; obtain ⟨F10, HD10, HF10, HB10⟩ := hd.own (show Below w.heap.size w w8.drew from HB8.out.trans ⟨rfl, rfl, rfl, Nat.le_refl _, fun _ _ => rfl⟩) HF8.out; rw [P5.out] at HD10 ⊢; clear hd)
    | (go_at_call 19; refine (HV.out.calls (d := Sm.f4) HD10.out).mono ?_; rintro e w11 ⟨rfl, hb⟩; have HD11 := Lib.hid (HV.out.below HD10.out hb); have HB11 := Lib.hid (HB10.out.trans (hb.mono HB10.out.size)); rw [P6.out]; clear hb)
    | (go_at_call 22; refine (HV.out.sectors (d := Sm.f4) HD11.out).mono ?_; rintro e w12 ⟨rfl, hb⟩; have HB12 := Lib.hid (HB11.out.trans (hb.mono HB11.out.size)); rw [P7.out]; clear hb))
  all_goals go_wp2
  all_goals go_ret
  all_goals exact ⟨rfl, HB12.out⟩
end Go.Proofs.Ytllbemelljaklaa
