/- The reference of layer 11: Parse. -/
import Derived.Test.YtmipomglbccjbaaDoorRowGe
import Derived.Test.YtmipomglbccjbaaDoorWireFa
namespace Go.Proofs.YtmipomglbccjbaaDoor
open Go.RowKit

theorem Yt.bytC {v : Value} {l : List UInt8} {w : World} (h : Yt v l w) : BytC v l w := h
/-- the rest of bytes, and what Get and GetText say of it -/
theorem get_at {a : Option Addr} {n cap : Nat} {l : List UInt8} {w : World} (h : Yt (.slice a n cap) l w) (k : Nat) (hk : k ≤ n) (hl : n ≤ 1000000) :
    ∃ b m d, (∀ w', (Instr.slice 25 (.slice a n cap) (some (.int .i64 (k : Int))) none none).run Tryd.prog w' = .ok (.slice b m d) w') ∧
      Hid (∀ W, Below w.heap.size w W → Calls Tryd.prog 36 #[.slice b m d] W fun e w' => e = .returned (.tuple #[.int .i64 (dv (l.drop k)).1, .int .i64 ((dv (l.drop k)).2 : Nat)]) ∧ W = w') ∧
      Hid (∀ W, Below w.heap.size w W → Calls Tryd.prog 37 #[.slice b m d] W fun e w' => e = .returned (.tuple #[.string (bstr (gtx (l.drop k)).1), .int .i64 ((gtx (l.drop k)).2 : Nat)]) ∧ W = w') := by
  have hn := h.len11
  subst hn
  obtain ⟨a', c', b, d, e, hb, hs⟩ := BytC.from_ h.bytC k hk
  injection e with e1 e2 e3
  subst e1; subst e3
  exact ⟨b, _, d, hs, fun W hW => ref_get _ _ W (hb.keep hW) (by rw [List.length_drop]; omega), fun W hW => ref_gettext _ _ W (hb.keep hW) (by rw [List.length_drop]; omega)⟩
/-- what is left of bytes: a number at its beginning -/
theorem rnum_at {l : List UInt8} {k : Nat} (h0 : (dv (l.drop k)).2 ≠ 0) : Rm.rnum (l.drop k) = some ((dv (l.drop k)).1, l.drop (k + (dv (l.drop k)).2)) ∧ k + (dv (l.drop k)).2 ≤ l.length := by
  have h : Rm.rnum (l.drop k) = some ((dv (l.drop k)).1, (l.drop k).drop (dv (l.drop k)).2) := by unfold Rm.rnum; rw [if_neg h0]
  have h2 : (dv (l.drop k)).2 ≤ (l.drop k).length := by
    rcases hd : Wm.dec (l.drop k) with _ | ⟨n, m⟩
    · rw [dv_none hd] at h0; exact absurd rfl h0
    · rw [dv_some hd]; exact (Wm.dec_some hd).2.2.2
  rw [List.length_drop] at h2
  rw [List.drop_drop] at h
  refine ⟨h, ?_⟩
  by_cases hk : k ≤ l.length
  · omega
  · exfalso
    have : l.drop k = [] := List.drop_of_length_le (by omega)
    rw [this] at h0
    exact h0 rfl
theorem rnum_no {l : List UInt8} {k : Nat} (h0 : (dv (l.drop k)).2 = 0) : Rm.rnum (l.drop k) = none := by unfold Rm.rnum; rw [if_pos h0]
theorem text_at {l : List UInt8} {k : Nat} (hk : k ≤ l.length) (h0 : (gtx (l.drop k)).2 ≠ 0) : k + (gtx (l.drop k)).2 ≤ l.length ∧ (l.drop k).drop (gtx (l.drop k)).2 = l.drop (k + (gtx (l.drop k)).2) := by
  refine ⟨?_, by rw [List.drop_drop]⟩
  rcases gtx_rtext (l.drop k) with ⟨e, _⟩ | ⟨_, e, _⟩
  · exact absurd e h0
  · rw [List.length_drop] at e; omega
/-- what is left to be read: m cells behind cs, from byte k on -/
def lft (m : Nat) (cs : List Rm.C) (l : List UInt8) : Option (List Rm.C) :=
  match Rm.rcells m l with
  | none => none
  | some (ds, l2) => if l2 = [] ∧ Rm.right (cs ++ ds) = true then some (cs ++ ds) else none
theorem lft_none {m : Nat} {cs : List Rm.C} {l : List UInt8} (h : Rm.rcell l = none) : lft (m + 1) cs l = none := by
  unfold lft; rw [Rm.rcells, h]
theorem lft_some {m : Nat} {cs : List Rm.C} {l l' : List UInt8} {c : Rm.C} (h : Rm.rcell l = some (c, l')) : lft (m + 1) cs l = lft m (cs ++ [c]) l' := by
  unfold lft; rw [Rm.rcells, h]
  dsimp only
  rcases Rm.rcells m l' with _ | ⟨ds, l2⟩
  · rfl
  · simp
theorem lft_zero {cs : List Rm.C} {l : List UInt8} : lft 0 cs l = if l = [] ∧ Rm.right cs = true then some cs else none := by
  unfold lft; rw [Rm.rcells]; simp
theorem rcell_no1 {l : List UInt8} (h : Rm.rnum l = none) : Rm.rcell l = none := by unfold Rm.rcell; rw [h]
theorem rcell_no2 {l l1 : List UInt8} {x : Int} (h : Rm.rnum l = some (x, l1)) (h2 : Rm.rnum l1 = none) : Rm.rcell l = none := by unfold Rm.rcell; rw [h]; dsimp only; rw [h2]
theorem rcell_is {l l1 l2 : List UInt8} {x k : Int} (h : Rm.rnum l = some (x, l1)) (h2 : Rm.rnum l1 = some (k, l2)) : Rm.rcell l = (Rm.rval k l2).map fun p => (⟨x, p.1⟩, p.2) := by unfold Rm.rcell; rw [h]; dsimp only; rw [h2]
/-- a cell of memory that is written -/
theorem setc_same {w : World} {g o : Nat} {u v : Value} (h : w.cell? ⟨g, o, none⟩ = some u) : (w.setCell ⟨g, o, none⟩ v).cell? ⟨g, o, none⟩ = some v := World.cell?_setCell_same _ _ _ h
theorem setc_other {w : World} {g o g' o' : Nat} {v : Value} (h : g' ≠ g ∨ o' ≠ o) : (w.setCell ⟨g', o', none⟩ v).cell? ⟨g, o, none⟩ = w.cell? ⟨g, o, none⟩ := World.cell?_setCell_other _ _ _ _ (ad_ne h)

set_option maxHeartbeats 8000000 in
set_option maxRecDepth 100000 in
theorem ref_parse11 (a : Option Addr) (n cap : Nat) (l : List UInt8) (w : World) (hv : Yt (.slice a n cap) l w) (hl : n ≤ 100000) :
    Calls Tryd.prog 15 #[.slice a n cap] w (GtR (Rm.rpar l) w) := by
  obtain ⟨i0, hi0, hz0, hz1, hz2⟩ := info_of11 info5r
  have HI0 := Lib.hid hi0; have HZ0 := Lib.hid hz0; have HZ1 := Lib.hid hz1; have HZ2 := Lib.hid hz2
  have hnl := hv.len11
  have hn1 : n ≤ l.length := by omega
  have hn2 : l.length ≤ n := by omega
  obtain ⟨R, hR⟩ : ∃ R, R = Rm.rpar l := ⟨_, rfl⟩
  rw [← hR]
  have HV := Lib.hid hv
  have hget := ref_get _ l w hv.bytC (by omega)
  have hd0 := @rnum_at l 0
  have hd1 := @rnum_no l 0
  rw [List.drop_zero] at hd0 hd1
  obtain ⟨N, hN⟩ : ∃ N, N = (dv l).1 := ⟨_, rfl⟩
  obtain ⟨j0, hj0⟩ : ∃ j0, j0 = (dv l).2 := ⟨_, rfl⟩
  rw [← hN, ← hj0] at hget hd0
  rw [← hj0] at hd1
  have HGET := Lib.hid hget
  have HR0 := Lib.hid hR
  clear hi0 hz0 hz1 hz2 hnl hv hR hN hj0 hget
  by_cases h0 : j0 = 0
  · subst h0
    have HNO : Hid (R = none) := by show _ = _; rw [HR0.out]; unfold Rm.rpar; rw [hd1 rfl]
    clear HR0 hd0 hd1
    go_enter Tryd.func15, Tryd.ntmps15
    go_wp2_with fail
    refine HGET.out.mono ?_
    rintro e w1 ⟨rfl, rfl⟩
    go_wp2
    go_ret2
    rw [HNO.out]
    exact ⟨none, 0, 0, rfl, rfl, .inl ⟨_, _, rfl, rfl⟩, Below.refl _ _⟩
  obtain ⟨hrn, hj0l⟩ := hd0 h0
  have qj : ((j0 : Int) == 0) = false := by simp; omega
  rw [Nat.zero_add] at hrn hj0l
  clear hd0 hd1
  by_cases hN0 : N < 0
  · have HNO : Hid (R = none) := by show _ = _; rw [HR0.out]; unfold Rm.rpar; rw [hrn]; dsimp only; rw [if_pos hN0]
    clear HR0 hrn
    go_enter Tryd.func15, Tryd.ntmps15
    go_wp2_with fail
    refine HGET.out.mono ?_
    rintro e w1 ⟨rfl, rfl⟩
    go_wp2
    go_ret2
    rw [HNO.out]
    exact ⟨none, 0, 0, rfl, rfl, .inl ⟨_, _, rfl, rfl⟩, Below.refl _ _⟩
  have hN00 : 0 ≤ N := by omega
  have hNR := (Rm.rnum_len hrn).2
  obtain ⟨M, hM⟩ : ∃ M : Nat, N = (M : Int) := ⟨N.toNat, by omega⟩
  subst hM
  have hMb : (M : Int) ≤ 9223372036854775807 := hNR.2
  have HRL : Hid (R = lft M [] (l.drop j0)) := by
    show _ = _
    rw [HR0.out]; unfold Rm.rpar lft
    rw [hrn]; dsimp only
    rw [if_neg (by omega), Int.toNat_natCast]
    rcases Rm.rcells M (l.drop j0) with _ | ⟨ds, l2⟩
    · rfl
    · simp
  clear HR0 hrn hNR hN0
  go_enter Tryd.func15, Tryd.ntmps15
  go_wp2_with fail
  refine HGET.out.mono ?_
  rintro e w1 ⟨rfl, rfl⟩
  clear HGET
  go_wp2_with fail
  go_loopw [5, 6, 7] (fun av rv iv wr => ∃ (i at_ k : Nat) (aa : Option Addr) (cc : Nat) (cs : List Rm.C), i ≤ M ∧ iv = .int .i64 (i : Int) ∧ at_ ≤ l.length ∧ av = .int .i64 (at_ : Int) ∧ rv = .slice aa k cc ∧ k ≤ at_ ∧ Hid (∀ c ∈ cs, c.v.s.size ≤ 100000) ∧ Hid (R = lft (M - i) cs (l.drop at_)) ∧ Hid (wr.ownsRow w.heap.size 38 5 (.slice aa k cc) k (rcs cs)) ∧ Hid (Below w.heap.size w wr)) (fun av _ _ _ => l.length - (Lib.intOf av).toNat)
  case atStart => exact ⟨0, j0, 0, none, 0, [], by omega, rfl, hj0l, rfl, rfl, by omega, (fun c hc => by cases hc), HRL.out, World.ownsRow_nil _ _ _ _, Below.refl _ _⟩
  case round =>
    clear HRL
    obtain ⟨i, at_, k, aa, cc, cs, hi, rfl, hat, rfl, rfl, hk, HSZ, HR, HO, HB⟩ := hrel
    have hwr := HB.out.size
    by_cases hlt : i < M
    · have hltI : (i : Int) < (M : Int) := by omega
      generalize wr = wo at *
      obtain ⟨m, hm⟩ : ∃ m, m = M - (i + 1) := ⟨_, rfl⟩
      have hMi : M - i = m + 1 := by omega
      rw [hMi] at HR
      obtain ⟨q, hq⟩ : ∃ q, q = wo.heap.size := ⟨_, rfl⟩
      obtain ⟨W1, hW1⟩ : ∃ W1, W1 = wo.alloc (.cells #[.int .i64 0, .int .i64 0, .int .i64 0] 61) := ⟨_, rfl⟩
      have hbw1 : Below wo.heap.size wo W1 := by rw [hW1]; exact one_r _ _
      have y0 : W1.cell? ⟨q, 0, none⟩ = some (.int .i64 0) := by rw [hW1, hq]; simp
      have y1 : W1.cell? ⟨q, 1, none⟩ = some (.int .i64 0) := by rw [hW1, hq]; simp
      have y2 : W1.cell? ⟨q, 2, none⟩ = some (.int .i64 0) := by rw [hW1, hq]; simp
      have yf : ∀ o, W1.frozen? ⟨q, o, none⟩ = false := fun o => by rw [hW1, hq]; simp
      have yf0 := yf 0; have yf1 := yf 1; have yf2 := yf 2
      have HQ : Hid (W1 = wo.alloc (.cells #[.int .i64 0, .int .i64 0, .int .i64 0] 61) ∧ q = wo.heap.size) := ⟨hW1, hq⟩
      have hqb : wo.heap.size ≤ q := by omega
      have HBW := Lib.hid hbw1
      have HYF := Lib.hid yf
      have HM := Lib.hid hm
      clear hW1 hq hMi hm yf hbw1
      go_upto_region 8 with (fail)
      go_wp2_with (rw [← HQ.out.1, ← HQ.out.2])
      go_loopw [5, 9] (fun av kv wx => ∃ (kk a2 : Nat), kk ≤ 2 ∧ kv = .int .i64 (kk : Int) ∧ a2 ≤ l.length ∧ av = .int .i64 (a2 : Int) ∧
        ((kk = 0 ∧ a2 = at_ ∧ wx = W1) ∨ (kk = 1 ∧ ∃ x0, Hid (Rm.rnum (l.drop at_) = some (x0, l.drop a2)) ∧ at_ < a2 ∧ wx = W1.setCell ⟨q, 0, none⟩ (.int .i64 x0)) ∨
         (kk = 2 ∧ ∃ x0 x1 a1, Hid (Rm.rnum (l.drop at_) = some (x0, l.drop a1)) ∧ Hid (Rm.rnum (l.drop a1) = some (x1, l.drop a2)) ∧ at_ < a2 ∧ wx = (W1.setCell ⟨q, 0, none⟩ (.int .i64 x0)).setCell ⟨q, 1, none⟩ (.int .i64 x1)))) (fun _ kv _ => 2 - (Lib.intOf kv).toNat)
      case atStart => exact ⟨0, at_, by omega, rfl, hat, rfl, .inl ⟨rfl, rfl, rfl⟩⟩
      case round =>
        obtain ⟨kk, a2, hkk, rfl, ha2, rfl, hcase⟩ := hrel
        rcases hcase with ⟨rfl, rfl, hwx⟩ | ⟨rfl, x0, HX0, hlt0, hwx⟩ | ⟨rfl, x0, x1, a1, HX0, HX1, hlt0, hwx⟩
        all_goals rw [hwx]
        all_goals clear hwx
        · obtain ⟨gb, gm, gd, hs, HG, HT⟩ := get_at HV.out a2 (by omega) (by omega)
          have HBX : Hid (Below w.heap.size w W1) := HB.out.trans (HBW.out.mono hwr)
          have HGG := Lib.hid (HG.out _ HBX.out)
          obtain ⟨x, hx⟩ : ∃ x, x = (dv (l.drop a2)).1 := ⟨_, rfl⟩
          obtain ⟨jj, hjj⟩ : ∃ jj, jj = (dv (l.drop a2)).2 := ⟨_, rfl⟩
          rw [← hx, ← hjj] at HGG
          clear HG HT
          by_cases hj0 : jj = 0
          · have HNO : Hid (R = none) := by
              show _ = _
              rw [HR.out, lft_none (rcell_no1 (rnum_no (by rw [← hjj]; exact hj0)))]
            subst hj0
            clear hx hjj HR
            go_wp2_with fail
            refine HGG.out.mono ?_
            rintro e w2 ⟨rfl, rfl⟩
            clear HGG
            go_wp2
            go_ret2
            rw [HNO.out]
            exact ⟨none, 0, 0, rfl, rfl, .inl ⟨_, _, rfl, rfl⟩, HBX.out⟩
          · obtain ⟨hr, hb⟩ := rnum_at (l := l) (k := a2) (by rw [← hjj]; exact hj0)
            rw [← hx, ← hjj] at hr
            rw [← hjj] at hb
            have HX := Lib.hid hr
            have qjj : ((jj : Int) == 0) = false := by simp; omega
            have hjp : 0 < jj := by omega
            clear hx hjj hr hj0
            go_wp2_with fail
            refine HGG.out.mono ?_
            rintro e w2 ⟨rfl, rfl⟩
            clear HGG
            go_wp2
            go_roundw
            case rel => exact ⟨1, a2 + jj, by omega, by go_num, hb, by go_num, .inr (.inl ⟨rfl, x, HX, by omega, rfl⟩)⟩
            case measure => simp [Lib.intOf]
        · have z1 : (W1.setCell ⟨q, 0, none⟩ (.int .i64 x0)).cell? ⟨q, 1, none⟩ = some (.int .i64 0) := (setc_other (.inr (by decide))).trans y1
          obtain ⟨W2, hW2⟩ : ∃ W2, W2 = W1.setCell ⟨q, 0, none⟩ (.int .i64 x0) := ⟨_, rfl⟩
          have zf1 : W2.frozen? ⟨q, 1, none⟩ = false := by rw [hW2]; simpa using yf1
          rw [← hW2] at z1 ⊢
          have HBX : Hid (Below w.heap.size w W2) := by
            show Below _ _ _
            rw [hW2]; exact HB.out.trans ((HBW.out.setCell (p := ⟨q, 0, none⟩) hqb _).mono hwr)
          obtain ⟨gb, gm, gd, hs, HG, HT⟩ := get_at HV.out a2 (by omega) (by omega)
          have HGG := Lib.hid (HG.out _ HBX.out)
          obtain ⟨x, hx⟩ : ∃ x, x = (dv (l.drop a2)).1 := ⟨_, rfl⟩
          obtain ⟨jj, hjj⟩ : ∃ jj, jj = (dv (l.drop a2)).2 := ⟨_, rfl⟩
          rw [← hx, ← hjj] at HGG
          have HW2 := Lib.hid hW2
          clear HG HT hW2
          by_cases hj0 : jj = 0
          · have HNO : Hid (R = none) := by
              show _ = _
              rw [HR.out, lft_none (rcell_no2 HX0.out (rnum_no (by rw [← hjj]; exact hj0)))]
            subst hj0
            clear hx hjj HR
            go_wp2_with fail
            refine HGG.out.mono ?_
            rintro e w2 ⟨rfl, rfl⟩
            clear HGG
            go_wp2
            go_ret2
            rw [HNO.out]
            exact ⟨none, 0, 0, rfl, rfl, .inl ⟨_, _, rfl, rfl⟩, HBX.out⟩
          · obtain ⟨hr, hb⟩ := rnum_at (l := l) (k := a2) (by rw [← hjj]; exact hj0)
            rw [← hx, ← hjj] at hr
            rw [← hjj] at hb
            have HX := Lib.hid hr
            have qjj : ((jj : Int) == 0) = false := by simp; omega
            have hjp : 0 < jj := by omega
            clear hx hjj hr hj0
            go_wp2_with fail
            refine HGG.out.mono ?_
            rintro e w2 ⟨rfl, rfl⟩
            clear HGG
            go_wp2
            go_roundw
            case rel => exact ⟨2, a2 + jj, by omega, by go_num, hb, by go_num, .inr (.inr ⟨rfl, x0, x, a2, HX0, HX, by omega, by rw [HW2.out]⟩)⟩
            case measure => simp [Lib.intOf]
        · obtain ⟨W2, hW2⟩ : ∃ W2, W2 = (W1.setCell ⟨q, 0, none⟩ (.int .i64 x0)).setCell ⟨q, 1, none⟩ (.int .i64 x1) := ⟨_, rfl⟩
          have z0 : W2.cell? ⟨q, 0, none⟩ = some (.int .i64 x0) := by rw [hW2]; exact (setc_other (.inr (by decide))).trans (setc_same y0)
          have z1 : W2.cell? ⟨q, 1, none⟩ = some (.int .i64 x1) := by rw [hW2]; exact setc_same ((setc_other (.inr (by decide))).trans y1)
          rw [← hW2]
          have hbw2 : Below wo.heap.size wo W2 := by rw [hW2]; exact (HBW.out.setCell (p := ⟨q, 0, none⟩) hqb _).setCell (p := ⟨q, 1, none⟩) hqb _
          have hqw : q < W2.heap.size := World.block_lt_of_cell? W2 ⟨q, 0, none⟩ z0
          have HRC := Lib.hid (rcell_is HX0.out HX1.out)
          clear HX0 HX1 hW2 HBW y0 y1 y2 yf0 yf1 yf2 HYF HQ
          obtain ⟨p, hp⟩ : ∃ p, p = W2.heap.size := ⟨_, rfl⟩
          obtain ⟨W3, hW3⟩ : ∃ W3, W3 = W2.alloc (.cells #[.int .i64 x0, .int .i64 x1, .int .i64 0, .int .i64 0, .string ⟨#[]⟩] 38) := ⟨_, rfl⟩
          have t0 : W3.cell? ⟨p, 0, none⟩ = some (.int .i64 x0) := by rw [hW3, hp]; simp
          have t1 : W3.cell? ⟨p, 1, none⟩ = some (.int .i64 x1) := by rw [hW3, hp]; simp
          have t2 : W3.cell? ⟨p, 2, none⟩ = some (.int .i64 0) := by rw [hW3, hp]; simp
          have t3 : W3.cell? ⟨p, 3, none⟩ = some (.int .i64 0) := by rw [hW3, hp]; simp
          have t4 : W3.cell? ⟨p, 4, none⟩ = some (.string ⟨#[]⟩) := by rw [hW3, hp]; simp
          have tf : ∀ o, W3.frozen? ⟨p, o, none⟩ = false := fun o => by rw [hW3, hp]; simp
          have tf2 := tf 2; have tf3 := tf 3; have tf4 := tf 4
          have hb3 : Below W2.heap.size W2 W3 := by rw [hW3]; exact one_r _ _
          have s1 : W3.cell? ⟨q, 1, none⟩ = some (.int .i64 x1) := (hb3.cell (p := ⟨q, 1, none⟩) hqw).trans z1
          have HBW := Lib.hid (hbw2.trans (hb3.mono hbw2.size))
          have hpq : q ≠ p := by omega
          have hpb : wo.heap.size ≤ p := by have := hbw2.size; omega
          have HQ3 : Hid (W3 = W2.alloc (.cells #[.int .i64 x0, .int .i64 x1, .int .i64 0, .int .i64 0, .string ⟨#[]⟩] 38) ∧ p = W2.heap.size) := ⟨hW3, hp⟩
          have HBX : Hid (Below w.heap.size w W3) := HB.out.trans (HBW.out.mono hwr)
          clear hp hW3 tf hb3 hbw2 hqw
          by_cases hx1 : x1 < 1 ∨ 5 < x1
          · have HNO : Hid (R = none) := by
              show _ = _
              rw [HR.out, lft_none (by rw [HRC.out]; unfold Rm.rval; rw [if_pos hx1]; rfl)]
            clear HR HRC
            rcases hx1 with hx1 | hx1
            · go_wp2_with (rw [← HQ3.out.1, ← HQ3.out.2])
              go_wp2
              go_ret2
              rw [HNO.out]
              exact ⟨none, 0, 0, rfl, rfl, .inl ⟨_, _, rfl, rfl⟩, HBX.out⟩
            · have hx12 : ¬ x1 < 1 := by omega
              go_wp2_with (rw [← HQ3.out.1, ← HQ3.out.2])
              go_wp2
              go_ret2
              rw [HNO.out]
              exact ⟨none, 0, 0, rfl, rfl, .inl ⟨_, _, rfl, rfl⟩, HBX.out⟩
          have hx15 : ¬ x1 < 1 := by omega
          have hx16 : ¬ 5 < x1 := by omega
          obtain ⟨gb, gm, gd, hs, HG, HT⟩ := get_at HV.out a2 (by omega) (by omega)
          by_cases hx3 : 3 < x1
          · have HGG := Lib.hid (HT.out _ HBX.out)
            have hga := @text_at l a2 ha2
            obtain ⟨x, hx⟩ : ∃ x, x = bstr (gtx (l.drop a2)).1 := ⟨_, rfl⟩
            obtain ⟨jj, hjj⟩ : ∃ jj, jj = (gtx (l.drop a2)).2 := ⟨_, rfl⟩
            rw [← hx, ← hjj] at HGG
            clear HG HT
            by_cases hj0 : jj = 0
            · have HNO : Hid (R = none) := by
                show _ = _
                rw [HR.out, lft_none (by rw [HRC.out]; unfold Rm.rval; rw [if_neg hx1, if_pos hx3, if_pos (by rw [← hjj]; exact hj0)]; rfl)]
              subst hj0
              clear hx hjj HR HRC hga
              go_upto_region 18 with (fail)
              rw [← HQ3.out.1, ← HQ3.out.2]
              go_wp2_with fail
              refine HGG.out.mono ?_
              rintro e w2 ⟨rfl, rfl⟩
              clear HGG
              go_wp2
              go_ret2
              rw [HNO.out]
              exact ⟨none, 0, 0, rfl, rfl, .inl ⟨_, _, rfl, rfl⟩, HBX.out⟩
            · obtain ⟨hb, hdr⟩ := hga (by rw [← hjj]; exact hj0)
              have hcell : Rm.rcell (l.drop at_) = some (⟨x0, ⟨x1, 0, 0, x⟩⟩, l.drop (a2 + jj)) := by
                rw [HRC.out]; unfold Rm.rval; rw [if_neg hx1, if_pos hx3, if_neg (by rw [← hjj]; exact hj0), hdr, ← hx, ← hjj]; rfl
              rw [← hjj] at hb
              have hxs : x.size ≤ 100000 := by
                rw [hx, bstr_size]
                have h1 := (rtext_le (some (l.drop a2))).1
                rw [Rm.rtext_gtx (by rw [← hjj]; exact hj0)] at h1
                simp only [Option.getD_some, List.length_drop] at h1
                omega
              have qjj : ((jj : Int) == 0) = false := by simp; omega
              have hjp : 0 < jj := by omega
              have HF : Hid (R = lft m (cs ++ [⟨x0, ⟨x1, 0, 0, x⟩⟩]) (l.drop (a2 + jj))) := by show _ = _; rw [HR.out, lft_some hcell]
              have HXS := Lib.hid hxs
              clear hx hjj hj0 HR HRC hga hdr hcell hxs
              go_upto_region 18 with (fail)
              rw [← HQ3.out.1, ← HQ3.out.2]
              go_wp2_with fail
              refine HGG.out.mono ?_
              rintro e w2 ⟨rfl, rfl⟩
              clear HGG
              go_upto_region 25 with (fail)
              obtain ⟨Wz, hWz⟩ : ∃ Wz, Wz = W3.setCell ⟨p, 4, none⟩ (.string x) := ⟨_, rfl⟩
              rw [← hWz]
              have hbz : Below wo.heap.size wo Wz := by rw [hWz]; exact HBW.out.setCell (p := ⟨p, 4, none⟩) hpb _
              have u0 : Wz.cell? ⟨p, 0, none⟩ = some (.int .i64 x0) := by rw [hWz]; exact (setc_other (.inr (by decide))).trans t0
              have u1 : Wz.cell? ⟨p, 1, none⟩ = some (.int .i64 x1) := by rw [hWz]; exact (setc_other (.inr (by decide))).trans t1
              have u2 : Wz.cell? ⟨p, 2, none⟩ = some (.int .i64 0) := by rw [hWz]; exact (setc_other (.inr (by decide))).trans t2
              have u3 : Wz.cell? ⟨p, 3, none⟩ = some (.int .i64 0) := by rw [hWz]; exact (setc_other (.inr (by decide))).trans t3
              have u4 : Wz.cell? ⟨p, 4, none⟩ = some (.string x) := by rw [hWz]; exact setc_same t4
              have HOZ := Lib.hid (own_below11 HO.out hbz)
              have HBZ := Lib.hid (HB.out.trans (hbz.mono hwr))
              clear hWz hbz HBW HO HB
              go_wp2_with (at_builtin; refine wpList_append_src _ rfl _ _ 22 22 rfl w.heap.size 38 i0 zero5 5 48 Tryd.underlying22 HI0.out HZ0.out HZ1.out HZ2.out rfl (.slice aa k cc) k (rcs cs) rfl (HOZ.out.alloc _) _ 1 (rcs [(⟨x0, ⟨x1, 0, 0, x⟩⟩ : Rm.C)]) rfl (lit_srcr Wz (⟨x0, ⟨x1, 0, 0, x⟩⟩ : Rm.C)) ?qa ?qb ?qc ?_)
              case qa => unfold maxLen; omega
              case qb => omega
              case qc => have := HBZ.out.size; simp; omega
              intro v4 w4 hown hgrow hat4
              rw [← rcs_append] at hown
              obtain ⟨a4, c4, rfl⟩ := own_formr hown
              have HO4 := Lib.hid hown
              have HB4 := Lib.hid ((HBZ.out.alloc HBZ.out.size (.cells #[.int .i64 x0, .int .i64 x1, .int .i64 0, .int .i64 0, .string x] 38)).grown hgrow (by have := HBZ.out.size; simp; omega) (fun i hi => (HOZ.out.lt i hi).1))
              have HSZ4 : Hid (∀ c ∈ cs ++ [(⟨x0, ⟨x1, 0, 0, x⟩⟩ : Rm.C)], c.v.s.size ≤ 100000) := fun c hc => by
                rcases List.mem_append.1 hc with hc | hc
                · exact HSZ.out c hc
                · rw [List.mem_singleton] at hc; subst hc; exact HXS.out
              clear hown hgrow hat4
              go_wp2
              go_roundw
              case rel => exact ⟨i + 1, a2 + jj, k + 1, a4, c4, _, by omega, by go_num, by omega, by go_num, (by first | rfl | trivial), by omega, HSZ4, by rw [← HM.out]; exact HF, HO4, HB4⟩
              case measure => simp [Lib.intOf]; omega
          · have hx31 : x1 ≤ 3 := by omega
            clear HT
            by_cases hx33 : x1 = 3
            · subst hx33
              go_upto_region 18 with (fail)
              rw [← HQ3.out.1, ← HQ3.out.2]
              go_wp2_with fail
              go_loopw [5, 15] (fun av kv wx => ∃ (kk a3 : Nat), kk ≤ 2 ∧ kv = .int .i64 (kk : Int) ∧ a3 ≤ l.length ∧ av = .int .i64 (a3 : Int) ∧
                ((kk = 0 ∧ a3 = a2 ∧ wx = W3) ∨ (kk = 1 ∧ ∃ x, Hid (Rm.rnum (l.drop a2) = some (x, l.drop a3)) ∧ a2 < a3 ∧ wx = W3.setCell ⟨p, 3, none⟩ (.int .i64 x)) ∨
                 (kk = 2 ∧ ∃ x y a5, Hid (Rm.rnum (l.drop a2) = some (x, l.drop a5)) ∧ Hid (Rm.rnum (l.drop a5) = some (y, l.drop a3)) ∧ a2 < a3 ∧ wx = (W3.setCell ⟨p, 3, none⟩ (.int .i64 x)).setCell ⟨p, 2, none⟩ (.int .i64 y)))) (fun _ kv _ => 2 - (Lib.intOf kv).toNat)
              case atStart => exact ⟨0, a2, by omega, rfl, ha2, rfl, .inl ⟨rfl, rfl, rfl⟩⟩
              case round =>
                clear hs HG
                obtain ⟨kk, a3, hkk, rfl, ha3, rfl, hcase⟩ := hrel
                rcases hcase with ⟨rfl, rfl, hwx⟩ | ⟨rfl, xs, HXS, hlt1, hwx⟩ | ⟨rfl, xs, y, a5, HXS, HY, hlt1, hwx⟩
                all_goals rw [hwx]
                all_goals clear hwx
                · have HBX2 : Hid (Below w.heap.size w W3) := HBX.out
                  obtain ⟨gb, gm, gd, hs, HG, HT⟩ := get_at HV.out a3 (by omega) (by omega)
                  have HGG := Lib.hid (HG.out _ HBX2.out)
                  obtain ⟨x, hx⟩ : ∃ x, x = (dv (l.drop a3)).1 := ⟨_, rfl⟩
                  obtain ⟨jj, hjj⟩ : ∃ jj, jj = (dv (l.drop a3)).2 := ⟨_, rfl⟩
                  rw [← hx, ← hjj] at HGG
                  clear HG HT
                  by_cases hj0 : jj = 0
                  · have HNO : Hid (R = none) := by
                      show _ = _
                      have hno : Rm.rnum (l.drop a3) = none := rnum_no (by rw [← hjj]; exact hj0)
                      rw [HR.out, lft_none (by rw [HRC.out]; unfold Rm.rval; rw [if_neg (by omega), if_neg (by omega), hno]; rfl)]
                    subst hj0
                    clear hx hjj HR HRC
                    go_wp2_with fail
                    refine HGG.out.mono ?_
                    rintro e w2 ⟨rfl, rfl⟩
                    clear HGG
                    go_wp2
                    go_ret2
                    rw [HNO.out]
                    exact ⟨none, 0, 0, rfl, rfl, .inl ⟨_, _, rfl, rfl⟩, HBX2.out⟩
                  · obtain ⟨hr, hb⟩ := rnum_at (l := l) (k := a3) (by rw [← hjj]; exact hj0)
                    rw [← hx, ← hjj] at hr
                    rw [← hjj] at hb
                    have HX := Lib.hid hr
                    have qjj : ((jj : Int) == 0) = false := by simp; omega
                    have hjp : 0 < jj := by omega
                    clear hx hjj hr hj0
                    go_wp2_with fail
                    refine HGG.out.mono ?_
                    rintro e w2 ⟨rfl, rfl⟩
                    clear HGG
                    go_wp2
                    go_roundw
                    case rel => exact ⟨1, a3 + jj, by omega, by go_num, hb, by go_num, .inr (.inl ⟨rfl, x, HX, by omega, rfl⟩)⟩
                    case measure => simp [Lib.intOf]
                · obtain ⟨W4, hW4⟩ : ∃ W4, W4 = W3.setCell ⟨p, 3, none⟩ (.int .i64 xs) := ⟨_, rfl⟩
                  have s12 : W4.cell? ⟨q, 1, none⟩ = some (.int .i64 3) := by rw [hW4]; exact (setc_other (.inl (fun e => hpq e.symm))).trans s1
                  have u2 : W4.cell? ⟨p, 2, none⟩ = some (.int .i64 0) := by rw [hW4]; exact (setc_other (.inr (by decide))).trans t2
                  have uf2 : W4.frozen? ⟨p, 2, none⟩ = false := by rw [hW4]; simpa using tf2
                  have HB4 : Hid (Below w.heap.size w W4) := by show Below _ _ _; rw [hW4]; exact HB.out.trans ((HBW.out.setCell (p := ⟨p, 3, none⟩) hpb _).mono hwr)
                  rw [← hW4]
                  have HW4 := Lib.hid hW4
                  clear hW4
                  have HBX2 : Hid (Below w.heap.size w W4) := HB4.out
                  obtain ⟨gb, gm, gd, hs, HG, HT⟩ := get_at HV.out a3 (by omega) (by omega)
                  have HGG := Lib.hid (HG.out _ HBX2.out)
                  obtain ⟨x, hx⟩ : ∃ x, x = (dv (l.drop a3)).1 := ⟨_, rfl⟩
                  obtain ⟨jj, hjj⟩ : ∃ jj, jj = (dv (l.drop a3)).2 := ⟨_, rfl⟩
                  rw [← hx, ← hjj] at HGG
                  clear HG HT
                  by_cases hj0 : jj = 0
                  · have HNO : Hid (R = none) := by
                      show _ = _
                      have hno : Rm.rnum (l.drop a3) = none := rnum_no (by rw [← hjj]; exact hj0)
                      rw [HR.out, lft_none (by rw [HRC.out]; unfold Rm.rval; rw [if_neg (by omega), if_neg (by omega), HXS.out]; dsimp only; rw [if_pos rfl, hno]; rfl)]
                    subst hj0
                    clear hx hjj HR HRC
                    go_wp2_with fail
                    refine HGG.out.mono ?_
                    rintro e w2 ⟨rfl, rfl⟩
                    clear HGG
                    go_wp2
                    go_ret2
                    rw [HNO.out]
                    exact ⟨none, 0, 0, rfl, rfl, .inl ⟨_, _, rfl, rfl⟩, HBX2.out⟩
                  · obtain ⟨hr, hb⟩ := rnum_at (l := l) (k := a3) (by rw [← hjj]; exact hj0)
                    rw [← hx, ← hjj] at hr
                    rw [← hjj] at hb
                    have HX := Lib.hid hr
                    have qjj : ((jj : Int) == 0) = false := by simp; omega
                    have hjp : 0 < jj := by omega
                    clear hx hjj hr hj0
                    go_wp2_with fail
                    refine HGG.out.mono ?_
                    rintro e w2 ⟨rfl, rfl⟩
                    clear HGG
                    go_wp2
                    go_roundw
                    case rel => exact ⟨2, a3 + jj, by omega, by go_num, hb, by go_num, .inr (.inr ⟨rfl, xs, x, a3, HXS, HX, by omega, by rw [HW4.out]⟩)⟩
                    case measure => simp [Lib.intOf]
                · have hcell : Rm.rcell (l.drop at_) = some (⟨x0, ⟨3, y, xs, ⟨#[]⟩⟩⟩, l.drop a3) := by
                    rw [HRC.out]; unfold Rm.rval; rw [if_neg (by omega), if_neg (by omega), HXS.out]; dsimp only; rw [if_pos rfl, HY.out]; rfl
                  have HF : Hid (R = lft m (cs ++ [⟨x0, ⟨3, y, xs, ⟨#[]⟩⟩⟩]) (l.drop a3)) := by show _ = _; rw [HR.out, lft_some hcell]
                  have s12 : ((W3.setCell ⟨p, 3, none⟩ (.int .i64 xs)).setCell ⟨p, 2, none⟩ (.int .i64 y)).cell? ⟨q, 1, none⟩ = some (.int .i64 3) := (setc_other (.inl (fun e => hpq e.symm))).trans ((setc_other (.inl (fun e => hpq e.symm))).trans s1)
                  clear HXS HY hcell HR HRC
                  obtain ⟨Wz, hWz⟩ : ∃ Wz, Wz = (W3.setCell ⟨p, 3, none⟩ (.int .i64 xs)).setCell ⟨p, 2, none⟩ (.int .i64 y) := ⟨_, rfl⟩
                  rw [← hWz]
                  have hbz : Below wo.heap.size wo Wz := by rw [hWz]; exact (HBW.out.setCell (p := ⟨p, 3, none⟩) hpb _).setCell (p := ⟨p, 2, none⟩) hpb _
                  rw [← hWz] at s12
                  have u0 : Wz.cell? ⟨p, 0, none⟩ = some (.int .i64 x0) := by rw [hWz]; exact (setc_other (.inr (by decide))).trans ((setc_other (.inr (by decide))).trans t0)
                  have u1 : Wz.cell? ⟨p, 1, none⟩ = some (.int .i64 3) := by rw [hWz]; exact (setc_other (.inr (by decide))).trans ((setc_other (.inr (by decide))).trans t1)
                  have u2 : Wz.cell? ⟨p, 2, none⟩ = some (.int .i64 y) := by rw [hWz]; exact setc_same ((setc_other (.inr (by decide))).trans t2)
                  have u3 : Wz.cell? ⟨p, 3, none⟩ = some (.int .i64 xs) := by rw [hWz]; exact (setc_other (.inr (by decide))).trans (setc_same t3)
                  have u4 : Wz.cell? ⟨p, 4, none⟩ = some (.string ⟨#[]⟩) := by rw [hWz]; exact (setc_other (.inr (by decide))).trans ((setc_other (.inr (by decide))).trans t4)
                  have HOZ := Lib.hid (own_below11 HO.out hbz)
                  have HBZ := Lib.hid (HB.out.trans (hbz.mono hwr))
                  clear hWz hbz HBW HO HB
                  go_wp2_with (at_builtin; refine wpList_append_src _ rfl _ _ 22 22 rfl w.heap.size 38 i0 zero5 5 48 Tryd.underlying22 HI0.out HZ0.out HZ1.out HZ2.out rfl (.slice aa k cc) k (rcs cs) rfl (HOZ.out.alloc _) _ 1 (rcs [(⟨x0, ⟨3, y, xs, ⟨#[]⟩⟩⟩ : Rm.C)]) rfl (lit_srcr Wz (⟨x0, ⟨3, y, xs, ⟨#[]⟩⟩⟩ : Rm.C)) ?qa ?qb ?qc ?_)
                  case qa => unfold maxLen; omega
                  case qb => omega
                  case qc => have := HBZ.out.size; simp; omega
                  intro v4 w4 hown hgrow hat4
                  rw [← rcs_append] at hown
                  obtain ⟨a4, c4, rfl⟩ := own_formr hown
                  have HO4 := Lib.hid hown
                  have HB4 := Lib.hid ((HBZ.out.alloc HBZ.out.size (.cells #[.int .i64 x0, .int .i64 3, .int .i64 y, .int .i64 xs, .string ⟨#[]⟩] 38)).grown hgrow (by have := HBZ.out.size; simp; omega) (fun i hi => (HOZ.out.lt i hi).1))
                  have HSZ4 : Hid (∀ c ∈ cs ++ [(⟨x0, ⟨3, y, xs, ⟨#[]⟩⟩⟩ : Rm.C)], c.v.s.size ≤ 100000) := fun c hc => by
                    rcases List.mem_append.1 hc with hc | hc
                    · exact HSZ.out c hc
                    · rw [List.mem_singleton] at hc; subst hc; exact (Nat.zero_le _)
                  clear hown hgrow hat4
                  go_wp2
                  go_roundw
                  case rel => exact ⟨i + 1, a3, k + 1, a4, c4, _, by omega, by go_num, by omega, by go_num, (by first | rfl | trivial), by omega, HSZ4, by rw [← HM.out]; exact HF, HO4, HB4⟩
                  case measure => simp [Lib.intOf]; omega
            · have hx12 : x1 = 1 ∨ x1 = 2 := by omega
              have qx3 : (x1 == 3) = false := by simpa using hx33
              go_upto_region 18 with (fail)
              rw [← HQ3.out.1, ← HQ3.out.2]
              go_wp2_with fail
              go_loopw [5, 15] (fun av kv wx => ∃ (kk a3 : Nat), kk ≤ 1 ∧ kv = .int .i64 (kk : Int) ∧ a3 ≤ l.length ∧ av = .int .i64 (a3 : Int) ∧
                ((kk = 0 ∧ a3 = a2 ∧ wx = W3) ∨ (kk = 1 ∧ ∃ x, Hid (Rm.rnum (l.drop a2) = some (x, l.drop a3)) ∧ a2 < a3 ∧ wx = W3.setCell ⟨p, 2, none⟩ (.int .i64 x)))) (fun _ kv _ => 2 - (Lib.intOf kv).toNat)
              case atStart => exact ⟨0, a2, by omega, rfl, ha2, rfl, .inl ⟨rfl, rfl, rfl⟩⟩
              case round =>
                clear hs HG
                obtain ⟨kk, a3, hkk, rfl, ha3, rfl, hcase⟩ := hrel
                rcases hcase with ⟨rfl, rfl, hwx⟩ | ⟨rfl, x, HX, hlt1, hwx⟩
                all_goals rw [hwx]
                all_goals clear hwx
                · have HBX2 : Hid (Below w.heap.size w W3) := HBX.out
                  obtain ⟨gb, gm, gd, hs, HG, HT⟩ := get_at HV.out a3 (by omega) (by omega)
                  have HGG := Lib.hid (HG.out _ HBX2.out)
                  obtain ⟨x, hx⟩ : ∃ x, x = (dv (l.drop a3)).1 := ⟨_, rfl⟩
                  obtain ⟨jj, hjj⟩ : ∃ jj, jj = (dv (l.drop a3)).2 := ⟨_, rfl⟩
                  rw [← hx, ← hjj] at HGG
                  clear HG HT
                  by_cases hj0 : jj = 0
                  · have HNO : Hid (R = none) := by
                      show _ = _
                      have hno : Rm.rnum (l.drop a3) = none := rnum_no (by rw [← hjj]; exact hj0)
                      rw [HR.out, lft_none (by rw [HRC.out]; unfold Rm.rval; rw [if_neg (by omega), if_neg (by omega), hno]; rfl)]
                    subst hj0
                    clear hx hjj HR HRC
                    go_wp2_with fail
                    refine HGG.out.mono ?_
                    rintro e w2 ⟨rfl, rfl⟩
                    clear HGG
                    go_wp2
                    go_ret2
                    rw [HNO.out]
                    exact ⟨none, 0, 0, rfl, rfl, .inl ⟨_, _, rfl, rfl⟩, HBX2.out⟩
                  · obtain ⟨hr, hb⟩ := rnum_at (l := l) (k := a3) (by rw [← hjj]; exact hj0)
                    rw [← hx, ← hjj] at hr
                    rw [← hjj] at hb
                    have HX := Lib.hid hr
                    have qjj : ((jj : Int) == 0) = false := by simp; omega
                    have hjp : 0 < jj := by omega
                    clear hx hjj hr hj0
                    go_wp2_with fail
                    refine HGG.out.mono ?_
                    rintro e w2 ⟨rfl, rfl⟩
                    clear HGG
                    go_wp2
                    go_roundw
                    case rel => exact ⟨1, a3 + jj, by omega, by go_num, hb, by go_num, .inr ⟨rfl, x, HX, by omega, rfl⟩⟩
                    case measure => simp [Lib.intOf]
                · have hcell : Rm.rcell (l.drop at_) = some (⟨x0, ⟨x1, x, 0, ⟨#[]⟩⟩⟩, l.drop a3) := by
                    rw [HRC.out]; unfold Rm.rval; rw [if_neg (by omega), if_neg (by omega), HX.out]; dsimp only; rw [if_neg (by omega)]; rfl
                  have HF : Hid (R = lft m (cs ++ [⟨x0, ⟨x1, x, 0, ⟨#[]⟩⟩⟩]) (l.drop a3)) := by show _ = _; rw [HR.out, lft_some hcell]
                  have s12 : (W3.setCell ⟨p, 2, none⟩ (.int .i64 x)).cell? ⟨q, 1, none⟩ = some (.int .i64 x1) := (setc_other (.inl (fun e => hpq e.symm))).trans s1
                  clear HX hcell HR HRC
                  obtain ⟨Wz, hWz⟩ : ∃ Wz, Wz = W3.setCell ⟨p, 2, none⟩ (.int .i64 x) := ⟨_, rfl⟩
                  rw [← hWz]
                  have hbz : Below wo.heap.size wo Wz := by rw [hWz]; exact HBW.out.setCell (p := ⟨p, 2, none⟩) hpb _
                  rw [← hWz] at s12
                  have u0 : Wz.cell? ⟨p, 0, none⟩ = some (.int .i64 x0) := by rw [hWz]; exact (setc_other (.inr (by decide))).trans t0
                  have u1 : Wz.cell? ⟨p, 1, none⟩ = some (.int .i64 x1) := by rw [hWz]; exact (setc_other (.inr (by decide))).trans t1
                  have u2 : Wz.cell? ⟨p, 2, none⟩ = some (.int .i64 x) := by rw [hWz]; exact setc_same t2
                  have u3 : Wz.cell? ⟨p, 3, none⟩ = some (.int .i64 0) := by rw [hWz]; exact (setc_other (.inr (by decide))).trans t3
                  have u4 : Wz.cell? ⟨p, 4, none⟩ = some (.string ⟨#[]⟩) := by rw [hWz]; exact (setc_other (.inr (by decide))).trans t4
                  have HOZ := Lib.hid (own_below11 HO.out hbz)
                  have HBZ := Lib.hid (HB.out.trans (hbz.mono hwr))
                  clear hWz hbz HBW HO HB
                  go_wp2_with (at_builtin; refine wpList_append_src _ rfl _ _ 22 22 rfl w.heap.size 38 i0 zero5 5 48 Tryd.underlying22 HI0.out HZ0.out HZ1.out HZ2.out rfl (.slice aa k cc) k (rcs cs) rfl (HOZ.out.alloc _) _ 1 (rcs [(⟨x0, ⟨x1, x, 0, ⟨#[]⟩⟩⟩ : Rm.C)]) rfl (lit_srcr Wz (⟨x0, ⟨x1, x, 0, ⟨#[]⟩⟩⟩ : Rm.C)) ?qa ?qb ?qc ?_)
                  case qa => unfold maxLen; omega
                  case qb => omega
                  case qc => have := HBZ.out.size; simp; omega
                  intro v4 w4 hown hgrow hat4
                  rw [← rcs_append] at hown
                  obtain ⟨a4, c4, rfl⟩ := own_formr hown
                  have HO4 := Lib.hid hown
                  have HB4 := Lib.hid ((HBZ.out.alloc HBZ.out.size (.cells #[.int .i64 x0, .int .i64 x1, .int .i64 x, .int .i64 0, .string ⟨#[]⟩] 38)).grown hgrow (by have := HBZ.out.size; simp; omega) (fun i hi => (HOZ.out.lt i hi).1))
                  have HSZ4 : Hid (∀ c ∈ cs ++ [(⟨x0, ⟨x1, x, 0, ⟨#[]⟩⟩⟩ : Rm.C)], c.v.s.size ≤ 100000) := fun c hc => by
                    rcases List.mem_append.1 hc with hc | hc
                    · exact HSZ.out c hc
                    · rw [List.mem_singleton] at hc; subst hc; exact (Nat.zero_le _)
                  clear hown hgrow hat4
                  go_wp2
                  go_roundw
                  case rel => exact ⟨i + 1, a3, k + 1, a4, c4, _, by omega, by go_num, by omega, by go_num, (by first | rfl | trivial), by omega, HSZ4, by rw [← HM.out]; exact HF, HO4, HB4⟩
                  case measure => simp [Lib.intOf]; omega
    · have hiM : i = M := by omega
      have hltI : ¬ (i : Int) < (M : Int) := by omega
      have HRE : Hid (R = if l.drop at_ = [] ∧ Rm.right cs = true then some cs else none) := by
        show _ = _
        rw [HR.out, hiM, Nat.sub_self, lft_zero]
      clear HR hiM
      by_cases hend : at_ = n
      · have hd : l.drop at_ = [] := List.drop_of_length_le (by omega)
        have HRR := Lib.hid (ref_right11 aa k cc cs wr (Rs.of_own HO.out) (by unfold maxLen; omega) (fun c hc => by have := HSZ.out c hc; unfold maxLen; omega))
        obtain ⟨Q, hQ⟩ : ∃ Q, Q = Rm.right cs := ⟨_, rfl⟩
        rw [← hQ] at HRR
        have HF : Hid (R = if Q = true then some cs else none) := by
          show _ = _
          rw [HRE.out, hQ, hd]; simp
        have qe : ((at_ : Int) != (n : Int)) = false := by simp; omega
        clear HRE hQ hd hend
        go_wp2_with fail
        refine HRR.out.mono ?_
        rintro e w5 ⟨rfl, hb⟩
        have HB5 := Lib.hid (HB.out.trans (hb.mono hwr))
        have HY := Lib.hid ((Rs.of_own HO.out).keep hb)
        have HKC := Lib.hid (own_lenr HO.out)
        clear hb HO HRR HB
        cases Q
        · go_wp2
          go_ret2
          rw [HF.out]
          exact ⟨none, 0, 0, rfl, rfl, .inl ⟨_, _, rfl, rfl⟩, HB5.out⟩
        · go_wp2
          go_ret2
          rw [HF.out]
          exact ⟨aa, k, cc, rfl, HKC.out, HY.out, HB5.out⟩
      · have hd : l.drop at_ ≠ [] := fun e => by
          have := congrArg List.length e
          rw [List.length_drop] at this
          simp at this; omega
        have HNO : Hid (R = none) := by
          show _ = _
          rw [HRE.out, if_neg (fun h => hd h.1)]
        have qe : ((at_ : Int) != (n : Int)) = true := by simp; omega
        clear HRE hd hend
        go_wp2
        go_ret2
        rw [HNO.out]
        exact ⟨none, 0, 0, rfl, rfl, .inl ⟨_, _, rfl, rfl⟩, HB.out⟩
end Go.Proofs.YtmipomglbccjbaaDoor
