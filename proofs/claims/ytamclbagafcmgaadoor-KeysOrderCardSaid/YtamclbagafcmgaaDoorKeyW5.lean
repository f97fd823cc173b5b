/- KeysOrder walked, over the bundle of contracts. -/
import Derived.Test.YtamclbagafcmgaaDoorKeyW4
import Derived.Test.YtamclbagafcmgaaDoorValRc
import Derived.BigRegion
import Derived.Deep.CutRange
namespace Go.Proofs.YtamclbagafcmgaaDoor
open Go.RowKit

theorem firstO_snoc (x y : Vm.Cl) : ∀ a b : List Vm.Cl, a.length = b.length → Vm.firstO (a ++ [x]) (b ++ [y]) = if Vm.firstO a b = 0 then Vm.order x y else Vm.firstO a b
  | [], [], _ => by
    show (if Vm.order x y = 0 then 0 else Vm.order x y) = if (0 : Int) = 0 then Vm.order x y else 0
    rw [if_pos rfl]
    split
    · rename_i h; exact h.symm
    · rfl
  | [], _ :: _, h => by simp at h
  | _ :: _, [], h => by simp at h
  | u :: a, v :: b, h => by
    rw [List.cons_append, List.cons_append, Vm.firstO, Vm.firstO]
    by_cases ho : Vm.order u v = 0
    · rw [if_pos ho, if_pos ho]; exact firstO_snoc x y a b (by simpa using h)
    · rw [if_neg ho, if_neg ho, if_neg ho]
theorem min2 (x y M : Int) (h : (if y < x then y else x) = M) (W : World) : (Builtin.min_ #[3, 3] 3 #[.int .i64 x, .int .i64 y]).run Tryd.prog W = .ok (.int .i64 M) W := by
  rw [← h]
  simp [Builtin.min_, Builtin.min2]
theorem cb_self (l : List UInt8) : Lib.compareBytes l l = 0 := (Vm.cb_zero l l).2 rfl
/-- what the loop has seen so far -/
def Seen (xs ys : List Vm.Cl) (j : Nat) : Prop := ∀ (i : Nat) (x y : Vm.Cl), i < j → xs[i]? = some x → ys[i]? = some y → Vm.rightB x = true ∧ Vm.rightB y = true ∧ Vm.kin x y
theorem Seen.step {xs ys : List Vm.Cl} {j : Nat} (h : Seen xs ys j) (hx : j < xs.length) (hy : j < ys.length) (r1 : Vm.rightB xs[j] = true) (r2 : Vm.rightB ys[j] = true) (k : Vm.kin xs[j] ys[j]) : Seen xs ys (j + 1) := by
  intro i x y hi h1 h2
  by_cases e : i = j
  · subst e
    rw [List.getElem?_eq_getElem hx] at h1
    rw [List.getElem?_eq_getElem hy] at h2
    rw [← Option.some.inj h1, ← Option.some.inj h2]
    exact ⟨r1, r2, k⟩
  · exact h i x y (by omega) h1 h2
theorem seen_all {xs ys : List Vm.Cl} {n : Nat} (h : Seen xs ys n) (hx : xs.length = n) (hy : ys.length = n) (ix : ∀ c ∈ xs, i64 c.n) (iy : ∀ c ∈ ys, i64 c.n) :
    Vm.part (Vm.put xs) (Vm.put ys) = Vm.firstO xs ys ∧ (Vm.firstO xs ys = 0 → Vm.put xs = Vm.put ys) := by
  refine Vm.part_put xs ys (by omega) (fun c hc => ?_) (fun c hc => ?_) (fun p hp => ?_)
  · obtain ⟨i, hi⟩ := List.getElem?_of_mem hc
    have hl := (List.getElem?_eq_some_iff.1 hi).1
    exact ⟨(h i c ys[i] (by omega) hi (List.getElem?_eq_getElem (by omega))).1, ix c hc⟩
  · obtain ⟨i, hi⟩ := List.getElem?_of_mem hc
    have hl := (List.getElem?_eq_some_iff.1 hi).1
    exact ⟨(h i xs[i] c (by omega) (List.getElem?_eq_getElem (by omega)) hi).2.1, iy c hc⟩
  · obtain ⟨i, hi⟩ := List.getElem?_of_mem hp
    obtain ⟨x, y⟩ := p
    rw [List.getElem?_zip_eq_some] at hi
    have hl := (List.getElem?_eq_some_iff.1 hi.1).1
    exact (h i x y (by omega) hi.1 hi.2).2.2
theorem Bx4.keep {g o : Nat} {c : Vm.Cl} {w w' : World} (h : Bx4 g o c w) (hg : g < w.heap.size) (hb : Below w.heap.size w w') : Bx4 g o c w' :=
  ⟨(hb.cell (p := ⟨g, o, none⟩) hg).trans h.c0, (hb.cell (p := ⟨g, o + 1, none⟩) hg).trans h.c1, (hb.cell (p := ⟨g, o + 2, none⟩) hg).trans h.c2, (hb.cell (p := ⟨g, o + 3, none⟩) hg).trans h.c3⟩
/-- two values in blocks of their own, and the arguments -/
structure Od (w : World) (a : Value) (xs : List Vm.Cl) (b : Value) (ys : List Vm.Cl) (ga gb : Nat) (x y : Vm.Cl) (W : World) : Prop where
  x : Bx ga x.k x.n x.sc x.s W
  y : Bx gb y.k y.n y.sc y.s W
  j : Jn w a xs b ys W
theorem Od.keep {w w1 w2 : World} {a b : Value} {xs ys : List Vm.Cl} {ga gb : Nat} {x y : Vm.Cl} (h : Od w a xs b ys ga gb x y w1) (hb : Below w1.heap.size w1 w2) : Od w a xs b ys ga gb x y w2 := ⟨h.x.keep hb, h.y.keep hb, h.j.keep hb⟩
theorem two_k (w : World) (x y : Obj) : Below w.heap.size w ((w.alloc x).alloc y) := ((Below.refl _ _).alloc (Nat.le_refl _) _).alloc (by simp) _
theorem bx_next (w : World) (o : Obj) (k n sc : Int) (s : ByteArray) (t : TypeId) : Bx (w.heap.size + 1) k n sc s ((w.alloc o).alloc (.cells #[.int .i64 k, .int .i64 n, .int .i64 sc, .string s] t)) := by
  have h := Bx.new (w.alloc o) k n sc s t
  rw [show (w.alloc o).heap.size = w.heap.size + 1 by simp] at h
  exact h
theorem Od.of {w w1 : World} {a b : Value} {xs ys : List Vm.Cl} {x y : Vm.Cl} (h : Jn w a xs b ys w1) (u : TypeId) :
    Od w a xs b ys w1.heap.size (w1.heap.size + 1) x y ((w1.alloc (.cells #[.int .i64 x.k, .int .i64 x.n, .int .i64 x.sc, .string x.s] u)).alloc (.cells #[.int .i64 y.k, .int .i64 y.n, .int .i64 y.sc, .string y.s] u)) :=
  ⟨(Bx.new w1 x.k x.n x.sc x.s u).keep ((Below.refl _ _).alloc (Nat.le_refl _) _), bx_next w1 _ y.k y.n y.sc y.s u, h.keep (two_k w1 _ _)⟩
theorem Od.of2 {w w1 : World} {a b : Value} {xs ys : List Vm.Cl} {x y : Vm.Cl} (h : Jn w a xs b ys w1) (u : TypeId) :
    Od w a xs b ys (w1.heap.size + 1) w1.heap.size x y ((w1.alloc (.cells #[.int .i64 y.k, .int .i64 y.n, .int .i64 y.sc, .string y.s] u)).alloc (.cells #[.int .i64 x.k, .int .i64 x.n, .int .i64 x.sc, .string x.s] u)) :=
  ⟨bx_next w1 _ x.k x.n x.sc x.s u, (Bx.new w1 y.k y.n y.sc y.s u).keep ((Below.refl _ _).alloc (Nat.le_refl _) _), h.keep (two_k w1 _ _)⟩

set_option maxRecDepth 100000 in
set_option maxHeartbeats 4000000 in
theorem walk_order (V : KeyCon) (a b : Option Addr) (n m ca cb : Nat) (xs ys : List Vm.Cl) (w : World) (he : EnvV w) (ha : Vs (.slice a n ca) xs w) (hb : Vs (.slice b m cb) ys w) (hn : n ≤ maxLen) (hm : m ≤ maxLen) (hia : ∀ c ∈ xs, i64 c.n ∧ c.s.size ≤ maxLen) (hib : ∀ c ∈ ys, i64 c.n ∧ c.s.size ≤ maxLen) :
    Calls Tryd.prog 5 #[.slice a n ca, .slice b m cb] w (Says true w) := by
  have hnl : n = xs.length := by obtain ⟨_, _, e⟩ := ha.form; injection e
  have hml : m = ys.length := by obtain ⟨_, _, e⟩ := hb.form; injection e
  have n1 : n ≤ xs.length := by omega
  have n2 : xs.length ≤ n := by omega
  have m1 : m ≤ ys.length := by omega
  have m2 : ys.length ≤ m := by omega
  clear hnl hml
  have X0 : Hid (Jn w (.slice a n ca) xs (.slice b m cb) ys w) := ⟨ha, hb, he, Below.refl _ _⟩
  have HIA := Lib.hid hia
  have HIB := Lib.hid hib
  clear ha hb he hia hib
  go_enter Tryd.func5, Tryd.ntmps5
  go_wp2_with fail
  refine (first5_true V _ X0.out.env).mono ?_
  rintro e w1 ⟨rfl, hb⟩
  have X1 := Lib.hid (X0.out.keep hb)
  clear hb X0
  go_wp2_with fail
  refine (law5_long _ _ _ xs _ X1.out.a hn (fun c hc => (HIA.out c hc).2)).mono ?_
  rintro e w2 ⟨bl, rfl, hb, hlong⟩
  have X2 := Lib.hid (X1.out.keep hb)
  clear hb X1
  by_cases hbl : bl = true
  · subst hbl
    clear hlong
    go_wp2
    go_ret
    exact Says.mk rfl X2.out.bel
  obtain rfl : bl = false := by simpa using hbl
  clear hbl
  obtain ⟨a20, a500⟩ := hlong rfl
  clear hlong
  go_wp2_with fail
  refine (law5_long _ _ _ ys _ X2.out.b hm (fun c hc => (HIB.out c hc).2)).mono ?_
  rintro e w3 ⟨bl, rfl, hb, hlong⟩
  have X3 := Lib.hid (X2.out.keep hb)
  clear hb X2
  by_cases hbl : bl = true
  · subst hbl
    clear hlong
    go_wp2
    go_ret
    exact Says.mk rfl X3.out.bel
  obtain rfl : bl = false := by simpa using hbl
  clear hbl
  obtain ⟨b20, b500⟩ := hlong rfl
  clear hlong
  have HA5 : Hid (∀ c ∈ xs, i64 c.n ∧ c.s.size ≤ 500) := fun c hc => ⟨(HIA.out c hc).1, a500 c hc⟩
  have HB5 : Hid (∀ c ∈ ys, i64 c.n ∧ c.s.size ≤ 500) := fun c hc => ⟨(HIB.out c hc).1, b500 c hc⟩
  clear HIA HIB a500 b500
  by_cases hnm : n = m
  case neg =>
    have q : ((n : Int) != (m : Int)) = true := by rw [bne_iff_ne]; omega
    clear hnm
    go_wp2
    go_ret
    exact Says.mk rfl X3.out.bel
  subst hnm
  have q : ((n : Int) != (n : Int)) = false := by simp
  go_wp2_with fail
  go_loopw [5, 29] (fun cv iv wr => ∃ (j : Nat) (C : Int), j ≤ n ∧ iv = .int .i64 (j : Int) ∧ cv = .int .i64 C ∧ Hid (C = Vm.firstO (xs.take j) (ys.take j)) ∧ Hid (Seen xs ys j) ∧ Hid (Jn w (.slice a n ca) xs (.slice b n cb) ys wr)) (fun _ iv _ => n - (Lib.intOf iv).toNat)
  case atStart => exact ⟨0, 0, by omega, rfl, rfl, rfl, fun i x y hi => by omega, X3.out⟩
  case round =>
    obtain ⟨j, C, hj, rfl, rfl, HC, HS, HJ⟩ := hrel
    by_cases hlt : j < n
    · have hjx : j < xs.length := by omega
      have hjy : j < ys.length := by omega
      obtain ⟨g, off, ha, -, hg, hcx⟩ := HJ.out.a.at j hjx
      obtain ⟨g', off', hb, -, hg', hcy⟩ := HJ.out.b.at j hjy
      have hix := HA5.out xs[j] (List.getElem_mem hjx)
      have hiy := HB5.out ys[j] (List.getElem_mem hjy)
      have HST : Hid (Vm.rightB xs[j] = true → Vm.rightB ys[j] = true → Vm.kin xs[j] ys[j] → Seen xs ys (j + 1)) := fun r1 r2 k => HS.out.step hjx hjy r1 r2 k
      have HFO : Hid (Vm.firstO (xs.take (j + 1)) (ys.take (j + 1)) = if C = 0 then Vm.order xs[j] ys[j] else C) := by
        show _ = _
        rw [← List.take_append_getElem hjx, ← List.take_append_getElem hjy, firstO_snoc _ _ _ _ (by rw [List.length_take, List.length_take]; omega), ← HC.out]
      obtain ⟨x, hx⟩ : ∃ x, x = xs[j] := ⟨_, rfl⟩
      obtain ⟨y, hy⟩ : ∃ y, y = ys[j] := ⟨_, rfl⟩
      rw [← hx, ← hy] at HST HFO
      rw [← hx] at hcx hix
      rw [← hy] at hcy hiy
      clear hx hy HC HS
      subst ha; subst hb
      have HRX := Lib.hid (ref3_right x.k x.n x.sc x.s · (by unfold maxLen; omega))
      have HRY := Lib.hid (ref3_right y.k y.n y.sc y.s · (by unfold maxLen; omega))
      have HOR : Hid (Vm.rightB x = true → Vm.rightB y = true → ∀ W, Calls Tryd.prog 19 #[.agg #[.int .i64 x.k, .int .i64 x.n, .int .i64 x.sc, .string x.s], .agg #[.int .i64 y.k, .int .i64 y.n, .int .i64 y.sc, .string y.s]] W (Num (Vm.order x y) W)) := by
        intro r1 r2 W
        have h := ref3_order x y W hix.1 hiy.1 (by unfold maxLen; omega) (by unfold maxLen; omega)
        have e1 : Vm.plain x = x := by unfold Vm.plain; rw [r1]; rfl
        have e2 : Vm.plain y = y := by unfold Vm.plain; rw [r2]; rfl
        rw [e1, e2] at h
        exact h
      have HCY := Lib.hid hcy
      obtain ⟨xk, xn, xc, xz⟩ := x
      obtain ⟨yk, yn, yc', yz⟩ := y
      obtain ⟨c0, c1, c2, c3⟩ := hcx
      dsimp only at c0 c1 c2 c3 HRX HRY HOR
      cases rx : Vm.rightB ⟨xk, xn, xc, xz⟩
      · rw [rx] at HRX
        clear HST HFO HOR HCY hcy HRY
        go_wp2_with fail
        refine (HRX.out _).mono ?_
        rintro e w4 ⟨rfl, hb⟩
        have J4 := Lib.hid (HJ.out.keep hb)
        clear hb HJ c0 c1 c2 c3
        go_wp2
        go_ret
        exact Says.mk rfl J4.out.bel
      rw [rx] at HRX
      go_wp2_with fail
      refine (HRX.out _).mono ?_
      rintro e w4 ⟨rfl, hb⟩
      have J4 := Lib.hid (HJ.out.keep hb)
      have cx4 := Lib.hid (Bx4.keep (c := ⟨xk, xn, xc, xz⟩) ⟨c0, c1, c2, c3⟩ hg hb)
      have cy4 := Lib.hid (HCY.out.keep hg' hb)
      have g4 : g < w4.heap.size := by have := hb.size; omega
      have g4' : g' < w4.heap.size := by have := hb.size; omega
      clear hb HJ c0 c1 c2 c3 hcy HCY hg hg' HRX
      have e0 := cy4.out.c0; have e1 := cy4.out.c1; have e2 := cy4.out.c2; have e3 := cy4.out.c3
      dsimp only at e0 e1 e2 e3
      cases ry : Vm.rightB ⟨yk, yn, yc', yz⟩
      · rw [ry] at HRY
        clear HST HFO HOR
        go_wp2_with fail
        refine (HRY.out _).mono ?_
        rintro e w5 ⟨rfl, hb⟩
        have J5 := Lib.hid (J4.out.keep hb)
        clear hb J4 e0 e1 e2 e3
        go_wp2
        go_ret
        exact Says.mk rfl J5.out.bel
      rw [ry] at HRY
      have HST2 := Lib.hid (HST.out rx ry)
      have HOR2 := Lib.hid (HOR.out rx ry)
      clear HST HOR rx ry
      go_wp2_with fail
      refine (HRY.out _).mono ?_
      rintro e w5 ⟨rfl, hb⟩
      have J5 := Lib.hid (J4.out.keep hb)
      have cx5 := Lib.hid (cx4.out.keep g4 hb)
      have cy5 := Lib.hid (cy4.out.keep g4' hb)
      have g5 : g < w5.heap.size := by have := hb.size; omega
      have g5' : g' < w5.heap.size := by have := hb.size; omega
      clear hb J4 cx4 cy4 g4 g4' HRY e0 e1 e2 e3
      have c0 := cx5.out.c0; have c1 := cx5.out.c1; have c2 := cx5.out.c2; have c3 := cx5.out.c3
      have e0 := cy5.out.c0; have e1 := cy5.out.c1; have e2 := cy5.out.c2; have e3 := cy5.out.c3
      dsimp only at c0 c1 c2 c3 e0 e1 e2 e3
      go_upto_region 11 with (fail)
      go_cut [7, 8] from 30 to 81 (fun s7 s8 wx => ∃ ga gb, s7 = .pointer (some ⟨ga, 0, none⟩) ∧ s8 = .pointer (some ⟨gb, 0, none⟩) ∧ Hid (Od w (.slice (some ⟨g, off, none⟩) n ca) xs (.slice (some ⟨g', off', none⟩) n cb) ys ga gb ⟨xk, xn, xc, xz⟩ ⟨yk, yn, yc', yz⟩ wx))
      case first =>
        go_region
        all_goals
          go_wp2_with fail
          go_meet
          first
          | exact ⟨_, _, rfl, rfl, (Od.of J5.out _).keep (bdr _)⟩
          | exact ⟨_, _, rfl, rfl, (Od.of2 J5.out _).keep (bdr _)⟩
      case rest =>
        obtain ⟨ga, gb, rfl, rfl, O6⟩ := hcut
        clear J5 cx5 cy5 g5 g5' c0 c1 c2 c3 e0 e1 e2 e3
        have d0 := O6.out.x.c0; have d1 := O6.out.x.c1; have d2 := O6.out.x.c2; have d3 := O6.out.x.c3
        have f0 := O6.out.y.c0; have f1 := O6.out.y.c1; have f2 := O6.out.y.c2; have f3 := O6.out.y.c3
        dsimp only at d0 d1 d2 d3 f0 f1 f2 f3
        by_cases k0 : xk = 0
        · have q0 : (xk != 0) = false := by simpa using k0
          have HK := Lib.hid (HST2.out (.inl k0))
          clear k0 HST2
          by_cases hC : C = 0
          · subst hC
            have HF1 : Hid (Vm.order ⟨xk, xn, xc, xz⟩ ⟨yk, yn, yc', yz⟩ = Vm.firstO (xs.take (j + 1)) (ys.take (j + 1))) := by show _ = _; rw [HFO.out, if_pos rfl]
            clear HFO
            go_wp2_with fail
            refine (HOR2.out _).mono ?_
            rintro e w7 ⟨rfl, hb⟩
            have O7 := Lib.hid (O6.out.keep hb)
            clear hb O6 HOR2
            go_wp2
            go_roundw
            case rel => exact ⟨j + 1, _, by omega, by go_num, rfl, HF1.out, HK.out, O7.out.j⟩
            case measure => simp [Lib.intOf]; omega
          · have qC : (C == 0) = false := by rw [beq_eq_false_iff_ne]; exact hC
            have HF1 : Hid (C = Vm.firstO (xs.take (j + 1)) (ys.take (j + 1))) := by show _ = _; rw [HFO.out, if_neg hC]
            clear HFO hC HOR2
            go_wp2
            go_roundw
            case rel => exact ⟨j + 1, _, by omega, by go_num, rfl, HF1.out, HK.out, O6.out.j⟩
            case measure => simp [Lib.intOf]; omega
        have q0 : (xk != 0) = true := by simpa using k0
        by_cases k1 : yk = 0
        · have q1 : (yk != 0) = false := by simpa using k1
          have HK := Lib.hid (HST2.out (.inr (.inl k1)))
          clear k0 k1 HST2
          by_cases hC : C = 0
          · subst hC
            have HF1 : Hid (Vm.order ⟨xk, xn, xc, xz⟩ ⟨yk, yn, yc', yz⟩ = Vm.firstO (xs.take (j + 1)) (ys.take (j + 1))) := by show _ = _; rw [HFO.out, if_pos rfl]
            clear HFO
            go_wp2_with fail
            refine (HOR2.out _).mono ?_
            rintro e w7 ⟨rfl, hb⟩
            have O7 := Lib.hid (O6.out.keep hb)
            clear hb O6 HOR2
            go_wp2
            go_roundw
            case rel => exact ⟨j + 1, _, by omega, by go_num, rfl, HF1.out, HK.out, O7.out.j⟩
            case measure => simp [Lib.intOf]; omega
          · have qC : (C == 0) = false := by rw [beq_eq_false_iff_ne]; exact hC
            have HF1 : Hid (C = Vm.firstO (xs.take (j + 1)) (ys.take (j + 1))) := by show _ = _; rw [HFO.out, if_neg hC]
            clear HFO hC HOR2
            go_wp2
            go_roundw
            case rel => exact ⟨j + 1, _, by omega, by go_num, rfl, HF1.out, HK.out, O6.out.j⟩
            case measure => simp [Lib.intOf]; omega
        have q1 : (yk != 0) = true := by simpa using k1
        by_cases k2 : xk = yk
        case neg =>
          have q2 : (xk != yk) = true := by simpa using k2
          clear k0 k1 k2
          clear HFO HOR2 HST2
          go_wp2
          go_ret
          exact Says.mk rfl O6.out.j.bel
        have q2 : (xk != yk) = false := by simpa using k2
        by_cases k3 : xc = yc'
        case neg =>
          have q3 : (xc != yc') = true := by simpa using k3
          clear k0 k1 k2 k3
          clear HFO HOR2 HST2
          go_wp2
          go_ret
          exact Says.mk rfl O6.out.j.bel
        have q3 : (xc != yc') = false := by simpa using k3
        have HK := Lib.hid (HST2.out (.inr (.inr ⟨k2, k3⟩)))
        clear k0 k1 k2 k3 HST2
        by_cases hC : C = 0
        · subst hC
          have HF1 : Hid (Vm.order ⟨xk, xn, xc, xz⟩ ⟨yk, yn, yc', yz⟩ = Vm.firstO (xs.take (j + 1)) (ys.take (j + 1))) := by show _ = _; rw [HFO.out, if_pos rfl]
          clear HFO
          go_wp2_with fail
          refine (HOR2.out _).mono ?_
          rintro e w7 ⟨rfl, hb⟩
          have O7 := Lib.hid (O6.out.keep hb)
          clear hb O6 HOR2
          go_wp2
          go_roundw
          case rel => exact ⟨j + 1, _, by omega, by go_num, rfl, HF1.out, HK.out, O7.out.j⟩
          case measure => simp [Lib.intOf]; omega
        · have qC : (C == 0) = false := by rw [beq_eq_false_iff_ne]; exact hC
          have HF1 : Hid (C = Vm.firstO (xs.take (j + 1)) (ys.take (j + 1))) := by show _ = _; rw [HFO.out, if_neg hC]
          clear HFO hC HOR2
          go_wp2
          go_roundw
          case rel => exact ⟨j + 1, _, by omega, by go_num, rfl, HF1.out, HK.out, O6.out.j⟩
          case measure => simp [Lib.intOf]; omega
    · have hjn : j = n := by omega
      subst hjn
      have hlx : xs.length = j := by omega
      have hly : ys.length = j := by omega
      have hse := seen_all HS.out hlx hly (fun c hc => (HA5.out c hc).1) (fun c hc => (HB5.out c hc).1)
      have hCF : C = Vm.firstO xs ys := by
        have h := HC.out
        rw [← hlx, List.take_length, hlx, ← hly, List.take_length] at h
        exact h
      have hcmp : Lib.compareBytes (Vm.put xs) (Vm.put ys) = C := by
        by_cases h0 : C = 0
        · rw [hse.2 (by rw [← hCF]; exact h0), h0]; exact cb_self _
        · rw [Vm.part_cmp _ _ (by rw [hse.1, ← hCF]; exact h0), hse.1, hCF]
      have HPT : Hid (∀ k, C ≠ 0 → k = min (Vm.put xs).length (Vm.put ys).length → (Vm.put xs).take k ≠ (Vm.put ys).take k) := fun k h hk => Vm.part_take _ _ k (by rw [hse.1, ← hCF]; exact h) hk
      obtain ⟨sA, hsA⟩ : ∃ sA, sA = bstr (Vm.put xs) := ⟨_, rfl⟩
      obtain ⟨sB, hsB⟩ : ∃ sB, sB = bstr (Vm.put ys) := ⟨_, rfl⟩
      have zA : sA.size ≤ 10000 := by rw [hsA, bstr_size]; have := put_len xs; omega
      have zB : sB.size ≤ 10000 := by rw [hsB, bstr_size]; have := put_len ys; omega
      have HT : Hid (∀ W, Calls Tryd.prog 20 #[.string sA, .string sB] W (Num C W)) := by
        intro W
        have h := ref3_texts sA sB W (by unfold maxLen; omega) (by unfold maxLen; omega)
        rw [hsA, hsB] at h ⊢
        rw [← hcmp]
        exact h
      have HPA : Hid (∀ W, Jn w (.slice a j ca) xs (.slice b j cb) ys W → Calls Tryd.prog 10 #[.slice a j ca] W (YtA (Vm.put xs) W)) := fun W h => V.put _ _ _ xs W h.env h.a (by omega) HA5.out
      have HPB : Hid (∀ W, Jn w (.slice a j ca) xs (.slice b j cb) ys W → Calls Tryd.prog 10 #[.slice b j cb] W (YtA (Vm.put ys) W)) := fun W h => V.put _ _ _ ys W h.env h.b (by omega) HB5.out
      have HSA := Lib.hid hsA
      have HSB := Lib.hid hsB
      clear hsA hsB hcmp hCF hse hlx hly HC HS HA5 HB5 hlt
      go_upto_region 17 with (fail)
      have S0 := Lib.hid (HJ.out.keep (bdr _))
      go_cut [9, 10] (fun p q wx => p = .string sA ∧ q = .string sB ∧ Hid (Jn w (.slice a j ca) xs (.slice b j cb) ys wx))
      case first =>
        go_region_with (first
          | (go_at_call_of 10 (Value.slice a j ca); refine (HPA.out _ (by first | exact J1.out | exact S0.out)).mono ?_; rintro e wa ⟨pa, pn, pc, rfl, -, hya, hb⟩; have HYA := Lib.hid hya; have kca := hya.str; rw [← HSA.out] at kca; clear hya; first | (have J2 := Lib.hid (Jn.keep J1.out hb); have kcb2 := (HYB.out.keep hb).str; rw [← HSB.out] at kcb2) | have J1 := Lib.hid (Jn.keep S0.out hb))
          | (go_at_call_of 10 (Value.slice b j cb); refine (HPB.out _ (by first | exact J1.out | exact S0.out)).mono ?_; rintro e wb ⟨qa, qn, qc, rfl, -, hyb, hb⟩; have HYB := Lib.hid hyb; have kcb := hyb.str; rw [← HSB.out] at kcb; clear hyb; first | (have J2 := Lib.hid (Jn.keep J1.out hb); have kca2 := (HYA.out.keep hb).str; rw [← HSA.out] at kca2) | have J1 := Lib.hid (Jn.keep S0.out hb)))
        all_goals
          go_wp2_with fail
          go_meet
          exact ⟨rfl, rfl, J2⟩
      case rest =>
        obtain ⟨rfl, rfl, J8⟩ := hcut
        clear S0 HPA HPB HJ
        obtain ⟨M, hM⟩ : ∃ M : Int, (if (sB.size : Int) < (sA.size : Int) then (sB.size : Int) else (sA.size : Int)) = M := ⟨_, rfl⟩
        have hmn := min2 _ _ M hM
        obtain ⟨k, hk⟩ : ∃ k : Nat, k = min sA.size sB.size := ⟨_, rfl⟩
        have hMk : M = (k : Int) := by rw [← hM]; split <;> omega
        have ka : k ≤ sA.size := by omega
        have kb : k ≤ sB.size := by omega
        have kai : (k : Int) ≤ (sA.size : Int) := by omega
        have kbi : (k : Int) ≤ (sB.size : Int) := by omega
        have hCC : (C != C) = false := by simp
        rw [hMk] at hmn
        by_cases h0 : C = 0
        · subst h0
          clear HPT HSA HSB hk hM hMk
          go_wp2_with fail
          refine (HT.out _).mono ?_
          rintro e w9 ⟨rfl, hb⟩
          have J9 := Lib.hid (J8.out.keep hb)
          clear hb J8 HT
          go_wp2_with fail
          go_quiet (fail)
          have J10 := Lib.hid (J9.out.keep (below_n (Below.refl _ _) nq))
          go_wp2
          go_ret
          exact Says.mk (by first | rfl | simp) J10.out.bel
        · have q0 : (C == 0) = false := by rw [beq_eq_false_iff_ne]; exact h0
          obtain ⟨TA, hTA⟩ : ∃ TA, sA.extract 0 k = TA := ⟨_, rfl⟩
          obtain ⟨TB, hTB⟩ : ∃ TB, sB.extract 0 k = TB := ⟨_, rfl⟩
          have hne : (TA.toList == TB.toList) = false := by
            rw [beq_eq_false_iff_ne, Lib.toList_data, Lib.toList_data, ← hTA, ← hTB, ext_take, ext_take, HSA.out, HSB.out]
            refine HPT.out k h0 ?_
            rw [hk, HSA.out, HSB.out, bstr_size, bstr_size]
          clear HPT HSA HSB hk hM hMk h0
          go_wp2_with fail
          refine (HT.out _).mono ?_
          rintro e w9 ⟨rfl, hb⟩
          have J9 := Lib.hid (J8.out.keep hb)
          clear hb J8 HT
          go_wp2_with fail
          go_quiet (fail)
          have J10 := Lib.hid (J9.out.keep (below_n (Below.refl _ _) nq))
          go_wp2
          go_ret
          exact Says.mk (by first | rfl | simp) J10.out.bel
end Go.Proofs.YtamclbagafcmgaaDoor
