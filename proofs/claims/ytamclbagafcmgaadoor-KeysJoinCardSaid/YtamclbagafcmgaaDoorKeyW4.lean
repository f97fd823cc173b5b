/- KeysJoin walked, over the bundle of contracts. -/
import Derived.Test.YtamclbagafcmgaaDoorKeyW2
import Derived.Deep.RegionWith
namespace Go.Proofs.YtamclbagafcmgaaDoor
open Go.RowKit

theorem next_put (c : Vm.Cl) (r : List Vm.Cl) (hi : i64 c.n) : Vm.next (Vm.put (c :: r)) = some (Vm.plain c, (Vm.one (Vm.plain c)).length) ∧ (Vm.put (c :: r)).drop (Vm.one (Vm.plain c)).length = Vm.put r := by
  rw [Vm.put]
  exact ⟨Vm.next_one _ _ (Vm.plain_right c) (Vm.plain_i64 hi), List.drop_left⟩
/-- two lists of values xs arguments -/
structure Jn (w : World) (a : Value) (xs : List Vm.Cl) (b : Value) (ys : List Vm.Cl) (W : World) : Prop where
  a : Vs a xs W
  b : Vs b ys W
  env : EnvV W
  bel : Below w.heap.size w W
theorem Jn.keep {w w1 w2 : World} {a b : Value} {xs ys : List Vm.Cl} (h : Jn w a xs b ys w1) (hb : Below w1.heap.size w1 w2) : Jn w a xs b ys w2 := ⟨h.a.keep hb, h.b.keep hb, h.env.keep hb, h.bel.trans (hb.mono h.bel.size)⟩
/-- and all of them, and their key -/
abbrev JnC (w : World) (a : Value) (xs : List Vm.Cl) (b : Value) (ys : List Vm.Cl) (l : Value) (cs : List Vm.Cl) (k : Value) (lk : List UInt8) (sk : ByteArray) (W : World) : Prop :=
  (convert 25 9 k).run Tryd.prog W = .ok (.string sk) W ∧ Hid (Jn w a xs b ys W ∧ Vs l cs W ∧ Yt k lk W ∧ sk = bstr lk)
theorem JnC.of {w W : World} {a b l k : Value} {xs ys cs : List Vm.Cl} {lk : List UInt8} {sk : ByteArray} (h : Jn w a xs b ys W) (hl : Vs l cs W) (hk : Yt k lk W) (hs : sk = bstr lk) : JnC w a xs b ys l cs k lk sk W := ⟨by rw [hs]; exact hk.str, h, hl, hk, hs⟩
theorem JnC.jn {w W : World} {a b l k : Value} {xs ys cs : List Vm.Cl} {lk : List UInt8} {sk : ByteArray} (h : JnC w a xs b ys l cs k lk sk W) : Jn w a xs b ys W := h.2.1
theorem JnC.keep {w w1 w2 : World} {a b l k : Value} {xs ys cs : List Vm.Cl} {lk : List UInt8} {sk : ByteArray} (h : JnC w a xs b ys l cs k lk sk w1) (hb : Below w1.heap.size w1 w2) : JnC w a xs b ys l cs k lk sk w2 :=
  JnC.of (h.jn.keep hb) (h.2.2.1.keep hb) (h.2.2.2.1.keep hb) h.2.2.2.2

/-- in the round: two values in blocks, what is left of the key, and the rest -/
structure Rd (w : World) (l : Value) (cs : List Vm.Cl) (r : Value) (lr : List UInt8) (g : Nat) (c : Vm.Cl) (h : Nat) (p : Vm.Cl) (W : World) : Prop where
  c : Bx g c.k c.n c.sc c.s W
  p : Bx h p.k p.n p.sc p.s W
  env : EnvV W
  l : Vs l cs W
  r : Yt r lr W
  bel : Below w.heap.size w W
abbrev RdC (w : World) (l : Value) (cs : List Vm.Cl) (r : Value) (lr : List UInt8) (g : Nat) (c : Vm.Cl) (h : Nat) (p : Vm.Cl) (W : World) : Prop :=
  W.cell? ⟨g, 0, none⟩ = some (.int .i64 c.k) ∧ W.cell? ⟨g, 1, none⟩ = some (.int .i64 c.n) ∧ W.cell? ⟨g, 2, none⟩ = some (.int .i64 c.sc) ∧ W.cell? ⟨g, 3, none⟩ = some (.string c.s) ∧
  W.cell? ⟨h, 0, none⟩ = some (.int .i64 p.k) ∧ W.cell? ⟨h, 1, none⟩ = some (.int .i64 p.n) ∧ W.cell? ⟨h, 2, none⟩ = some (.int .i64 p.sc) ∧ W.cell? ⟨h, 3, none⟩ = some (.string p.s) ∧
  Hid (Rd w l cs r lr g c h p W)
theorem RdC.of {w W : World} {l r : Value} {cs : List Vm.Cl} {lr : List UInt8} {g h : Nat} {c p : Vm.Cl} (x : Rd w l cs r lr g c h p W) : RdC w l cs r lr g c h p W := ⟨x.c.c0, x.c.c1, x.c.c2, x.c.c3, x.p.c0, x.p.c1, x.p.c2, x.p.c3, x⟩
theorem RdC.rd {w W : World} {l r : Value} {cs : List Vm.Cl} {lr : List UInt8} {g h : Nat} {c p : Vm.Cl} (x : RdC w l cs r lr g c h p W) : Rd w l cs r lr g c h p W := x.2.2.2.2.2.2.2.2
theorem RdC.keep {w w1 w2 : World} {l r : Value} {cs : List Vm.Cl} {lr : List UInt8} {g h : Nat} {c p : Vm.Cl} (x : RdC w l cs r lr g c h p w1) (hb : Below w1.heap.size w1 w2) : RdC w l cs r lr g c h p w2 :=
  RdC.of ⟨x.rd.c.keep hb, x.rd.p.keep hb, x.rd.env.keep hb, x.rd.l.keep hb, x.rd.r.keep hb, x.rd.bel.trans (hb.mono x.rd.bel.size)⟩

set_option maxRecDepth 100000 in
set_option maxHeartbeats 4000000 in
theorem walk_join (V : KeyCon) (a b : Option Addr) (n m ca cb : Nat) (xs ys : List Vm.Cl) (w : World) (he : EnvV w) (ha : Vs (.slice a n ca) xs w) (hb : Vs (.slice b m cb) ys w) (hn : n ≤ maxLen) (hm : m ≤ maxLen) (hia : ∀ c ∈ xs, i64 c.n ∧ c.s.size ≤ maxLen) (hib : ∀ c ∈ ys, i64 c.n ∧ c.s.size ≤ maxLen) :
    Calls Tryd.prog 7 #[.slice a n ca, .slice b m cb] w (Says true w) := by
  obtain ⟨i0, hi0, hz0, hz1, hz2⟩ := info_parts info4v
  have HI0 := Lib.hid hi0; have HZ0 := Lib.hid hz0; have HZ1 := Lib.hid hz1; have HZ2 := Lib.hid hz2
  clear hi0 hz0 hz1 hz2
  have hnl : n = xs.length := by obtain ⟨_, _, e⟩ := ha.form; injection e
  have hml : m = ys.length := by obtain ⟨_, _, e⟩ := hb.form; injection e
  have n1 : n ≤ xs.length := by omega
  have n2 : xs.length ≤ n := by omega
  have m1 : m ≤ ys.length := by omega
  have m2 : ys.length ≤ m := by omega
  clear hnl hml
  have X0 : Hid (Jn w (.slice a n ca) xs (.slice b m cb) ys w) := ⟨ha, hb, he, Below.refl _ _⟩
  have HIA := Lib.hid hia
  have HIB := Lib.hid hib
  clear ha hb he hia hib
  go_enter Tryd.func7, Tryd.ntmps7
  go_wp2_with fail
  refine (first5_true V _ X0.out.env).mono ?_
  rintro e w1 ⟨rfl, hb⟩
  have X1 := Lib.hid (X0.out.keep hb)
  clear hb X0
  go_wp2_with fail
  refine (law5_long _ _ _ xs _ X1.out.a hn (fun c hc => (HIA.out c hc).2)).mono ?_
  rintro e w2 ⟨bl, rfl, hb, hlong⟩
  have X2 := Lib.hid (X1.out.keep hb)
  clear hb X1
  by_cases hbl : bl = true
  · subst hbl
    clear hlong
    go_wp2
    go_ret
    exact Says.mk rfl X2.out.bel
  obtain rfl : bl = false := by simpa using hbl
  clear hbl
  obtain ⟨a20, a500⟩ := hlong rfl
  clear hlong
  go_wp2_with fail
  refine (law5_long _ _ _ ys _ X2.out.b hm (fun c hc => (HIB.out c hc).2)).mono ?_
  rintro e w3 ⟨bl, rfl, hb, hlong⟩
  have X3 := Lib.hid (X2.out.keep hb)
  clear hb X2
  by_cases hbl : bl = true
  · subst hbl
    clear hlong
    go_wp2
    go_ret
    exact Says.mk rfl X3.out.bel
  obtain rfl : bl = false := by simpa using hbl
  clear hbl
  obtain ⟨b20, b500⟩ := hlong rfl
  clear hlong
  have HA5 : Hid (∀ c ∈ xs, i64 c.n ∧ c.s.size ≤ 500) := fun c hc => ⟨(HIA.out c hc).1, a500 c hc⟩
  have HB5 : Hid (∀ c ∈ ys, i64 c.n ∧ c.s.size ≤ 500) := fun c hc => ⟨(HIB.out c hc).1, b500 c hc⟩
  clear HIA HIB a500 b500
  have hsrc := (X3.out.a.keep ((Below.refl _ _).alloc (Nat.le_refl _) (.cells #[] 29))).src
  rw [show xs.length = n by omega] at hsrc
  have HSR := Lib.hid hsrc
  clear hsrc
  go_wp2_with (at_builtin; refine wpList_append_src _ rfl (.tmp 23) (.tmp 24) 22 22 rfl w3.heap.size 29 i0 _ 4 40 Tryd.underlying22 HI0.out HZ0.out HZ1.out HZ2.out rfl (.slice (some ⟨w3.heap.size, 0, none⟩) 0 0) 0 [] rfl (World.ownsRow_lit w3 #[] 0 (Nat.le_refl _) (Nat.zero_le _) rfl) _ n (vcs xs) rfl ?qs ?qa ?qb ?qc ?_)
  case qs => exact HSR.out
  case qa => unfold maxLen; omega
  case qb => omega
  case qc => simp
  intro v2 w4 hown hgrow hat
  try rw [Nat.zero_add] at hown
  try rw [List.nil_append] at hown
  obtain ⟨a2, c2, hv2⟩ : ∃ a2 c2, v2 = .slice a2 n c2 := by
    obtain ⟨a2, c2, e⟩ := (Vs.of_own hown).form
    rw [show xs.length = n by omega] at e; exact ⟨a2, c2, e⟩
  subst hv2
  have hb4 : Below w3.heap.size w3 w4 := ((Below.refl _ w3).alloc (Nat.le_refl _) _).grown hgrow (by simp) (fun i hi => by simp [Value.ownBlock] at hi; omega)
  have HO4 := Lib.hid hown
  have HB4 := Lib.hid hb4
  have hsrc := (X3.out.b.keep hb4).src
  rw [show ys.length = m by omega] at hsrc
  have HSR2 := Lib.hid hsrc
  have hs4 := hb4.size
  clear hown hgrow hat hb4 HSR hsrc
  go_wp2_with (at_builtin; refine wpList_append_src _ rfl (.tmp 25) (.tmp 26) 22 22 rfl w3.heap.size 29 i0 _ 4 40 Tryd.underlying22 HI0.out HZ0.out HZ1.out HZ2.out rfl (.slice a2 n c2) n (vcs xs) rfl HO4.out _ m (vcs ys) rfl ?qs ?qa ?qb ?qc ?_)
  case qs => exact HSR2.out
  case qa => unfold maxLen; omega
  case qb => omega
  case qc => exact hs4
  intro v3 w5 hown hgrow hat
  have hb5 : Below w3.heap.size w3 w5 := HB4.out.grown hgrow hs4 (fun i hi => (HO4.out.lt i hi).1)
  rw [← vcs_append] at hown
  have X5 := Lib.hid (X3.out.keep hb5)
  have HVL := Lib.hid (Vs.of_own hown)
  obtain ⟨la, lc, hv3⟩ := (Vs.of_own hown).form
  have h40 : (xs ++ ys).length ≤ 40 := by rw [List.length_append]; omega
  have HIC : Hid (∀ c ∈ xs ++ ys, i64 c.n ∧ c.s.size ≤ 500) := fun c hc => (List.mem_append.1 hc).elim (HA5.out c) (HB5.out c)
  have HPP := Lib.hid (Vm.put_append xs ys)
  clear hown hgrow hat hb5 HSR2 HO4 HB4 hs4 X3
  obtain ⟨cs, hcs⟩ : ∃ cs, cs = xs ++ ys := ⟨_, rfl⟩
  rw [← hcs] at hv3 HVL HIC HPP h40
  obtain ⟨N, hN⟩ : ∃ N, N = cs.length := ⟨_, rfl⟩
  rw [← hN] at hv3
  have N1 : N ≤ cs.length := by omega
  have N2 : cs.length ≤ N := by omega
  clear hN hcs
  subst hv3
  go_wp2_with fail
  refine (V.put _ _ _ cs _ X5.out.env HVL.out (by omega) HIC.out).mono ?_
  rintro e w6 ⟨ka, kn, kc, rfl, hkn, hy, hb⟩
  have k1 : (Vm.put cs).length ≤ kn := by omega
  have k2 : kn ≤ (Vm.put cs).length := by omega
  obtain ⟨sk, hsk⟩ : ∃ sk, sk = bstr (Vm.put cs) := ⟨_, rfl⟩
  have X6 := Lib.hid (JnC.of (X5.out.keep hb) (HVL.out.keep hb) hy hsk)
  clear hb hy X5 HVL hkn
  obtain ⟨sA, hsA⟩ : ∃ sA, sA = bstr (Vm.put xs) := ⟨_, rfl⟩
  obtain ⟨sB, hsB⟩ : ∃ sB, sB = bstr (Vm.put ys) := ⟨_, rfl⟩
  have hsum : sk = sA ++ sB := by rw [hsk, hsA, hsB, bstr_append, HPP.out]
  have zA : sA.size ≤ 10000 := by rw [hsA, bstr_size]; have := put_len xs; omega
  have zB : sB.size ≤ 10000 := by rw [hsB, bstr_size]; have := put_len ys; omega
  have hq : (sk.toList == (sA ++ sB).toList) = true := by rw [hsum]; simp
  have zS : (sA ++ sB).size ≤ 20000 := by rw [ByteArray.size_append]; omega
  have HPA : Hid (∀ W, JnC w (.slice a n ca) xs (.slice b m cb) ys (.slice la N lc) cs (.slice ka kn kc) (Vm.put cs) sk W → Calls Tryd.prog 10 #[.slice a n ca] W (YtA (Vm.put xs) W)) := fun W h => V.put _ _ _ xs W h.jn.env h.jn.a (by omega) HA5.out
  have HPB : Hid (∀ W, JnC w (.slice a n ca) xs (.slice b m cb) ys (.slice la N lc) cs (.slice ka kn kc) (Vm.put cs) sk W → Calls Tryd.prog 10 #[.slice b m cb] W (YtA (Vm.put ys) W)) := fun W h => V.put _ _ _ ys W h.jn.env h.jn.b (by omega) HB5.out
  have HSA := Lib.hid hsA
  have HSB := Lib.hid hsB
  have HNX : Hid (∀ c ∈ cs, i64 c.n ∧ c.s.size ≤ 500) := HIC.out
  have hklen : (Vm.put cs).length ≤ 20000 := by have := put_len cs; omega
  clear hsk hsA hsB hsum HPP HA5 HB5 HIC
  go_upto_region 7 with (fail)
  have S0 := Lib.hid (JnC.keep X6.out (bdr _))
  go_cut [39] (fun tv wx => tv = .bool false ∧ Hid (JnC w (.slice a n ca) xs (.slice b m cb) ys (.slice la N lc) cs (.slice ka kn kc) (Vm.put cs) sk wx))
  case first =>
    have kk0 := S0.out.1
    go_region_with (first
      | (go_at_call_of 10 (Value.slice a n ca); refine (HPA.out _ (by first | exact J1.out | exact S0.out)).mono ?_; rintro e wa ⟨pa, pn, pc, rfl, -, hya, hb⟩; have HYA := Lib.hid hya; have kca := hya.str; rw [← HSA.out] at kca; clear hya; first | (have J2 := Lib.hid (JnC.keep J1.out hb); have kk2 := J2.out.1; have kcb2 := (HYB.out.keep hb).str; rw [← HSB.out] at kcb2) | (have J1 := Lib.hid (JnC.keep S0.out hb); have kk1 := J1.out.1))
      | (go_at_call_of 10 (Value.slice b m cb); refine (HPB.out _ (by first | exact J1.out | exact S0.out)).mono ?_; rintro e wb ⟨qa, qn, qc, rfl, -, hyb, hb⟩; have HYB := Lib.hid hyb; have kcb := hyb.str; rw [← HSB.out] at kcb; clear hyb; first | (have J2 := Lib.hid (JnC.keep J1.out hb); have kk2 := J2.out.1; have kca2 := (HYA.out.keep hb).str; rw [← HSA.out] at kca2) | (have J1 := Lib.hid (JnC.keep S0.out hb); have kk1 := J1.out.1)))
    all_goals
      go_wp2_with fail
      go_meet
      exact ⟨rfl, J2⟩
  case rest =>
    obtain ⟨rfl, J0⟩ := hcut
    have HVL := Lib.hid J0.out.2.2.1
    have HK0 := Lib.hid J0.out.2.2.2.1
    have HJ0 := Lib.hid (JnC.jn J0.out)
    clear S0 X6 HPA HPB HSA HSB hq zA zB zS J0
    go_wp2_with fail
    go_loopw [6, 42] (fun kv iv wr => ∃ (j : Nat) (a2 : Option Addr) (n2 c2 : Nat), j ≤ N ∧ iv = .int .i64 (j : Int) ∧ kv = .slice a2 n2 c2 ∧ Hid (n2 = (Vm.put (cs.drop j)).length) ∧ Hid (Yt (.slice a2 n2 c2) (Vm.put (cs.drop j)) wr) ∧ Hid (Vs (.slice la N lc) cs wr) ∧ Hid (EnvV wr) ∧ Hid (Below w.heap.size w wr)) (fun _ iv _ => N - (Lib.intOf iv).toNat)
    case atStart => exact ⟨0, ka, kn, kc, by omega, rfl, rfl, by show kn = _; rw [List.drop_zero]; omega, by rw [List.drop_zero]; exact HK0, HVL, HJ0.out.env, HJ0.out.bel⟩
    case round =>
      obtain ⟨j, a2, n2, c2, hj, rfl, rfl, HN2, HY, HV, HE, HB⟩ := hrel
      have hwr := HB.out.size
      have hlen : (Vm.put (cs.drop j)).length ≤ 50000 := by
        have := put_len (cs.drop j)
        rw [List.length_drop] at this
        omega
      by_cases hlt : j < N
      · have hjl : j < cs.length := by omega
        obtain ⟨g, off, ha, -, hg, hbx⟩ := HV.out.at j hjl
        obtain ⟨c, hc⟩ : ∃ c, c = cs[j] := ⟨_, rfl⟩
        rw [← hc] at hbx
        have hci := HNX.out c (by rw [hc]; exact List.getElem_mem hjl)
        have hdr : cs.drop j = c :: cs.drop (j + 1) := by rw [List.drop_eq_getElem_cons hjl, ← hc]
        obtain ⟨hnx, hdp⟩ := next_put c (cs.drop (j + 1)) hci.1
        obtain ⟨p, hp⟩ : ∃ p, p = Vm.plain c := ⟨_, rfl⟩
        have HP : Hid (∀ W, Calls Tryd.prog 11 #[.agg #[.int .i64 c.k, .int .i64 c.n, .int .i64 c.sc, .string c.s]] W (Val p W)) := by rw [hp]; exact fun W => ref3_plain c.k c.n c.sc c.s W (by unfold maxLen; omega)
        have HN : Hid (∀ W, EnvV W → Yt (.slice a2 n2 c2) (Vm.put (cs.drop j)) W → Calls Tryd.prog 16 #[.slice a2 n2 c2] W fun e w' => ∃ a n cap, e = .returned (.tuple #[.agg #[.int .i64 p.k, .int .i64 p.n, .int .i64 p.sc, .string p.s], .slice a n cap, .bool true]) ∧ n = (Vm.put (cs.drop (j + 1))).length ∧ Yt (.slice a n cap) (Vm.put (cs.drop (j + 1))) w' ∧ Below W.heap.size W w') := by
          intro W h1 h2
          have := V.next _ _ _ _ W h1 h2 hlen
          unfold NtA at this
          rw [hdr, hnx, Vm.nxt_some hnx, ← hp] at this
          dsimp only [Option.isSome] at this
          rw [if_pos rfl] at this
          rw [hp, hdp, ← hp] at this
          exact this
        clear hc hci hdr hnx hdp hp
        subst ha
        obtain ⟨ck, cn, cc, cz⟩ := c
        obtain ⟨pk, pn, pc, pz⟩ := p
        obtain ⟨c0, c1, c2', c3⟩ := hbx
        dsimp only at c0 c1 c2' c3 HP HN
        have hal := (Below.refl wr.heap.size wr).alloc (Nat.le_refl _) (.cells #[.int .i64 ck, .int .i64 cn, .int .i64 cc, .string cz] 29)
        have B1 := Lib.hid (Bx.new wr ck cn cc cz 29)
        have HE1 := Lib.hid (HE.out.keep hal)
        have HY1 := Lib.hid (HY.out.keep hal)
        have HV1 := Lib.hid (HV.out.keep hal)
        have HB1 := Lib.hid (HB.out.trans (hal.mono hwr))
        clear hal HE HY HV HB
        go_wp2_with fail
        refine (HN.out _ HE1.out HY1.out).mono ?_
        rintro e w8 ⟨ra, rn, rc, rfl, hrn, hr, hb⟩
        have hb2 := hb.alloc hb.size (.cells #[.int .i64 pk, .int .i64 pn, .int .i64 pc, .string pz] 29)
        have B2 := Lib.hid (B1.out.keep hb2)
        have P2 := Lib.hid (Bx.new w8 pk pn pc pz 29)
        have HE2 := Lib.hid (HE1.out.keep hb2)
        have HV2 := Lib.hid (HV1.out.keep hb2)
        have HB2 := Lib.hid (HB1.out.trans (hb2.mono HB1.out.size))
        have HR2 := Lib.hid (hr.keep ((Below.refl _ _).alloc (Nat.le_refl _) (.cells #[.int .i64 pk, .int .i64 pn, .int .i64 pc, .string pz] 29)))
        have HRN := Lib.hid hrn
        clear hb hb2 hr hrn B1 HE1 HY1 HV1 HB1 HN HN2 c0 c1 c2' c3
        have hnq := val_neq5 pk pn pc pz pk pn pc pz
        rw [eqB_self] at hnq
        simp only [Bool.not_true] at hnq
        dsimp only
        have R2 := Lib.hid (RdC.of (Rd.mk (c := ⟨ck, cn, cc, cz⟩) (p := ⟨pk, pn, pc, pz⟩) B2.out P2.out HE2.out HV2.out HR2.out HB2.out))
        clear B2 P2 HE2 HV2 HR2 HB2
        go_upto_region 13 with (fail)
        have S0 := Lib.hid (RdC.keep R2.out (bdr _))
        clear R2
        go_region_held3 (fun w' => w'.cell? ⟨wr.heap.size, 0, none⟩ = some (.int .i64 ck) ∧ w'.cell? ⟨wr.heap.size, 1, none⟩ = some (.int .i64 cn) ∧ w'.cell? ⟨wr.heap.size, 2, none⟩ = some (.int .i64 cc) ∧ w'.cell? ⟨wr.heap.size, 3, none⟩ = some (.string cz) ∧
          w'.cell? ⟨w8.heap.size, 0, none⟩ = some (.int .i64 pk) ∧ w'.cell? ⟨w8.heap.size, 1, none⟩ = some (.int .i64 pn) ∧ w'.cell? ⟨w8.heap.size, 2, none⟩ = some (.int .i64 pc) ∧ w'.cell? ⟨w8.heap.size, 3, none⟩ = some (.string pz) ∧
          Hid (Rd w (.slice (some ⟨g, off, none⟩) N lc) cs (.slice ra rn rc) (Vm.put (cs.drop (j + 1))) wr.heap.size ⟨ck, cn, cc, cz⟩ w8.heap.size ⟨pk, pn, pc, pz⟩ w')) (first | exact S0.out | assumption | exact RdC.keep (by assumption) hb) (first | (go_at_call 11; refine (HP.out _).mono ?_; rintro e w9 ⟨rfl, hb⟩))
        all_goals
          rename_i hHeld
          have R3 : Hid (Rd w (.slice (some ⟨g, off, none⟩) N lc) cs (.slice ra rn rc) (Vm.put (cs.drop (j + 1))) wr.heap.size ⟨ck, cn, cc, cz⟩ w8.heap.size ⟨pk, pn, pc, pz⟩ _) := hHeld.2.2.2.2.2.2.2.2
          clear hHeld S0 HP
          go_wp2
          go_roundw
          case rel => exact ⟨j + 1, ra, rn, rc, by omega, by go_num, rfl, HRN.out, R3.out.r, R3.out.l, R3.out.env, R3.out.bel⟩
          case measure => simp [Lib.intOf]; omega
      · have hjn : cs.drop j = [] := List.drop_eq_nil_of_le (by omega)
        rw [hjn] at HN2 HY
        have hn0 : n2 = 0 := HN2.out
        subst hn0
        have HY' : Hid (Yt (.slice a2 0 c2) [] wr) := HY.out
        clear hjn HN2 HY hlen HV
        go_wp2_with fail
        refine (V.next _ _ _ [] _ HE.out HY'.out (by decide)).mono ?_
        rintro e w8 ⟨ra, rn, rc, rfl, -, -, hb⟩
        have HB2 := Lib.hid (HB.out.trans ((hb.alloc hb.size (.cells #[.int .i64 0, .int .i64 0, .int .i64 0, .string ⟨#[]⟩] 29)).mono HB.out.size))
        rw [show Vm.nxt [] = (Vm.nil, 0) from rfl, show Vm.next [] = none from rfl]
        clear hb HB HE HY'
        dsimp only [Vm.nil, Option.isSome]
        go_wp2
        go_ret
        exact Says.mk (by first | rfl | simp) HB2.out
end Go.Proofs.YtamclbagafcmgaaDoor
