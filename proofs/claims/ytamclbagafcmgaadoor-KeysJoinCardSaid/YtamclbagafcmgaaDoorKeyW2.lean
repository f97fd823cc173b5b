/- KeysPuts walked, over the bundle of contracts. -/
import Derived.Test.YtamclbagafcmgaaDoorKeyW1
import Derived.Test.YtamclbagafcmgaaDoorKeyRef5
namespace Go.Proofs.YtamclbagafcmgaaDoor
open Go.RowKit

/-- what the end of KeysPuts looks at -/
structure Pp (w : World) (l : Value) (cs : List Vm.Cl) (b : Value) (lb : List UInt8) (p : Value) (ps : List Vm.Cl) (x : Value) (xs : List Vm.Cl) (W : World) : Prop where
  l : Vs l cs W
  b : Yt b lb W
  p : Vs p ps W
  x : Vs x xs W
  env : EnvV W
  bel : Below w.heap.size w W
theorem Pp.keep {w w1 w2 : World} {l b p x : Value} {cs ps xs : List Vm.Cl} {lb : List UInt8} (h : Pp w l cs b lb p ps x xs w1) (hb : Below w1.heap.size w1 w2) : Pp w l cs b lb p ps x xs w2 :=
  ⟨h.l.keep hb, h.b.keep hb, h.p.keep hb, h.x.keep hb, h.env.keep hb, h.bel.trans (hb.mono h.bel.size)⟩
abbrev PpC (w : World) (l : Value) (cs : List Vm.Cl) (b : Value) (lb : List UInt8) (p : Value) (ps : List Vm.Cl) (x : Value) (xs : List Vm.Cl) (T : ByteArray) (W : World) : Prop :=
  (convert 25 9 b).run Tryd.prog W = .ok (.string T) W ∧ Hid (Pp w l cs b lb p ps x xs W ∧ T = bstr lb)
theorem PpC.of {w W : World} {l b p x : Value} {cs ps xs : List Vm.Cl} {lb : List UInt8} {T : ByteArray} (h : Pp w l cs b lb p ps x xs W) (hT : T = bstr lb) : PpC w l cs b lb p ps x xs T W := ⟨by rw [hT]; exact h.b.str, h, hT⟩
theorem PpC.pp {w W : World} {l b p x : Value} {cs ps xs : List Vm.Cl} {lb : List UInt8} {T : ByteArray} (h : PpC w l cs b lb p ps x xs T W) : Pp w l cs b lb p ps x xs W := h.2.1
theorem PpC.keep {w w1 w2 : World} {l b p x : Value} {cs ps xs : List Vm.Cl} {lb : List UInt8} {T : ByteArray} (h : PpC w l cs b lb p ps x xs T w1) (hb : Below w1.heap.size w1 w2) : PpC w l cs b lb p ps x xs T w2 := PpC.of (h.pp.keep hb) h.2.2

/-- what a function that answers a string leaves -/
def StrT (T : ByteArray) (w : World) (e : Ending) (w' : World) : Prop := e = .returned (.string T) ∧ Below w.heap.size w w'
theorem get_put_plain (cs : List Vm.Cl) (hi : ∀ c ∈ cs, i64 c.n) : Vm.get (Vm.put cs) = some (cs.map Vm.plain) := by
  rw [← Vm.put_plain]
  refine Vm.get_put _ fun c hc => ?_
  obtain ⟨d, hd, rfl⟩ := List.mem_map.1 hc
  exact ⟨Vm.plain_right d, Vm.plain_i64 (hi d hd)⟩

set_option maxRecDepth 100000 in
set_option maxHeartbeats 4000000 in
theorem walk_puts (V : KeyCon) (a : Option Addr) (n cap : Nat) (cs : List Vm.Cl) (w : World) (he : EnvV w) (hv : Vs (.slice a n cap) cs w) (hn : n ≤ maxLen) (hi : ∀ c ∈ cs, i64 c.n ∧ c.s.size ≤ maxLen) :
    Calls Tryd.prog 3 #[.slice a n cap] w (Says true w) := by
  obtain ⟨i0, hi0, hz0, hz1, hz2⟩ := info_parts info4v
  have HI0 := Lib.hid hi0; have HZ0 := Lib.hid hz0; have HZ1 := Lib.hid hz1; have HZ2 := Lib.hid hz2
  clear hi0 hz0 hz1 hz2
  have hnl : n = cs.length := by obtain ⟨b, d, e⟩ := hv.form; injection e
  have hn1 : n ≤ cs.length := by omega
  have hn2 : cs.length ≤ n := by omega
  clear hnl
  have HV := Lib.hid hv
  have HE := Lib.hid he
  have HI := Lib.hid hi
  clear hv he hi
  go_enter Tryd.func3, Tryd.ntmps3
  go_wp2_with fail
  refine (first5_true V _ HE.out).mono ?_
  rintro e w1 ⟨rfl, hb⟩
  have HB1 := Lib.hid hb
  have HV1 := Lib.hid (HV.out.keep hb)
  have HE1 := Lib.hid (HE.out.keep hb)
  clear hb HV HE
  go_wp2_with fail
  refine (law5_long _ _ _ cs _ HV1.out hn (fun c hc => (HI.out c hc).2)).mono ?_
  rintro e w2 ⟨bl, rfl, hb, hlong⟩
  have HB2 := Lib.hid (HB1.out.trans (hb.mono HB1.out.size))
  have HV2 := Lib.hid (HV1.out.keep hb)
  have HE2 := Lib.hid (HE1.out.keep hb)
  clear hb HV1 HE1 HB1
  by_cases hbl : bl = true
  · subst hbl
    clear hlong
    go_wp2
    go_ret
    exact Says.mk rfl HB2.out
  obtain rfl : bl = false := by simpa using hbl
  clear hbl
  obtain ⟨h20, h500⟩ := hlong rfl
  have HI5 : Hid (∀ c ∈ cs, i64 c.n ∧ c.s.size ≤ 500) := fun c hc => ⟨(HI.out c hc).1, h500 c hc⟩
  have HIM := Lib.hid (HI.out)
  clear HI h500 hlong
  go_wp2_with fail
  refine (V.put _ _ _ cs _ HE2.out HV2.out (by omega) HI5.out).mono ?_
  rintro e w3 ⟨ba, nb, cb, rfl, hnb, hy, hb⟩
  have HB3 := Lib.hid (HB2.out.trans (hb.mono HB2.out.size))
  have HV3 := Lib.hid (HV2.out.keep hb)
  have HE3 := Lib.hid (HE2.out.keep hb)
  have HY3 := Lib.hid hy
  have HNB := Lib.hid hnb
  clear hb HV2 HE2 HB2 hy hnb
  go_wp2_with fail
  go_loopw [4, 17] (fun pv iv wr => ∃ (j : Nat) (aa : Option Addr) (cc : Nat), j ≤ n ∧ iv = .int .i64 (j : Int) ∧ pv = .slice aa j cc ∧ Hid (wr.ownsRow w3.heap.size 29 4 (.slice aa j cc) j (vcs ((cs.take j).map Vm.plain))) ∧ Hid (Below w3.heap.size w3 wr)) (fun _ iv _ => n - (Lib.intOf iv).toNat)
  case atStart => exact ⟨0, none, 0, by omega, rfl, rfl, World.ownsRow_nil _ _ _ _, Below.refl _ _⟩
  case round =>
    obtain ⟨j, aa, cc, hj, rfl, rfl, HO, HB⟩ := hrel
    have hwr := HB.out.size
    by_cases hlt : j < n
    · have hjl : j < cs.length := by omega
      obtain ⟨g, off, ha, -, hg, hbx⟩ := (HV3.out.keep HB.out).at j hjl
      obtain ⟨c, hc⟩ : ∃ c, c = cs[j] := ⟨_, rfl⟩
      rw [← hc] at hbx
      have hci := HIM.out c (by rw [hc]; exact List.getElem_mem hjl)
      obtain ⟨p, hp⟩ : ∃ p, p = Vm.plain c := ⟨_, rfl⟩
      have HP : Hid (∀ W, Calls Tryd.prog 11 #[.agg #[.int .i64 c.k, .int .i64 c.n, .int .i64 c.sc, .string c.s]] W (Val p W)) := by rw [hp]; exact fun W => ref3_plain c.k c.n c.sc c.s W hci.2
      have HT : Hid ((cs.take (j + 1)).map Vm.plain = (cs.take j).map Vm.plain ++ [p]) := by
        show _ = _
        rw [← List.take_append_getElem hjl, ← hc, List.map_append, hp]; rfl
      have HL : Hid (((cs.take j).map Vm.plain).length = j) := by show _ = _; rw [List.length_map, List.length_take]; omega
      clear hc hci hp
      subst ha
      obtain ⟨ck, cn, cc', cz⟩ := c
      obtain ⟨pk, pn, pc, pz⟩ := p
      obtain ⟨c0, c1, c2, c3⟩ := hbx
      dsimp only at c0 c1 c2 c3 HP
      generalize (cs.take j).map Vm.plain = qs at *
      go_wp2_with fail
      refine (HP.out _).mono ?_
      rintro e w4 ⟨rfl, hb⟩
      have hB2 := ((Below.refl _ wr).alloc (Nat.le_refl _) (.cells #[.int .i64 ck, .int .i64 cn, .int .i64 cc', .string cz] 29)).trans (hb.mono (by simp))
      have HB2 := Lib.hid (HB.out.trans (hB2.mono hwr))
      have HO2 := Lib.hid (own_below HO.out hB2)
      have hsz2 := HB2.out.size
      clear hb HB HP hB2 HO hwr c0 c1 c2 c3
      dsimp only
      go_wp2_with (at_builtin; refine wpList_append_src _ rfl (.tmp 21) (.tmp 24) 22 22 rfl w3.heap.size 29 i0 _ 4 40 Tryd.underlying22 HI0.out HZ0.out HZ1.out HZ2.out rfl (.slice aa j cc) j (vcs qs) rfl (HO2.out.alloc _) _ 1 (vcs [⟨pk, pn, pc, pz⟩]) rfl ?qs ?qa ?qb ?qc ?_)
      case qs => exact lit_srcv2 _ ⟨pk, pn, pc, pz⟩ _ rfl
      case qa => unfold maxLen; omega
      case qb => omega
      case qc => simp; omega
      intro v2 w5 hown hgrow hat
      have hbel := (HB2.out.alloc hsz2 _).grown hgrow (by simp; omega) (fun i hi => (HO2.out.lt i hi).1)
      rw [← vcs_append] at hown
      obtain ⟨a2, c2, hv2⟩ : ∃ a2 c2, v2 = .slice a2 (j + 1) c2 := by
        obtain ⟨a2, c2, e⟩ := (Vs.of_own hown).form
        rw [List.length_append, HL.out] at e; exact ⟨a2, c2, e⟩
      rw [hv2, ← HT.out] at hown
      rw [hv2]
      have HO3 := Lib.hid hown
      have HB5 := Lib.hid hbel
      clear hown hgrow hat hbel hv2 HO2 HB2 hsz2
      go_wp2
      go_roundw
      case rel => exact ⟨j + 1, a2, c2, by omega, by go_num, rfl, HO3, HB5⟩
      case measure => simp [Lib.intOf]; omega
    · have hjn : j = cs.length := by omega
      have HVP : Hid (Vs (.slice aa j cc) (cs.map Vm.plain) wr) := by
        have h := Vs.of_own HO.out
        rw [hjn, List.take_length] at h
        rw [hjn]; exact h
      have HY := Lib.hid (HY3.out.keep HB.out)
      have HVL := Lib.hid (HV3.out.keep HB.out)
      have HE4 := Lib.hid (HE3.out.keep HB.out)
      have HB4 := Lib.hid (HB3.out.trans (HB.out.mono HB3.out.size))
      have hlen : (Vm.put cs).length ≤ 50000 := by have := put_len cs; omega
      have HG := Lib.hid (get_put_plain cs (fun c hc => (HI5.out c hc).1))
      clear hjn HO HB HY3 HV3 HE3 HB3
      go_wp2_with fail
      refine (V.get _ _ _ (Vm.put cs) _ HE4.out HY.out hlen).mono ?_
      rintro e w4 ⟨xa, xn, xc, xl, rfl, hxl, -, hx, hb⟩
      rw [HG.out] at hxl ⊢
      replace hxl : xl = cs.map Vm.plain := hxl
      subst hxl
      dsimp only [Option.isSome]
      obtain ⟨T, hT⟩ : ∃ T, T = bstr (Vm.put cs) := ⟨_, rfl⟩
      have X4 := Lib.hid (PpC.of (T := T) (Pp.mk (HVL.out.keep hb) (HY.out.keep hb) (HVP.out.keep hb) hx (HE4.out.keep hb) (HB4.out.trans (hb.mono HB4.out.size))) hT)
      clear hb hx HVL HY HVP HE4 HB4 HG
      have HP : Hid (∀ W, PpC w (.slice a n cap) cs (.slice ba nb cb) (Vm.put cs) (.slice aa j cc) (cs.map Vm.plain) (.slice xa xn xc) (cs.map Vm.plain) T W → Calls Tryd.prog 13 #[.slice a n cap] W (StrT T W)) := by
        intro W h
        rw [hT]
        exact ref5_put _ _ _ cs W h.pp.l (by omega) HIM.out
      have HQ : Hid (∀ W, PpC w (.slice a n cap) cs (.slice ba nb cb) (Vm.put cs) (.slice aa j cc) (cs.map Vm.plain) (.slice xa xn xc) (cs.map Vm.plain) T W → Calls Tryd.prog 14 #[.slice xa xn xc, .slice aa j cc] W (Says true W)) := by
        intro W h
        have := ref5_same _ _ _ _ _ _ _ _ W h.pp.x h.pp.p (by rw [List.length_map]; unfold maxLen; omega) (by rw [List.length_map]; unfold maxLen; omega)
        rw [decide_eq_true rfl] at this
        exact this
      have hq : (T.toList == T.toList) = true := by simp
      clear hT hlen HIM HI5
      generalize Vm.put cs = lb at *
      generalize cs.map Vm.plain = ps at *
      go_upto_region 13 with (fail)
      have S0 := Lib.hid (PpC.keep X4.out (bdr _))
      go_region_held3 (fun w' => (convert 25 9 (.slice ba nb cb)).run Tryd.prog w' = .ok (.string T) w' ∧ Hid (Pp w (.slice a n cap) cs (.slice ba nb cb) lb (.slice aa j cc) ps (.slice xa xn xc) ps w' ∧ T = bstr lb)) (first | exact S0.out | exact PpC.keep (by assumption) hb) (first | (go_at_call 13; refine (HP.out _ (by assumption)).mono ?_; rintro e w5 ⟨rfl, hb⟩) | (go_at_call 14; refine (HQ.out _ (by assumption)).mono ?_; rintro e w6 ⟨rfl, hb⟩))
      all_goals
        rename_i hHeld
        have X5 := Lib.hid (PpC.pp hHeld)
        clear hHeld
        go_wp2
        go_ret
        exact Says.mk (by first | rfl | simp) X5.out.bel
end Go.Proofs.YtamclbagafcmgaaDoor
