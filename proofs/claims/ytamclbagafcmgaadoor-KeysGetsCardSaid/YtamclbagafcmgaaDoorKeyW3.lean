/- KeysGets walked, over the bundle of contracts. -/
import Derived.Test.YtamclbagafcmgaaDoorKeyW1
import Derived.Test.YtamclbagafcmgaaDoorKeyRef5
namespace Go.Proofs.YtamclbagafcmgaaDoor
open Go.RowKit

theorem Yt.drop {g off n c : Nat} {l : List UInt8} {w : World} (h : Yt (.slice (some ⟨g, off, none⟩) n c) l w) (k : Nat) (hk : k ≤ l.length) : Yt (.slice (some ⟨g, off + k, none⟩) (n - k) (c - k)) (l.drop k) w := by
  rcases h with ⟨b, d, e, rfl⟩ | ⟨g', off', cap, e, hc, hg, hcell⟩
  · injection e with e1 e2 e3
    subst e2
    simp at hk
    subst hk
    exact .inl ⟨_, _, rfl, rfl⟩
  · injection e with e1 e2 e3
    injection e1 with e1
    injection e1 with e1 e4
    subst e1; subst e4; subst e3; subst e2
    refine .inr ⟨g, off + k, c - k, by rw [List.length_drop], by rw [List.length_drop]; omega, hg, fun j hj => ?_⟩
    rw [List.length_drop] at hj
    rw [Nat.add_assoc, hcell (k + j) (by omega)]
    simp [List.getD]
theorem Yt.drop2 {g off n c : Nat} {l : List UInt8} {w : World} (h : Yt (.slice (some ⟨g, off, none⟩) n c) l w) (k : Nat) (hk : k ≤ l.length) : Yt (.slice (if c = k then some ⟨g, off, none⟩ else some ⟨g, off + k, none⟩) (n - k) (c - k)) (l.drop k) w := by
  have hn : n = l.length := by obtain ⟨_, _, e⟩ := h.form; injection e
  have hc := h.cap
  by_cases hck : c = k
  · rw [if_pos hck]
    refine .inl ⟨some ⟨g, off, none⟩, c - k, by rw [show n - k = 0 by omega], ?_⟩
    exact List.drop_eq_nil_of_le (by omega)
  · rw [if_neg hck]; exact h.drop k hk
theorem getF_len : ∀ (f : Nat) (l : List UInt8), ((Vm.getF f l).getD []).length ≤ l.length
  | _, [] => by rw [Vm.getF]; simp
  | 0, _ :: _ => by rw [Vm.getF]; simp
  | f + 1, c :: r => by
    rw [Vm.getF]
    cases hn : Vm.next (c :: r) with
    | none => simp
    | some p =>
      obtain ⟨v, n⟩ := p
      dsimp only
      have hp := Vm.next_pos _ _ _ hn
      have hd : ((c :: r).drop n).length ≤ r.length := by rw [List.length_drop, List.length_cons]; omega
      have ih := getF_len f ((c :: r).drop n)
      revert ih
      cases Vm.getF f ((c :: r).drop n) with
      | none => intro _; simp
      | some q => intro ih; simp at ih ⊢; omega
theorem get_len (l : List UInt8) : ((Vm.get l).getD []).length ≤ l.length := getF_len _ _
/-- bytes as an argument -/
structure Gs (w : World) (b : Value) (lb : List UInt8) (W : World) : Prop where
  b : Yt b lb W
  env : EnvV W
  bel : Below w.heap.size w W
theorem Gs.keep {w w1 w2 : World} {b : Value} {lb : List UInt8} (h : Gs w b lb w1) (hb : Below w1.heap.size w1 w2) : Gs w b lb w2 := ⟨h.b.keep hb, h.env.keep hb, h.bel.trans (hb.mono h.bel.size)⟩

set_option maxRecDepth 100000 in
set_option maxHeartbeats 4000000 in
theorem walk_gets (V : KeyCon) (ba : Option Addr) (nb cb : Nat) (lb : List UInt8) (w : World) (he : EnvV w) (hb : Yt (.slice ba nb cb) lb w) (hm : nb ≤ maxLen) :
    Calls Tryd.prog 4 #[.slice ba nb cb] w (Says true w) := by
  have hnb : nb = lb.length := by obtain ⟨_, _, e⟩ := hb.form; injection e
  have b1 : nb ≤ lb.length := by omega
  have b2 : lb.length ≤ nb := by omega
  have X0 : Hid (Gs w (.slice ba nb cb) lb w) := ⟨hb, he, Below.refl _ _⟩
  unfold maxLen at hm
  clear hnb hb he
  by_cases hbig : 1000 < nb
  · have hd : decide ((1000 : Int) < (nb : Int)) = true := by simp; omega
    go_enter Tryd.func4, Tryd.ntmps4
    go_wp2_with fail
    refine (first5_true V _ X0.out.env).mono ?_
    rintro e w1 ⟨rfl, hb⟩
    have X1 := Lib.hid (X0.out.keep hb)
    clear hb X0
    go_wp2
    go_ret
    exact Says.mk rfl X1.out.bel
  have c1 : (nb : Int) ≤ 1000 := by omega
  have hl : lb.length ≤ 1000 := by omega
  obtain ⟨sb, hsb⟩ : ∃ sb, sb = bstr lb := ⟨_, rfl⟩
  obtain ⟨o, ho⟩ : ∃ o, o = Vm.get lb := ⟨_, rfl⟩
  have HRG : Hid (∀ W, Calls Tryd.prog 15 #[.string sb] W (GtA o W)) := by
    intro W; rw [hsb, ho]; exact ref5_get (bstr lb) W (by rw [bstr_size]; omega)
  have HRN : Hid (∀ W, Calls Tryd.prog 17 #[.string sb] W (NxA (Vm.nxt lb) W)) := by
    intro W; rw [hsb]; exact ref5_next (bstr lb) W (by rw [bstr_size]; omega)
  have HSB := Lib.hid hsb
  have HOL : Hid ((o.getD []).length ≤ maxLen) := by
    show (o.getD []).length ≤ maxLen
    rw [ho]
    have := get_len lb
    unfold maxLen; omega
  have HO := Lib.hid ho
  clear hbig hsb ho
  go_enter Tryd.func4, Tryd.ntmps4
  go_wp2_with fail
  refine (first5_true V _ X0.out.env).mono ?_
  rintro e w1 ⟨rfl, hb⟩
  have X1 := Lib.hid (X0.out.keep hb)
  clear hb X0
  go_wp2_with fail
  refine (V.get _ _ _ lb _ X1.out.env X1.out.b (by omega)).mono ?_
  rintro e w2 ⟨xa, xn, xc, xl, rfl, hxl, -, hx, hb⟩
  rw [← HO.out] at hxl ⊢
  have X2 := Lib.hid (X1.out.keep hb)
  have HX2 := Lib.hid hx
  have hcv := X2.out.b.str
  rw [← HSB.out] at hcv
  clear hb X1 hx
  go_wp2_with fail
  refine (HRG.out _).mono ?_
  rintro e w3 ⟨ya, yn, yc, yl, rfl, hyl, -, hy, hb⟩
  have X3 := Lib.hid (X2.out.keep hb)
  have HX3 := Lib.hid (HX2.out.keep hb)
  have HY3 := Lib.hid hy
  rw [← hxl] at hyl
  subst hyl
  rw [← hxl] at HOL
  clear hb X2 HX2 hy HRG hcv hxl HO
  generalize o.isSome = B
  have hBB : (B != B) = false := by cases B <;> rfl
  have HQ : Hid (∀ W, Below w3.heap.size w3 W → Calls Tryd.prog 14 #[.slice xa xn xc, .slice ya yn yc] W (Says true W)) := by
    intro W hW
    have := ref5_same _ _ _ _ _ _ _ _ W (HX3.out.keep hW) (HY3.out.keep hW) HOL.out HOL.out
    rw [decide_eq_true rfl] at this
    exact this
  clear HX3 HY3 HOL
  go_wp2_with fail
  refine (HQ.out _ (Below.refl _ _)).mono ?_
  rintro e w4 ⟨rfl, hb⟩
  have X4 := Lib.hid (X3.out.keep hb)
  clear hb X3 HQ
  go_wp2_with fail
  refine (V.next _ _ _ lb _ X4.out.env X4.out.b (by omega)).mono ?_
  rintro e w5 ⟨ra, rn, rc, rfl, hrn, hr, hb⟩
  have X5 := Lib.hid (X4.out.keep hb)
  have HB5 := Lib.hid hb
  clear X4 hb
  cases hn : Vm.next lb with
  | none =>
    rw [hn] at hr hrn
    rw [Vm.nxt_none hn] at HRN ⊢
    replace hrn : rn = 0 := hrn
    subst hrn
    clear hr hn
    have X6 := Lib.hid (X5.out.keep ((Below.refl _ _).alloc (Nat.le_refl _) (.cells #[.int .i64 0, .int .i64 0, .int .i64 0, .string ⟨#[]⟩] 29)))
    have V6 := Lib.hid (Bx.new w5 0 0 0 ⟨#[]⟩ 29)
    have hcv := X6.out.b.str
    rw [← HSB.out] at hcv
    clear X5 HB5
    dsimp only [Vm.nil, Option.isSome]
    go_wp2_with fail
    refine (HRN.out _).mono ?_
    rintro e w7 ⟨rfl, hb⟩
    have hb2 := hb.alloc hb.size (.cells #[.int .i64 0, .int .i64 0, .int .i64 0, .string ⟨#[]⟩] 29)
    have X7 := Lib.hid (X6.out.keep hb2)
    have V7 := Lib.hid (V6.out.keep hb2)
    have W7 := Lib.hid (Bx.new w7 0 0 0 ⟨#[]⟩ 29)
    clear hb hb2 X6 V6 hcv HRN
    dsimp only [Vm.nil]
    have heq := val_eql 0 0 0 ⟨#[]⟩ 0 0 0 ⟨#[]⟩
    rw [eqB_self] at heq
    have v0 := V7.out.c0; have v1 := V7.out.c1; have v2 := V7.out.c2; have v3 := V7.out.c3
    have u0 := W7.out.c0; have u1 := W7.out.c1; have u2 := W7.out.c2; have u3 := W7.out.c3
    go_wp2_with fail
    go_quiet (fail)
    have X8 := Lib.hid (X7.out.keep (below_n (Below.refl _ _) nq))
    clear X7 v0 v1 v2 v3 u0 u1 u2 u3
    go_wp2
    go_ret
    exact Says.mk (by first | rfl | simp) X8.out.bel
  | some p =>
    obtain ⟨⟨ck, cn, cc, cs⟩, k⟩ := p
    rw [hn] at hr hrn
    rw [Vm.nxt_some hn] at HRN hr hrn ⊢
    have hk0 := Vm.next_pos _ _ _ hn
    have hkl := (Vm.next_some _ _ _ hn).2.2.2.2
    obtain ⟨g, off, rfl⟩ : ∃ g off, ba = some ⟨g, off, none⟩ := by
      rcases X5.out.b with ⟨_, _, _, h⟩ | ⟨g, off, _, e, _⟩
      · rw [h] at hn; cases hn
      · injection e with e1; exact ⟨g, off, e1⟩
    replace hrn : rn = (lb.drop k).length := hrn
    replace hr : Yt (.slice ra rn rc) (lb.drop k) w5 := hr
    have HYR := Lib.hid hr
    clear hr hrn hn
    have X6 := Lib.hid (X5.out.keep ((Below.refl _ _).alloc (Nat.le_refl _) (.cells #[.int .i64 ck, .int .i64 cn, .int .i64 cc, .string cs] 29)))
    have HY6 := Lib.hid (HYR.out.keep ((Below.refl _ _).alloc (Nat.le_refl _) (.cells #[.int .i64 ck, .int .i64 cn, .int .i64 cc, .string cs] 29)))
    have V6 := Lib.hid (Bx.new w5 ck cn cc cs 29)
    have hcv := X6.out.b.str
    rw [← HSB.out] at hcv
    clear X5 HB5 HYR
    dsimp only [Option.isSome]
    go_wp2_with fail
    refine (HRN.out _).mono ?_
    rintro e w7 ⟨rfl, hb⟩
    have hb2 := hb.alloc hb.size (.cells #[.int .i64 ck, .int .i64 cn, .int .i64 cc, .string cs] 29)
    have X7 := Lib.hid (X6.out.keep hb2)
    have HY7 := Lib.hid (HY6.out.keep hb2)
    have V7 := Lib.hid (V6.out.keep hb2)
    have W7 := Lib.hid (Bx.new w7 ck cn cc cs 29)
    clear hb hb2 X6 V6 hcv HRN HY6
    dsimp only
    have heq := val_eql ck cn cc cs ck cn cc cs
    rw [eqB_self] at heq
    have v0 := V7.out.c0; have v1 := V7.out.c1; have v2 := V7.out.c2; have v3 := V7.out.c3
    have u0 := W7.out.c0; have u1 := W7.out.c1; have u2 := W7.out.c2; have u3 := W7.out.c3
    obtain ⟨S, hS⟩ : ∃ S, S = bstr (lb.drop k) := ⟨_, rfl⟩
    have kr := fun n => (HY7.out.keep (below_n (Below.refl _ (w7.alloc (.cells #[.int .i64 ck, .int .i64 cn, .int .i64 cc, .string cs] 29))) n)).str
    have kb := fun n => ((X7.out.b.drop2 k hkl).keep (below_n (Below.refl _ (w7.alloc (.cells #[.int .i64 ck, .int .i64 cn, .int .i64 cc, .string cs] 29))) n)).str
    simp only [← hS] at kr kb
    have hSS : (S.toList == S.toList) = true := by simp
    have hcap := X7.out.b.cap
    have k1 : (0 : Int) < (k : Int) := by omega
    have k2 : (k : Int) ≤ (nb : Int) := by omega
    have k3 : (k : Int) ≤ (cb : Int) := by omega
    have k4 : (nb : Int) ≤ (cb : Int) := by omega
    clear hS
    go_wp2_with fail
    go_quiet (fail)
    have X8 := Lib.hid (X7.out.keep (below_n (Below.refl _ _) nq))
    clear X7 v0 v1 v2 v3 u0 u1 u2 u3 kr kb
    go_wp2
    all_goals
      go_ret
      exact Says.mk (by first | rfl | simp) X8.out.bel
end Go.Proofs.YtamclbagafcmgaaDoor
