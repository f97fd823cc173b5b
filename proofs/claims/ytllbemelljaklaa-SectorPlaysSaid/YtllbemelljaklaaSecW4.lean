/- Layer 6: the walk of SectorPlays. -/
import Derived.Test.YtllbemelljaklaaSecPair
import Derived.Test.YtllbemelljaklaaSecMay
import Derived.Deep.RegionHeld3
import Derived.Deep.RegionLaw
import Derived.OwnWalk
import Derived.Laws.OwnMore
namespace Go.Proofs.Ytllbemelljaklaa
open Go.RowKit

theorem info1b : (Try.prog.info? 5).map (fun i => (i.zero, i.size, i.bytes)) = some (some (.int .u8 0), 1, 1) := by kernel_rfl
theorem not_ownI4 {p : Nat → Prop} {w : World} {a : Option Addr} {n c : Nat} {l : List Int} (hF : ∀ k, p k → w.heap.size ≤ k) (h : It (.slice a n c) l w) : 0 < l.length → ∀ x, a = some x → ¬ p x.block := by
  intro h0 x e hf
  rcases h with ⟨_, _, _, e2⟩ | ⟨g, off, cap, e2, _, hg, _⟩
  · rw [e2] at h0; simp at h0
  · injection e2 with e3 _ _
    rw [e] at e3
    injection e3 with e3
    subst e3
    have h1 := hF _ hf
    have h2 : g < w.heap.size := hg
    exact absurd h1 (by show ¬ w.heap.size ≤ g; omega)
/-- a row of one's own, apart from the pair -/
structure Ow (B gr kb : Nat) (wa : Option Addr) (F : Nat → Prop) (v : Value) (n : Nat) (l : List UInt8) (W : World) : Prop where
  own : W.ownsRow B 5 1 v n (yc l)
  ap : ∀ k, v.ownBlock = some k → ¬ Pp gr kb wa F k
theorem Ow.step {B gr kb : Nat} {wa wa' : Option Addr} {F F' : Nat → Prop} {v : Value} {n : Nat} {l : List UInt8} {W W' : World} {p : Nat → Prop} (h : Ow B gr kb wa F v n l W) (ho : Only p W W') (hp : ∀ k, p k → Pp gr kb wa F k) (ha : ∀ k, Pp gr kb wa' F' k → Pp gr kb wa F k ∨ W.heap.size ≤ k) : Ow B gr kb wa' F' v n l W' :=
  ⟨own_keepO h.own ho (fun k e hk => h.ap k e (hp k hk)), fun k e hk => by
    rcases ha k hk with h4 | h4
    · exact h.ap k e h4
    · have := (h.own.lt k e).2; omega⟩
theorem fp_pp {gr kb : Nat} {wa : Option Addr} {F : Nat → Prop} : ∀ k, Fp gr kb k → Pp gr kb wa F k := by
  intro k hk
  rcases hk with h | h
  · exact .inr (.inl h)
  · exact .inr (.inr (.inl h))
/-- a row of bytes of one's own, apart from the pair, whatever it holds -/
structure Rw (B gr kb : Nat) (wa : Option Addr) (F : Nat → Prop) (v : Value) (n : Nat) (W : World) : Prop where
  own : ∃ (E : TypeId) (xs : List Value), W.ownsRow B E 1 v n xs ∧ ∀ u ∈ xs, ∃ y : Int, u = .int .u8 y
  ap : ∀ k, v.ownBlock = some k → ¬ Pp gr kb wa F k
theorem Ow.rw {B gr kb : Nat} {wa : Option Addr} {F : Nat → Prop} {v : Value} {n : Nat} {l : List UInt8} {W : World} (h : Ow B gr kb wa F v n l W) : Rw B gr kb wa F v n W :=
  ⟨⟨_, yc l, h.own, fun u hu => by obtain ⟨b, _, rfl⟩ := List.mem_map.1 hu; exact ⟨_, rfl⟩⟩, h.ap⟩
theorem Rw.cell {B gr kb : Nat} {wa : Option Addr} {F : Nat → Prop} {a : Option Addr} {n c : Nat} {W : World} (h : Rw B gr kb wa F (.slice a n c) n W) {j : Nat} (hj : j < n) : ∃ (b : Nat) (y : Int), a = some ⟨b, 0, none⟩ ∧ n ≤ c ∧ W.cell? ⟨b, j, none⟩ = some (.int .u8 y) ∧ (∀ o, W.frozen? ⟨b, o, none⟩ = false) ∧ b < W.heap.size ∧ B ≤ b := by
  obtain ⟨⟨_, xs, ho, hi⟩, _⟩ := h
  have hx : xs.length = n := by have := ho.1; omega
  have ho2 := ho
  rcases ho2.2 with ⟨e, _⟩ | ⟨b, cap, cur, e, hB, hg, hnc, _⟩
  · injection e with _ e2 _; omega
  · injection e with e1 e2 e3
    subst e1
    obtain ⟨y, hy⟩ := hi (xs[j]'(by omega)) (List.getElem_mem _)
    have hc := ho.cells (g := b) rfl j (.int .u8 y) (by rw [List.getElem?_eq_getElem (by omega), hy])
    rw [add_pl, Nat.zero_add] at hc
    exact ⟨b, y, rfl, by omega, hc, fun o => Lib.frozen_of_heap hg o, heap_lt hg, hB⟩
theorem Rw.set {B gr kb : Nat} {wa : Option Addr} {F : Nat → Prop} {b n c : Nat} {W : World} (h : Rw B gr kb wa F (.slice (some ⟨b, 0, none⟩) n c) n W) (j : Nat) (y : Int) : Rw B gr kb wa F (.slice (some ⟨b, 0, none⟩) n c) n (W.setCell ⟨b, j, none⟩ (.int .u8 y)) := by
  obtain ⟨⟨_, xs, ho, hi⟩, ha⟩ := h
  refine ⟨⟨_, _, (ho.stored j _).1, fun u hu => ?_⟩, ha⟩
  rcases List.mem_or_eq_of_mem_set hu with h1 | h1
  · exact hi u h1
  · exact ⟨y, h1⟩
theorem Rw.below {B gr kb : Nat} {wa : Option Addr} {F : Nat → Prop} {v : Value} {n : Nat} {W W' : World} (h : Rw B gr kb wa F v n W) (hb : Below W.heap.size W W') : Rw B gr kb wa F v n W' := by
  obtain ⟨⟨E, xs, ho, hi⟩, ha⟩ := h
  exact ⟨⟨E, xs, own_keep ho hb, hi⟩, ha⟩
/-- what is held while both devices are asked -/
structure Pk (Dev : Nat → Sm.Dv → (Nat → Prop) → World → Prop) (B g gr kb kc : Nat) (wa : Option Addr) (wc : Nat) (d : Sm.Dv) (F : Nat → Prop) (w W : World) : Prop where
  p : Pd Dev B g gr kb kc wa wc d d F W
  b : Below B w W
theorem Pk.below {Dev : Nat → Sm.Dv → (Nat → Prop) → World → Prop} (V : SecCon Dev) {B g gr kb kc : Nat} {wa : Option Addr} {wc : Nat} {d : Sm.Dv} {F : Nat → Prop} {w W W' : World} (h : Pk Dev B g gr kb kc wa wc d F w W) (hB : B ≤ W.heap.size) (hb : Below W.heap.size W W') : Pk Dev B g gr kb kc wa wc d F w W' :=
  ⟨Pd.below V h.p hb, h.b.trans (hb.mono hB)⟩
abbrev PkC (Dev : Nat → Sm.Dv → (Nat → Prop) → World → Prop) (B g gr kb kc : Nat) (wa : Option Addr) (wc : Nat) (d : Sm.Dv) (F : Nat → Prop) (w : World) (N : Nat) (C : Int) (W : World) : Prop :=
  W.cell? ⟨gr, 1, none⟩ = some (.slice wa N wc) ∧ W.cell? ⟨gr, 3, none⟩ = some (.int .i64 C) ∧ Hid (Pk Dev B g gr kb kc wa wc d F w W)
theorem PkC.of {Dev : Nat → Sm.Dv → (Nat → Prop) → World → Prop} {B g gr kb kc : Nat} {wa : Option Addr} {wc : Nat} {d : Sm.Dv} {F : Nat → Prop} {w W : World} (h : Pk Dev B g gr kb kc wa wc d F w W) (N : Nat) (C : Int) (hN : N = d.ws.length) (hC : C = d.calls) : PkC Dev B g gr kb kc wa wc d F w N C W :=
  ⟨by rw [hN]; exact h.p.r.c1, by rw [hC]; exact h.p.r.c3, h⟩
theorem PkC.keep {Dev : Nat → Sm.Dv → (Nat → Prop) → World → Prop} (V : SecCon Dev) {B g gr kb kc : Nat} {wa : Option Addr} {wc : Nat} {d : Sm.Dv} {F : Nat → Prop} {w W W' : World} {N' : Nat} {C' : Int} (h : PkC Dev B g gr kb kc wa wc d F w N' C' W) (hB : w.heap.size = B) (hb : Below W.heap.size W W') (N : Nat) (C : Int) (hN : N = d.ws.length) (hC : C = d.calls) : PkC Dev B g gr kb kc wa wc d F w N C W' :=
  PkC.of (Pk.below V h.2.2.out (by rw [← hB]; have := h.2.2.out.b.size; omega) hb) N C hN hC
theorem PkC.dev {Dev : Nat → Sm.Dv → (Nat → Prop) → World → Prop} {B g gr kb kc : Nat} {wa : Option Addr} {wc : Nat} {d : Sm.Dv} {F : Nat → Prop} {w W : World} {N : Nat} {C : Int} (h : PkC Dev B g gr kb kc wa wc d F w N C W) : Dev g d F W := h.2.2.out.p.a
theorem below_drew4 (w : World) : Below w.heap.size w w.drew := ⟨rfl, rfl, rfl, Nat.le_refl _, fun _ _ => rfl⟩
theorem own_max {w : World} {B : Nat} {e : TypeId} {size n : Nat} {v : Value} {xs : List Value} (h : w.ownsRow B e size v n xs) : (n : Int) ≤ 9223372036854775807 := by
  have h1 : n ≤ maxLen := by
    rcases h.2 with ⟨_, e⟩ | ⟨_, cap, _, _, _, _, hc, hm, _⟩
    · omega
    · omega
  unfold maxLen at h1
  omega
theorem own_nil2 (w : World) (n : Nat) (hn : n = w.heap.size) : (w.alloc (.cells #[] 5)).ownsRow n 5 1 (.slice (some ⟨n, 0, none⟩) 0 0) 0 [] := by
  subst hn; exact ⟨rfl, .inr ⟨_, 0, #[], rfl, Nat.le_refl _, heap_alloc_new w _, Nat.le_refl _, by unfold maxLen; decide, rfl, rfl⟩⟩
set_option maxHeartbeats 4000000 in
set_option maxRecDepth 100000 in
theorem walk_plays {Dev : Nat → Sm.Dv → (Nat → Prop) → World → Prop} (V : SecCon Dev) (z : Int) (a1 : Option Addr) (n1 c1 : Nat) (l : List Sp) (w : World) (hz : n64 z) (m1 : n1 ≤ maxLen) (y1 : Sv a1 n1 l w) :
    Calls Try.prog 3 #[.int .i64 z, .slice a1 n1 c1] w fun e w' => e = .returned (.bool true) ∧ Below w.heap.size w w' := by
  have HV := Lib.hid V
  have HM1 : Hid ((n1 : Int) ≤ 9223372036854775807) := by show _ ≤ _; unfold maxLen at m1; omega
  have HS := Lib.hid y1
  have HZ := Lib.hid hz
  clear V y1 m1 hz
  obtain ⟨U, hU⟩ : ∃ U : Nat, (U : Int) = z % 18446744073709551616 := ⟨(z % 18446744073709551616).toNat, by omega⟩
  obtain ⟨nn, hnn⟩ : ∃ nn, nn = 1 + U % 8 := ⟨_, rfl⟩
  obtain ⟨q, hq⟩ : ∃ q, q = U % 8 := ⟨_, rfl⟩
  have hn1 : 1 ≤ nn := by omega
  have hn8 : nn ≤ 8 := by omega
  have hw1 : IntKind.u64.wrap z = (U : Int) := by rw [IntKind.wrap_u64, hU]
  have hw2 : (U : Int).tmod 8 = (q : Int) := by rw [Int.tmod_eq_emod_of_nonneg (by omega)]; omega
  have hw3 : wrap64 (q : Int) = (q : Int) := by unfold wrap64; omega
  have hw4 : wrap64 (1 + (q : Int)) = (nn : Int) := by unfold wrap64; omega
  clear hU hnn hq
  go_enter Try.func3, Try.ntmps3
  go_wp2_with fail
  refine (walk_first HV.out w).mono ?_
  rintro e w1 ⟨rfl, hb1⟩
  have HB1 := Lib.hid hb1
  have hs1 := hb1.size
  clear hb1
  go_wp2_with fail
  refine (HV.out.new nn w1 hn1 (by omega)).mono ?_
  rintro e w2 ⟨g, F, rfl, hd, hF, hb⟩
  have hlt := HV.out.lt hd
  go_wp2_with fail
  refine (ref6_new nn w2 (by omega) (by omega)).mono ?_
  rintro e w3 ⟨gr, kb, kc, rfl, hg, hk, hr, hb2⟩
  have hs2 := hb.size
  have HP := Lib.hid (show Pd Dev w.heap.size g gr kb kc none 0 (Sm.new nn) (Sm.new nn) F w3 from ⟨HV.out.below hd hb2, hr, (fun k hk => by have := hF k hk; omega), ⟨by omega, by omega⟩, (fun x e => by cases e), (fun hf => by have := hlt _ hf; omega), (fun hf => by have := hlt _ hf; omega), (fun x e => by cases e)⟩)
  have HB3 := Lib.hid ((HB1.out.trans (hb.mono hs1)).trans (hb2.mono (by omega)))
  have HPL := Lib.hid (Sm.pl_new nn)
  clear hd hF hb hlt hg hk hr hb2 HB1 hs1 hs2 hw1 hw2 hw3 hw4
  go_upto_block 0 with (fail)
  go_cut [41] (fun iv wx => ∃ (i : Nat) (d : Sm.Dv) (F : Nat → Prop) (wa : Option Addr) (wc : Nat), iv = .int .i64 (i : Int) ∧ i ≤ 80 ∧ Hid (Sm.Pl nn i d) ∧ Hid (Pd Dev w.heap.size g gr kb kc wa wc d d F wx) ∧ Hid (Below w.heap.size w wx))
  case first =>
    go_wp2_with fail
    go_loopw [41] (fun iv wr => ∃ (j : Nat) (d : Sm.Dv) (F : Nat → Prop) (wa : Option Addr) (wc : Nat), j ≤ n1 ∧ iv = .int .i64 (j : Int) ∧ j ≤ 80 ∧ Hid (Sm.Pl nn j d) ∧ Hid (Pd Dev w.heap.size g gr kb kc wa wc d d F wr) ∧ Hid (Below w.heap.size w wr)) (fun iv _ => n1 - (ixOf iv).toNat)
    case atStart => exact ⟨0, Sm.new nn, F, none, 0, Nat.zero_le _, rfl, by omega, HPL.out, HP.out, HB3.out⟩
    case round =>
      obtain ⟨j, d, F, wa, wc, hj, rfl, hj80, HPL, HP, HB⟩ := hrel
      have hwr := HB.out.size
      by_cases hlt : j < n1
      · obtain ⟨gs, off, ab, nb, cb, av, nt, ct, ha, hx0⟩ := HS.out.2 j (by rw [← HS.out.1]; exact hlt)
        generalize l[j]'(by rw [← HS.out.1]; exact hlt) = s at hx0
        have hx := hx0.keep HB.out
        subst ha
        obtain ⟨sk, si, sb, sts⟩ := s
        have e0 := hx.c0; have e1 := hx.c1; have e2 := hx.c2; have e3 := hx.c3
        dsimp only at e0 e1 e2 e3
        have hba := one_bs wr (.cells #[.int .i64 sk, .int .i64 si, .slice ab nb cb, .slice av nt ct] 34)
        have HPA := Lib.hid (Pd.below HV.out HP.out hba)
        have HBA := Lib.hid (HB.out.trans (hba.mono hwr))
        have HX := Lib.hid hx0
        have HPPL := Lib.hid (Pd.pp_lt HV.out HP.out)
        have hnb : nb = sb.length := by obtain ⟨_, _, e⟩ := hx.b.form; injection e
        have HNB := Lib.hid hnb
        clear hba hnb hx hx0
        by_cases h80 : j = 80
        · have q : decide ((80 : Int) ≤ (j : Int)) = true := by simp; omega
          clear h80
          go_wp2
          go_meet
          exact ⟨j, d, F, wa, wc, rfl, hj80, HPL, HPA, HBA⟩
        have q80 : decide ((80 : Int) ≤ (j : Int)) = false := by simp; omega
        by_cases h200 : nb ≤ 200
        case neg =>
          have q : decide ((200 : Int) < (nb : Int)) = true := by simp; omega
          clear h200 h80
          go_wp2
          go_meet
          exact ⟨j, d, F, wa, wc, rfl, hj80, HPL, HPA, HBA⟩
        have q200 : decide ((200 : Int) < (nb : Int)) = false := by simp; omega
        by_cases t200 : nt ≤ 200
        case neg =>
          have q : decide ((200 : Int) < (nt : Int)) = true := by simp; omega
          clear t200 h200 h80
          go_wp2
          go_meet
          exact ⟨j, d, F, wa, wc, rfl, hj80, HPL, HPA, HBA⟩
        have qt200 : decide ((200 : Int) < (nt : Int)) = false := by simp; omega
        obtain ⟨U, hU⟩ : ∃ U : Nat, (U : Int) = sk % 18446744073709551616 := ⟨(sk % 18446744073709551616).toNat, by omega⟩
        have hw1 : IntKind.u64.wrap sk = (U : Int) := by rw [IntKind.wrap_u64, hU]
        obtain ⟨K, hK⟩ : ∃ K : Int, (U : Int).tmod 5 = K := ⟨_, rfl⟩
        have hKb : 0 ≤ K ∧ K < 5 := by rw [← hK, Int.tmod_eq_emod_of_nonneg (by omega)]; omega
        obtain ⟨hK0, hK5⟩ := hKb
        obtain ⟨i0, hi0, hz0, hz1, hz2⟩ := info_of info1b
        have HI0 := Lib.hid hi0; have HZ0 := Lib.hid hz0; have HZ1 := Lib.hid hz1; have HZ2 := Lib.hid hz2
        have hj79 : j < 80 := by omega
        clear hU hi0 hz0 hz1 hz2 h80
        have HBW := Lib.hid (HBA.out.trans ((one_bs (wr.alloc (.cells #[.int .i64 sk, .int .i64 si, .slice ab nb cb, .slice av nt ct] 34)) (.cells #[] 5)).mono (by simp; omega)))
        have HY0 := Lib.hid (show Yt (.slice ab nb cb) sb w from HX.out.b)
        have HSR : Hid (Src Try.prog 1 31 (.slice ab nb cb) nb (yc sb) ((wr.alloc (.cells #[.int .i64 sk, .int .i64 si, .slice ab nb cb, .slice av nt ct] 34)).alloc (.cells #[] 5))) := by
          have h1 := Yt.src (HY0.out.keep HBW.out)
          rw [← HNB.out] at h1; exact h1
        have HOL := Lib.hid (own_nil2 (wr.alloc (.cells #[.int .i64 sk, .int .i64 si, .slice ab nb cb, .slice av nt ct] 34)) (wr.heap.size + 1) (by simp))
        go_wp2_with (at_builtin; refine wpList_append_src _ rfl (.tmp 60) (.tmp 62) 31 31 rfl (wr.heap.size + 1) 5 i0 _ 1 1 Try.underlying31 HI0.out HZ0.out HZ1.out HZ2.out rfl (.slice (some ⟨wr.heap.size + 1, 0, none⟩) 0 0) 0 [] rfl HOL.out _ nb (yc sb) rfl ?qs ?qa ?qb ?qc ?_)
        case qs => exact HSR.out
        case qa => unfold maxLen; omega
        case qb => omega
        case qc => simp
        intro v2 w2 hown hgrow hat
        have hoA : Only (fun k => k = wr.heap.size + 1) ((wr.alloc (.cells #[.int .i64 sk, .int .i64 si, .slice ab nb cb, .slice av nt ct] 34)).alloc (.cells #[] 5)) w2 := Only.grown (Only.refl _ _) hgrow (fun k e => .inl (by simp [Value.ownBlock] at e; omega))
        have HP2 := Lib.hid (Pd.keepO HV.out (Pd.below HV.out HPA.out (one_bs (wr.alloc (.cells #[.int .i64 sk, .int .i64 si, .slice ab nb cb, .slice av nt ct] 34)) (.cells #[] 5))) hoA (fun k hk e => by have := HPPL.out k hk; omega))
        have HB2 := Lib.hid (HBW.out.grown hgrow (by have := HBW.out.size; exact this) (fun k e => by simp [Value.ownBlock] at e; omega))
        have hs2 := HB2.out.size
        have hbk := hoA.block wr.heap.size (by simp; omega) (by omega)
        have hbk2 : w2.heap[wr.heap.size]? = some (.cells #[.int .i64 sk, .int .i64 si, .slice ab nb cb, .slice av nt ct] 34) := by
          rw [hbk, Below.heap_alloc (wr.alloc (.cells #[.int .i64 sk, .int .i64 si, .slice ab nb cb, .slice av nt ct] 34)) _ wr.heap.size (by simp)]; exact heap_alloc_new wr _
        have k0 := Lib.cell_of_heap hbk2 0; have k1 := Lib.cell_of_heap hbk2 1; have k2 := Lib.cell_of_heap hbk2 2; have k3 := Lib.cell_of_heap hbk2 3
        replace k0 : w2.cell? ⟨wr.heap.size, 0, none⟩ = some (.int .i64 sk) := k0
        replace k1 : w2.cell? ⟨wr.heap.size, 1, none⟩ = some (.int .i64 si) := k1
        replace k2 : w2.cell? ⟨wr.heap.size, 2, none⟩ = some (.slice ab nb cb) := k2
        replace k3 : w2.cell? ⟨wr.heap.size, 3, none⟩ = some (.slice av nt ct) := k3
        have hgl : wr.heap.size < w2.heap.size := by have := hoA.size; simp at this; omega
        have hw2 : w2.ownsRow (wr.heap.size + 1) 5 1 v2 nb (yc sb) := by
          simpa using hown
        obtain ⟨a2, c2, hv2⟩ := (Yt.of_own hw2).form
        rw [← HNB.out] at hv2
        subst hv2
        have HOW := Lib.hid hw2
        obtain ⟨gO, hgO⟩ : ∃ gO, gO = wr.heap.size := ⟨_, rfl⟩
        rw [← hgO] at k0 k1 k2 k3 hgl HOW HPPL ⊢
        have HGO : Hid (w.heap.size ≤ gO) := by rw [hgO]; exact hwr
        clear hown hgrow hat hoA hbk hbk2 hw2 hgO HOL HSR HBW HPA HBA HP HB hwr
        go_upto_block 2 with (fail)
        have HO := Lib.hid (show Ow (gO + 1) gr kb wa F (.slice a2 nb c2) nb sb w2 from ⟨HOW.out, fun k e hk => by have := (HOW.out.lt k e).1; have := HPPL.out k hk; omega⟩)
        clear HOW
        go_cut [12, 13] (fun ev fv wx => ∃ (E : Int) (d' : Sm.Dv) (F' : Nat → Prop) (wa' : Option Addr) (wc' : Nat), ev = .int .i64 E ∧ fv = .int .i64 E ∧ Hid (Sm.Pl nn (j + 1) d') ∧ Hid (Pd Dev w.heap.size g gr kb kc wa' wc' d' d' F' wx) ∧ Hid (Below w.heap.size w wx) ∧ Hid (Ow (gO + 1) gr kb wa' F' (.slice a2 nb c2) nb sb wx))
        case first =>
          rcases (show K = 0 ∨ K = 1 ∨ K = 2 ∨ K = 3 ∨ K = 4 by omega) with rfl | rfl | rfl | rfl | rfl
          · have HLIM := Lib.hid (pl_lim HPL.out (by omega))
            obtain ⟨E, hE⟩ : ∃ E, E = (Sm.write d si sb).2 := ⟨_, rfl⟩
            obtain ⟨S, hS⟩ : ∃ S, S = st sb := ⟨_, rfl⟩
            have HY2 := Lib.hid (show Yt (.slice a2 nb c2) sb w2.drew from Yt.of_own (own_drew HO.out.own))
            have hsb : sb.length ≤ 1000 := by have := HNB.out; omega
            have HSB := Lib.hid hsb
            have hdr := below_drew4 w2
            have HPD := Lib.hid (Pd.below HV.out HP2.out hdr)
            have HBD := Lib.hid (HB2.out.trans (hdr.mono hs2))
            have hsd := HBD.out.size
            have hnw : ∀ x, a2 = some x → ¬ F x.block := fun x e hf => HO.out.ap x.block (by rw [e]; rfl) (.inl hf)
            have HW1 : Hid (Calls Try.prog 10 #[.pointer (some ⟨g, 0, none⟩), .int .i64 si, .slice a2 nb c2] w2.drew fun e w' => e = .returned (.int .i64 E) ∧ Did Dev g F (Sm.write d si sb).1 w2.drew w') := by
              rw [hE]; exact HV.out.write si a2 nb c2 sb HPD.out.a HLIM.out HY2.out hsb (fun _ x e => hnw x e)
            have HW2 : Hid (∀ W, Dr gr kb kc wa wc d W → Calls Try.prog 11 #[.pointer (some ⟨gr, 0, none⟩), .int .i64 si, .string S] W fun e w' => e = .returned (.int .i64 E) ∧ Only (fun k => k = gr) W w' ∧ ∃ wa' wc', Dr gr kb kc wa' wc' (Sm.write d si sb).1 w' ∧ ∀ x, wa' = some x → wa = some x ∨ (W.heap.size ≤ x.block ∧ x.block < w'.heap.size)) := fun W hW => by
              rw [hE, hS]; exact ref6_write gr kb kc wc wa d si sb W hW HLIM.out.w (by omega) ⟨HLIM.out.c0, HLIM.out.c1⟩ ⟨HLIM.out.l0, HLIM.out.l1⟩
            have HCV : Hid (∀ W, Below w.heap.size w W → (convert 31 9 (.slice ab nb cb)).run Try.prog W = .ok (.string S) W) := fun W hW => by
              rw [hS]; exact Yt.str (HY0.out.keep hW)
            have S0 := Lib.hid (show w2.drew.cell? ⟨gO, 1, none⟩ = some (.int .i64 si) ∧ w2.drew.cell? ⟨gO, 2, none⟩ = some (.slice ab nb cb) ∧ (convert 31 9 (.slice ab nb cb)).run Try.prog w2.drew = .ok (.string S) w2.drew from ⟨k1, k2, HCV.out _ HBD.out⟩)
            have HNF : Hid (¬ Pp gr kb wa F gO) := fun hf => by have := HPPL.out gO hf; omega
            have HLD : Hid (gO < w2.drew.heap.size) := hgl
            have HOD : Hid (Ow (gO + 1) gr kb wa F (.slice a2 nb c2) nb sb w2.drew) := ⟨own_drew HO.out.own, HO.out.ap⟩
            clear t200 h200 hE hS hsb hdr hnw HP2 HB2 hs2 HO HY2 HLIM
            go_upto_region 14 with (fail)
            go_region_held3 (fun w' => w'.cell? ⟨gO, 1, none⟩ = some (.int .i64 si) ∧ w'.cell? ⟨gO, 2, none⟩ = some (.slice ab nb cb) ∧ (convert 31 9 (.slice ab nb cb)).run Try.prog w' = .ok (.string S) w')
              (first | exact S0.out | exact S6.out | exact S7.out)
              (first
              | (go_at_call 10; refine HW1.out.mono ?_; rintro e w6 ⟨rfl, hd⟩; obtain ⟨F6, HP6, HB6, HO6, HA6⟩ := Pd.one HPD.out hd HBD.out hsd; have HW6 := Lib.hid (Ow.step HOD.out HO6.out (fun k hk => .inl hk) HA6.out); have hb6 := HO6.out.block gO HLD.out (fun hf => HNF.out (.inl hf)); have S6 := Lib.hid (show w6.cell? ⟨gO, 1, none⟩ = some (.int .i64 si) ∧ w6.cell? ⟨gO, 2, none⟩ = some (.slice ab nb cb) ∧ (convert 31 9 (.slice ab nb cb)).run Try.prog w6 = .ok (.string S) w6 from ⟨by rw [← S0.out.1]; simp [World.cell?, hb6], by rw [← S0.out.2.1]; simp [World.cell?, hb6], HCV.out _ HB6.out⟩); have HL6 : Hid (gO < w6.heap.size) := (by have h1 := HO6.out.size; have h2 := HLD.out; exact (by omega : gO < w6.heap.size)); have hs6 := HB6.out.size; clear hd hb6)
              | (go_at_call 11; refine (HW2.out _ HP6.out.r).mono ?_; rintro e w7 ⟨rfl, ho, wa', wc', hr, hwa⟩; obtain ⟨HP7, HB7, HA7⟩ := Pd.two HV.out HP6.out (ho.mono (fun k _ e => .inl e)) hr hwa HB6.out hs6; have HW7 := Lib.hid (Ow.step HW6.out (ho.mono (fun k _ e => .inl e) : Only (Fp gr kb) w6 w7) fp_pp HA7.out); have hb7 := ho.block gO HL6.out (fun e => HNF.out (.inr (.inl e))); have S7 := Lib.hid (show w7.cell? ⟨gO, 1, none⟩ = some (.int .i64 si) ∧ w7.cell? ⟨gO, 2, none⟩ = some (.slice ab nb cb) ∧ (convert 31 9 (.slice ab nb cb)).run Try.prog w7 = .ok (.string S) w7 from ⟨by rw [← S6.out.1]; simp [World.cell?, hb7], by rw [← S6.out.2.1]; simp [World.cell?, hb7], HCV.out _ HB7.out⟩); clear ho hr hwa hb7))
            all_goals
              have HPL2 := Lib.hid (Sm.pl_write HPL.out si sb)
              clear S0 S6 S7 HP6 HB6 HW6 HA6 HO6 HA7 HW1 HW2 HCV HPD HBD HOD
              go_wp2
              go_meet
              exact ⟨E, _, F6, wa', wc', rfl, rfl, HPL2, HP7, HB7, HW7⟩
          · clear t200 h200
            go_wp2
            go_meet
            exact ⟨0, d, F, wa, wc, rfl, rfl, Sm.pl_mono HPL.out, HP2, HB2, HO⟩
          · have HLIM := Lib.hid (pl_lim HPL.out (by omega))
            clear t200 h200
            go_wp2_with fail
            refine (HV.out.flush HP2.out.a HLIM.out).mono ?_
            rintro e w6 ⟨rfl, hd⟩
            obtain ⟨F6, HP6, HB6, HO6, HA6⟩ := Pd.one HP2.out hd HB2.out hs2
            have HW6 := Lib.hid (Ow.step HO.out HO6.out (fun k hk => .inl hk) HA6.out)
            have hs6 := HB6.out.size
            clear hd HA6
            go_wp2_with fail
            refine (ref6_flush gr kb kc wc wa d _ HP6.out.r HPL.out.ok HLIM.out.w ⟨HLIM.out.c0, HLIM.out.c1⟩ ⟨HLIM.out.l0, HLIM.out.l1⟩).mono ?_
            rintro e w7 ⟨rfl, ho, wa', wc', hr, hwa⟩
            obtain ⟨HP7, HB7, HA7⟩ := Pd.two HV.out HP6.out ho hr (wa_old hwa) HB6.out hs6
            have HW7 := Lib.hid (Ow.step HW6.out ho fp_pp HA7.out)
            have HPL2 := Lib.hid (Sm.pl_flush HPL.out)
            clear ho hr hwa HA7 HP6 HB6 HW6 HP2 HB2 HO
            obtain ⟨E, hE⟩ : ∃ E, E = (Sm.flush d).2 := ⟨_, rfl⟩
            rw [← hE]
            clear hE
            go_wp2
            go_meet
            exact ⟨E, _, F6, wa', wc', rfl, rfl, HPL2, HP7, HB7, HW7⟩
          · have HLIM := Lib.hid (pl_lim HPL.out (by omega))
            have HII := Lib.hid HX.out.ii
            clear t200 h200
            go_wp2_with fail
            refine (HV.out.limit si HP2.out.a HII.out).mono ?_
            rintro e w6 ⟨rfl, hd⟩
            obtain ⟨F6, HP6, HB6, HO6, HA6⟩ := Pd.one HP2.out hd HB2.out hs2
            have HW6 := Lib.hid (Ow.step HO.out HO6.out (fun k hk => .inl hk) HA6.out)
            have hs6 := HB6.out.size
            have hbk := HO6.out.block gO hgl (fun hf => by have := HPPL.out gO (.inl hf); omega)
            have k16 : w6.cell? ⟨gO, 1, none⟩ = some (.int .i64 si) := by rw [← k1]; simp [World.cell?, hbk]
            clear hd HA6 hbk
            go_wp2_with fail
            refine (ref6_bound gr kb kc wc wa d si _ HP6.out.r).mono ?_
            rintro e w7 ⟨rfl, hr, ho⟩
            have ho2 : Only (Fp gr kb) w6 w7 := ho.mono (fun k _ e => .inl e)
            obtain ⟨HP7, HB7, HA7⟩ := Pd.two HV.out HP6.out ho2 hr (fun x e => .inl e) HB6.out hs6
            have HW7 := Lib.hid (Ow.step HW6.out ho2 fp_pp HA7.out)
            have HPL2 := Lib.hid (Sm.pl_bound HPL.out si HII.out.2)
            clear ho ho2 hr HA7 HP6 HB6 HW6 HP2 HB2 HO k16
            go_wp2
            go_meet
            exact ⟨0, _, F6, wa, wc, rfl, rfl, HPL2, HP7, HB7, HW7⟩
          · have HLIM := Lib.hid (pl_lim HPL.out (by omega))
            have HT0 := Lib.hid (show It (.slice av nt ct) sts w from HX.out.t)
            have HTL : Hid (sts.length ≤ 1000) := by
              obtain ⟨_, _, e⟩ := HT0.out.form
              injection e with _ e2 _
              show _ ≤ _; omega
            have HPG : Hid (∀ k, Pp gr kb wa F k → w.heap.size ≤ k ∨ ∃ x, wa = some x ∧ x.block = k) := fun k hk => by
              rcases hk with hk | rfl | rfl | hk
              · exact .inl (HP2.out.o1 k hk)
              · exact .inl HP2.out.o2.1
              · exact .inl HP2.out.o2.2
              · exact .inr hk
            clear t200 h200
            go_wp2_with fail
            refine (HV.out.crash av nt ct sts HP2.out.a HLIM.out.w (HT0.out.keep HB2.out) HTL.out (not_ownI4 HP2.out.o1 HT0.out)).mono ?_
            rintro e w6 ⟨rfl, hd⟩
            obtain ⟨F6, HP6, HB6, HO6, HA6⟩ := Pd.one HP2.out hd HB2.out hs2
            have HW6 := Lib.hid (Ow.step HO.out HO6.out (fun k hk => .inl hk) HA6.out)
            have hs6 := HB6.out.size
            have hbk := HO6.out.block gO hgl (fun hf => by have := HPPL.out gO (.inl hf); omega)
            have k36 : w6.cell? ⟨gO, 3, none⟩ = some (.slice av nt ct) := by rw [← k3]; simp [World.cell?, hbk]
            have HNT : Hid (0 < sts.length → ∀ x, av = some x → x.block ≠ gr ∧ x.block ≠ kb) := fun h0 x e => by
              have h1 := not_ownI4 (p := fun k => w.heap.size ≤ k) (fun k hk => hk) HT0.out h0 x e
              have h2 := HP2.out.o2
              exact ⟨fun e2 => h1 (by show _ ≤ _; omega), fun e2 => h1 (by show _ ≤ _; omega)⟩
            clear hd HA6 hbk
            go_wp2_with fail
            refine (ref6_crash gr kb kc wc wa d av nt ct sts _ HP6.out.r HPL.out.ok HLIM.out.w (HT0.out.keep HB6.out) HNT.out).mono ?_
            rintro e w7 ⟨rfl, ho, wa', wc', hr, hwa⟩
            obtain ⟨HP7, HB7, HA7⟩ := Pd.two HV.out HP6.out ho hr (wa_old hwa) HB6.out hs6
            have HW7 := Lib.hid (Ow.step HW6.out ho fp_pp HA7.out)
            have HPL2 := Lib.hid (Sm.pl_crash HPL.out sts)
            clear ho hr hwa HA7 HP6 HB6 HW6 HP2 HB2 HO k36
            go_wp2
            go_meet
            exact ⟨0, _, F6, wa', wc', rfl, rfl, HPL2, HP7, HB7, HW7⟩
        case rest =>
          obtain ⟨E, d', F', wa', wc', rfl, rfl, HPL', HP', HB', HO'⟩ := hcut
          have HRW := Lib.hid (Ow.rw HO'.out)
          clear HO' HP2 HB2 HO hs2 k0 k1 k2 k3 hgl hK hK0 hK5 t200 e0 e1 e2 e3
          go_wp2_with fail
          go_loopw [110] (fun kv wx => ∃ k : Nat, k ≤ nb ∧ kv = .int .i64 (k : Int) ∧ Hid (Pd Dev w.heap.size g gr kb kc wa' wc' d' d' F' wx) ∧ Hid (Below w.heap.size w wx) ∧ Hid (Rw (gO + 1) gr kb wa' F' (.slice a2 nb c2) nb wx)) (fun kv _ => nb - (ixOf kv).toNat)
          case atStart => exact ⟨0, by omega, rfl, HP'.out, HB'.out, HRW.out⟩
          case round =>
            obtain ⟨k, hk, rfl, HPK, HBK, HRK⟩ := hrel
            have hsk := HBK.out.size
            by_cases hkn : k < nb
            · obtain ⟨go, y, ha2, hnc, hcy, hfy, hly, hBy⟩ := Rw.cell HRK.out hkn
              subst ha2
              have HR2 : Hid (∀ y, Rw (gO + 1) gr kb wa' F' (.slice (some ⟨go, 0, none⟩) nb c2) nb (wr.setCell ⟨go, k, none⟩ (.int .u8 y))) := fun y => Rw.set HRK.out k y
              have HON : Hid (∀ y, Only (fun i => i = go) wr (wr.setCell ⟨go, k, none⟩ (.int .u8 y))) := fun y => Only.setCell (p := fun i => i = go) (Only.refl _ _) (q := ⟨go, k, none⟩) (.inl rfl) _
              have HAP := Lib.hid (HRK.out.ap go rfl)
              have HP2 : Hid (∀ y, Pd Dev w.heap.size g gr kb kc wa' wc' d' d' F' (wr.setCell ⟨go, k, none⟩ (.int .u8 y))) := fun y => Pd.keepO HV.out HPK.out (HON.out y) (fun i hi e => by subst e; exact HAP.out hi)
              have HB2 : Hid (∀ y, Below w.heap.size w (wr.setCell ⟨go, k, none⟩ (.int .u8 y))) := fun y => HBK.out.trans (only_bel (HON.out y) hsk (fun i hi e => by have := HGO.out; omega))
              clear HPK HBK HRK HON HAP hBy
              go_wp2
              go_roundw
              case rel => exact ⟨k + 1, by omega, by go_num, HP2.out _, HB2.out _, HR2.out _⟩
              case measure => simp [ixOf]; omega
            · have hkk : (nb : Int) ≤ (k : Int) := by omega
              obtain ⟨N, hN⟩ : ∃ N, N = d'.ws.length := ⟨_, rfl⟩
              obtain ⟨C, hC⟩ : ∃ C, C = d'.calls := ⟨_, rfl⟩
              have HN := Lib.hid hN; have HC := Lib.hid hC
              have HWT : Hid (∀ W, Dev g d' F' W → Calls Try.prog 18 #[.pointer (some ⟨g, 0, none⟩)] W fun e w' => e = .returned (.int .i64 (N : Int)) ∧ Below W.heap.size W w') := fun W hW => by rw [hN]; exact HV.out.waiting hW
              have HCL : Hid (∀ W, Dev g d' F' W → Calls Try.prog 19 #[.pointer (some ⟨g, 0, none⟩)] W fun e w' => e = .returned (.int .i64 C) ∧ Below W.heap.size W w') := fun W hW => by rw [hC]; exact HV.out.calls hW
              have hEE : (E != E) = false := by simp
              have hNN : ((N : Int) != (N : Int)) = false := by simp
              have hCC : (C != C) = false := by simp
              have S0 := Lib.hid (PkC.of (Pk.below HV.out (⟨HPK.out, HBK.out⟩ : Pk Dev w.heap.size g gr kb kc wa' wc' d' F' w wr) hsk (below_drew4 wr)) N C hN hC)
              clear hN hC HPK HBK HRK hsk hk hkn
              go_upto_region 28 with (fail)
              go_region_held3 (fun w' => w'.cell? ⟨gr, 1, none⟩ = some (.slice wa' N wc') ∧ w'.cell? ⟨gr, 3, none⟩ = some (.int .i64 C) ∧ Hid (Pk Dev w.heap.size g gr kb kc wa' wc' d' F' w w')) (first | exact S0.out | exact PkC.keep HV.out (by assumption) rfl hb N C HN.out HC.out)
                (first
                | (go_at_call 18; refine (HWT.out _ (PkC.dev (by assumption))).mono ?_; rintro e w6 ⟨rfl, hb⟩)
                | (go_at_call 19; refine (HCL.out _ (PkC.dev (by assumption))).mono ?_; rintro e w7 ⟨rfl, hb⟩))
              all_goals
                rename_i w9 hHeld
                have HP9 := Lib.hid hHeld.2.2.out
                clear hHeld S0 hEE hNN hCC HWT HCL HN HC
                go_wp2_with fail
                go_loopw [15] (fun kv wx => ∃ x : Int, kv = .int .i64 x ∧ -1 ≤ x ∧ x ≤ (nn : Int) + 1 ∧ Hid (Pk Dev w.heap.size g gr kb kc wa' wc' d' F' w wx)) (fun kv _ => ((nn : Int) + 1 - ixOf kv).toNat)
                case atStart => exact ⟨-1, rfl, by omega, by omega, HP9.out⟩
                case round =>
                  obtain ⟨x, rfl, hx1, hx2, HPX⟩ := hrel
                  have hsx := HPX.out.b.size
                  by_cases hxn : x ≤ (nn : Int)
                  · have HPT := Lib.hid (Pd.pp_lt HV.out HPX.out.p)
                    obtain ⟨T, hT⟩ : ∃ T, T = wr.heap.size := ⟨_, rfl⟩
                    have HTB : Hid (w.heap.size ≤ T) := by show _ ≤ _; rw [hT]; exact hsx
                    have HWS : Hid (d'.ws.length ≤ 1000) := by have := HPL'.out.w; exact (by omega : d'.ws.length ≤ 1000)
                    rw [← hT] at HPT
                    clear HP9
                    go_wp2_with fail
                    refine (HV.out.read x HPX.out.p.a HWS.out).mono ?_
                    rintro e w6 ⟨a6, c6, n6, rfl, hn6, ho6, hb⟩
                    have HP6 := Lib.hid (Pk.below HV.out HPX.out hsx hb)
                    have hs6 := HP6.out.b.size
                    have hmx := own_max ho6
                    rw [← hT] at ho6
                    have HO6 := Lib.hid ho6
                    clear hb HPX hsx ho6 hT hn6
                    go_wp2_with fail
                    refine (ref6_read gr kb kc wc' wa' d' x _ HP6.out.p.r HWS.out).mono ?_
                    rintro e w7 ⟨rfl, hb⟩
                    have HP7 := Lib.hid (Pk.below HV.out HP6.out hs6 hb)
                    have hs7 := HP7.out.b.size
                    have kx := Yt.str ((Yt.of_own HO6.out).keep hb)
                    rw [bstr_st] at kx
                    have HR7 : Hid (Rw T gr kb wa' F' (.slice a6 n6 c6) n6 w7) := ⟨⟨_, _, own_keep HO6.out hb, fun u hu => by obtain ⟨b, _, rfl⟩ := List.mem_map.1 hu; exact ⟨_, rfl⟩⟩, fun i e hi => by have h1 := (HO6.out.lt i e).1; have h2 := HPT.out i hi; omega⟩
                    obtain ⟨S, hS⟩ : ∃ S, S = st (Sm.read d' x).1 := ⟨_, rfl⟩
                    obtain ⟨E2, hE2⟩ : ∃ E2, E2 = (Sm.read d' x).2 := ⟨_, rfl⟩
                    rw [← hS] at kx ⊢
                    rw [← hE2]
                    have hSS : (S.toList == S.toList) = true := by simp
                    have hSN : (S.toList != S.toList) = false := by simp
                    have hEE : (E2 != E2) = false := by simp
                    clear hb HP6 hs6 HO6 HPT hS hE2
                    go_wp2_with fail
                    go_loopw [170] (fun iv wz => ∃ i : Nat, i ≤ n6 ∧ iv = .int .i64 (i : Int) ∧ Hid (Pk Dev w.heap.size g gr kb kc wa' wc' d' F' w wz) ∧ Hid (Rw T gr kb wa' F' (.slice a6 n6 c6) n6 wz)) (fun iv _ => n6 - (ixOf iv).toNat)
                    case atStart => exact ⟨0, by omega, rfl, HP7.out, HR7.out⟩
                    case round =>
                      obtain ⟨i, hi, rfl, HPZ, HRZ⟩ := hrel
                      have hsz := HPZ.out.b.size
                      by_cases hin : i < n6
                      · obtain ⟨go, y, ha6, hnc, hcy, hfy, hly, hBy⟩ := Rw.cell HRZ.out hin
                        subst ha6
                        have HR2 : Hid (∀ y, Rw T gr kb wa' F' (.slice (some ⟨go, 0, none⟩) n6 c6) n6 (wr.setCell ⟨go, i, none⟩ (.int .u8 y))) := fun y => Rw.set HRZ.out i y
                        have HON : Hid (∀ y, Only (fun k => k = go) wr (wr.setCell ⟨go, i, none⟩ (.int .u8 y))) := fun y => Only.setCell (p := fun k => k = go) (Only.refl _ _) (q := ⟨go, i, none⟩) (.inl rfl) _
                        have HAP := Lib.hid (HRZ.out.ap go rfl)
                        have HP2 : Hid (∀ y, Pk Dev w.heap.size g gr kb kc wa' wc' d' F' w (wr.setCell ⟨go, i, none⟩ (.int .u8 y))) := fun y => ⟨Pd.keepO HV.out HPZ.out.p (HON.out y) (fun k hk e => by subst e; exact HAP.out hk), HPZ.out.b.trans (only_bel (HON.out y) hsz (fun k hk e => by have := HTB.out; omega))⟩
                        clear HPZ HRZ HON HAP hBy
                        go_wp2
                        go_roundw
                        case rel => exact ⟨i + 1, by omega, by go_num, HP2.out _, HR2.out _⟩
                        case measure => simp [ixOf]; omega
                      · have hik : (n6 : Int) ≤ (i : Int) := by omega
                        clear hin HRZ
                        go_wp2
                        go_roundw
                        case rel => exact ⟨x + 1, by go_num, by omega, by omega, HPZ.out⟩
                        case measure => simp [ixOf]; omega
                  · clear HP9
                    go_wp2
                    go_roundw
                    case rel => exact ⟨j + 1, d', F', wa', wc', by omega, by go_num, by omega, HPL', HPX.out.p, HPX.out.b⟩
                    case measure => simp [ixOf]; omega
      · go_wp2
        go_meet
        exact ⟨j, d, F, wa, wc, rfl, hj80, HPL, HP, HB⟩
  case rest =>
    obtain ⟨i, d, F, wa, wc, rfl, hi80, HPL, HP, HB⟩ := hcut
    have hwc := HB.out.size
    go_wp2_with fail
    refine (HV.out.read z HP.out.a (by have := HPL.out.w; omega)).mono ?_
    rintro e w6 ⟨a6, c6, n6, rfl, hn6, ho6, hb⟩
    have HP6 := Lib.hid (Pd.below HV.out HP.out hb); have HB6 := Lib.hid (HB.out.trans (hb.mono hwc))
    have HY6 := Lib.hid (Yt.of_own ho6)
    have hs6 := HB6.out.size
    clear hb ho6 HP HB hwc hn6
    go_wp2_with fail
    refine (ref6_read gr kb kc wc wa d z _ HP6.out.r (by have := HPL.out.w; omega)).mono ?_
    rintro e w7 ⟨rfl, hb⟩
    have kx := Yt.str (HY6.out.keep hb)
    rw [bstr_st] at kx
    have HP7 := Lib.hid (Pd.below HV.out HP6.out hb); have HB7 := Lib.hid (HB6.out.trans (hb.mono hs6))
    have hs7 := HB7.out.size
    obtain ⟨S, hS⟩ : ∃ S, S = st (Sm.read d z).1 := ⟨_, rfl⟩
    obtain ⟨E, hE⟩ : ∃ E, E = (Sm.read d z).2 := ⟨_, rfl⟩
    rw [← hS] at kx ⊢
    rw [← hE]
    have HNN : Hid (∀ W, Pd Dev w.heap.size g gr kb kc wa wc d d F W → Calls Try.prog 22 #[.pointer (some ⟨g, 0, none⟩)] W fun e w' => e = .returned (.int .i64 (nn : Int)) ∧ Below W.heap.size W w') := fun W hW => by have h1 := HV.out.sectors hW.a; rw [HPL.out.len] at h1; exact h1
    have hSS : (S.toList == S.toList) = true := by simp
    clear hb HP6 HB6 hs6 HY6 hS hE HPL
    go_wp2_with fail
    refine (HNN.out _ HP7.out).mono ?_
    rintro e w8 ⟨rfl, hb⟩
    have HB8 := Lib.hid (HB7.out.trans (hb.mono hs7))
    clear hb HP7 HB7 hs7
    go_wp2
    go_ret
    exact ⟨rfl, HB8.out⟩
end Go.Proofs.Ytllbemelljaklaa
