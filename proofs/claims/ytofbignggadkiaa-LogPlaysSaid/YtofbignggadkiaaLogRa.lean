/- The reference's Append. -/
import Derived.Test.YtofbignggadkiaaLogRv
import Derived.Test.YtofbignggadkiaaLogRu
namespace Go.Proofs.Ytofbignggadkiaa
open Go.RowKit

theorem Lm.tg_get : ∀ (ps : List (List UInt8)) (i : Nat) (_h : i < ps.length), (Lm.tg ps)[i]? = some (ps.getD i [], decide (i + 1 = ps.length))
  | [], _, h => absurd h (Nat.not_lt_zero _)
  | p :: r, 0, _ => by
    cases r <;> simp [Lm.tg]
  | p :: r, i + 1, h => by
    have := Lm.tg_get r i (by simpa using h)
    simp only [Lm.tg, List.getElem?_cons_succ, this, List.length_cons, List.getD_cons_succ]
    congr 2
    simp
theorem Lm.tg_take (ps : List (List UInt8)) (i : Nat) (h : i < ps.length) : (Lm.tg ps).take (i + 1) = (Lm.tg ps).take i ++ [(ps.getD i [], decide (i + 1 = ps.length))] := by
  rw [List.take_add_one, Lm.tg_get ps i h]; rfl
theorem wr_grow2 (ep : Nat) : ∀ (ps : List (List UInt8 × Bool)) (k : Nat) (d : Sm.Dv), Sm.Ok d → -1 ≤ d.left → d.left ≤ 9223372036854775807 → Grow ps.length d (Lm.wr ep ps k d).1
  | [], _, d, ho, l0, l1 => Grow.refl ho l0 l1 0
  | p :: r, k, d, ho, l0, l1 => by
    have h1 := grow_write ho l0 l1 ((2 + k : Nat) : Int) (Lm.fsec ep k p.2 p.1)
    unfold Lm.wr
    split
    · exact h1.le (by simp)
    · have := h1.trans (wr_grow2 ep r (k + 1) _ h1.ok h1.l0 h1.l1)
      exact this.le (by simp; omega)
theorem lit_srcS (w : World) (x : List UInt8) (S : ByteArray) (hS : S = st x) : Src Try.prog 1 56 (.slice (some ⟨w.heap.size, 0, none⟩) 1 1) 1 (sc [x]) (w.alloc (.cells #[.string S] 9)) := by
  rw [hS]
  exact src_row (own_lits w x 0 (Nat.zero_le _)) Try.underlying56 (sc_one _)
theorem own_formS {w : World} {B n : Nat} {E : TypeId} {v : Value} {L : List (List UInt8)} (h : w.ownsRow B E 1 v n (sc L)) : ∃ a c, v = .slice a n c := by
  obtain ⟨h1, h2⟩ := h
  rcases h2 with ⟨rfl, rfl⟩ | ⟨g, cap, cur, rfl, _⟩
  · exact ⟨none, 0, rfl⟩
  · exact ⟨_, _, rfl⟩
/-- behind some rounds: the parts so far, and what is left -/
def Pq (w : World) (T : List (List UInt8)) (v : Value) (n : Nat) (rb : List UInt8) (wr : World) : Prop :=
  ∃ D : List (List UInt8), D.length = n ∧ D ++ Lm.parts rb = T ∧ wr.ownsRow w.heap.size 9 1 v n (sc D) ∧ Below w.heap.size w wr
/-- what stands where the reference's Append looks -/
def Sa (gl gr : Nat) (at_ ep : Int) (w' : World) : Prop :=
  w'.cell? ⟨gl, 0, none⟩ = some (.pointer (some ⟨gr, 0, none⟩)) ∧ w'.cell? ⟨gl, 7, none⟩ = some (.int .i64 at_) ∧ w'.cell? ⟨gl, 3, none⟩ = some (.int .i64 ep)
theorem own_cellS {w : World} {B n c g : Nat} {E : TypeId} {T : List (List UInt8)} (h : w.ownsRow B E 1 (.slice (some ⟨g, 0, none⟩) n c) T.length (sc T)) (j : Nat) (hj : j < T.length) : w.cell? ⟨g, j, none⟩ = some (.string (st (T.getD j []))) := by
  obtain ⟨_, h2⟩ := h
  rcases h2 with ⟨e, _⟩ | ⟨b, cap, cur, e, _, hg, hcap, _, hcs, htk⟩
  · cases e
  · injection e with e1
    injection e1 with e1
    injection e1 with e1
    subst e1
    have : (sc T)[j]? = some (.string (st (T.getD j []))) := by
      unfold sc
      rw [List.getElem?_map, List.getElem?_eq_getElem hj, List.getD, List.getElem?_eq_getElem hj]; rfl
    rw [Lib.cell_of_heap hg, ← this, ← htk]
    simp [hj]
theorem own_srcS {w : World} {B n c : Nat} {a : Option Addr} {L : List (List UInt8)} (h : w.ownsRow B 9 1 (.slice a n c) n (sc L)) : Src Try.prog 1 56 (.slice a n c) n (sc L) w := by
  have h' := h
  obtain ⟨h1, h2⟩ := h
  rcases h2 with ⟨e, h0⟩ | ⟨g, cap, cur, e, _⟩
  · injection e with e1 e2 e3
    subst e1 e2 e3
    have : sc L = [] := List.eq_nil_of_length_eq_zero (by simpa using h1)
    rw [this]; exact Src.ofNil w Try.underlying56 0
  · injection e with e1 e2 e3
    subst e1
    exact src_row h' Try.underlying56 (sc_one _)
theorem own_keepR {w w' : World} {B n : Nat} {e : TypeId} {v : Value} {xs : List Value} {p : Nat → Prop} (h : w.ownsRow B e 1 v n xs) (ho : Only p w w') (hp : ∀ x, v.ownBlock = some x → ¬ p x) : w'.ownsRow B e 1 v n xs := by
  obtain ⟨h1, h2⟩ := h
  refine ⟨h1, ?_⟩
  rcases h2 with h2 | ⟨b, cap, cur, hv, hB, hg, rest⟩
  · exact .inl h2
  · exact .inr ⟨b, cap, cur, hv, hB, by rw [ho.block b (heap_lt hg) (hp b (by rw [hv]; rfl))]; exact hg, rest⟩
theorem Rl.setAt {gl gr lc : Nat} {la : Option Addr} {L : Lm.Lg} {W : World} (h : Rl gl gr la lc L W) (x : Nat) : Rl gl gr la lc { L with at_ := x } (W.setCell ⟨gl, 7, none⟩ (.int .i64 (x : Int))) := by
  have k : ∀ j v, j ≠ 7 → W.cell? ⟨gl, j, none⟩ = some v → (W.setCell ⟨gl, 7, none⟩ (.int .i64 (x : Int))).cell? ⟨gl, j, none⟩ = some v := fun j v h2 hv => by
    rw [cell_keep _ _ _ _ _ (Ne.symm h2), hv]
  have hne : (Value.slice la L.l.length lc).ownBlock ≠ some gl := fun e => by
    cases la with
    | none => cases e
    | some a => injection e with e; exact h.ne a rfl e
  exact ⟨k 0 _ (by decide) h.c0, k 1 _ (by decide) h.c1, k 2 _ (by decide) h.c2, k 3 _ (by decide) h.c3, k 4 _ (by decide) h.c4, k 5 _ (by decide) h.c5, k 6 _ (by decide) h.c6, World.cell?_setCell_same _ _ _ h.c7, k 8 _ (by decide) h.c8, fun o => by simp only [World.frozen?_setCell]; exact h.fz o, by simpa using h.lt, own_set h.ls _ hne, h.ne⟩
/-- another list -/
theorem Rl.setList {gl gr lc : Nat} {la : Option Addr} {L : Lm.Lg} {W : World} (h : Rl gl gr la lc L W) (l : List (List UInt8)) (a : Option Addr) (c : Nat) (hl : W.ownsRow 0 9 1 (.slice a l.length c) l.length (sc l)) (hne : ∀ x, a = some x → x.block ≠ gl) : Rl gl gr a c { L with l := l } (W.setCell ⟨gl, 6, none⟩ (.slice a l.length c)) := by
  have k : ∀ j v, j ≠ 6 → W.cell? ⟨gl, j, none⟩ = some v → (W.setCell ⟨gl, 6, none⟩ (.slice a l.length c)).cell? ⟨gl, j, none⟩ = some v := fun j v h2 hv => by
    rw [cell_keep _ _ _ _ _ (Ne.symm h2), hv]
  have hn : (Value.slice a l.length c).ownBlock ≠ some gl := fun e => by
    cases a with
    | none => cases e
    | some a => injection e with e; exact hne a rfl e
  exact ⟨k 0 _ (by decide) h.c0, k 1 _ (by decide) h.c1, k 2 _ (by decide) h.c2, k 3 _ (by decide) h.c3, k 4 _ (by decide) h.c4, k 5 _ (by decide) h.c5, World.cell?_setCell_same _ _ _ h.c6, k 7 _ (by decide) h.c7, k 8 _ (by decide) h.c8, fun o => by simp only [World.frozen?_setCell]; exact h.fz o, by simpa using h.lt, own_set hl _ hn, hne⟩
/-- behind i frames -/
def Fq (gl gr kb kc : Nat) (wa la : Option Addr) (lc : Nat) (L : Lm.Lg) (v : Value) (P : List (List UInt8)) (D : Sm.Dv) (w wr : World) : Prop :=
  Only (fun k => Fp gr kb k) w wr ∧ (∃ wa' wc', Dr gr kb kc wa' wc' D wr ∧ ∀ x, wa' = some x → wa = some x ∨ (w.heap.size ≤ x.block ∧ x.block < wr.heap.size)) ∧ Rl gl gr la lc L wr ∧ wr.ownsRow w.heap.size 9 1 v P.length (sc P)
set_option maxHeartbeats 4000000 in
set_option maxRecDepth 100000 in
theorem ref7_append {gl gr kb kc wc lc : Nat} {wa la : Option Addr} {L : Lm.Lg} {d : Sm.Dv} {w : World} (b : List UInt8) (h : Rl gl gr la lc L w) (hd : Dr gr kb kc wa wc d w) (hne : gl ≠ gr ∧ gl ≠ kb) (hnl : ∀ x, la = some x → x.block ≠ gr ∧ x.block ≠ kb) (hnw : ∀ x, wa = some x → x.block ≠ gl) (hD : Dl d) (hok : Sm.Ok d) (hL : Lok L d) (hbig : b.length ≤ 70000) :
    Calls Try.prog 16 #[.pointer (some ⟨gl, 0, none⟩), .string (st b)] w fun e w' => RxR gl gr kb kc wa la (Lm.append L d b) w e w' := by
  have c8 := h.c8
  have hlt := h.lt
  have hss : (st b).size = b.length := st_size b
  obtain ⟨R, hR⟩ : ∃ R, R = Lm.append L d b := ⟨_, rfl⟩
  rw [← hR]
  have HSELF : Hid (∀ code w', R = (L, d, code) → Below w.heap.size w w' → RxR gl gr kb kc wa la R w (.returned (.int .i64 code)) w') := fun code w' e hb => by
    rw [e]; exact ⟨rfl, (only_of hb).mono (fun k hk e => absurd hk (by omega)), wa, wc, la, lc, hd.keep hb, fun x e => .inl e, h.below hb, fun x e => .inl e⟩
  obtain ⟨S, hS⟩ : ∃ S, S = st b := ⟨_, rfl⟩
  by_cases hdn : L.down = true
  case pos =>
    have hop := Lib.hid (HSELF.out 60 w (by rw [hR]; unfold Lm.append; rw [if_pos hdn]) (Below.refl _ _))
    rw [hdn] at c8
    rw [← hS] at hss ⊢
    clear h hd hne hnl hnw hD hok hL hR hS hdn
    go_enter Try.func16, Try.ntmps16
    go_wp2
    go_ret
    exact hop.out
  case neg =>
  replace hdn : L.down = false := by simpa using hdn
  rw [hdn] at c8
  obtain ⟨m, hm⟩ : ∃ m, m = b.length := ⟨_, rfl⟩
  by_cases h32 : (65536 : Int) < (m : Int)
  case pos =>
    have hop := Lib.hid (HSELF.out 2 w (by rw [hR]; unfold Lm.append; rw [hdn, if_neg (by decide), if_pos (by omega)]) (Below.refl _ _))
    rw [← hS] at hss ⊢
    rw [← hm] at hss hbig
    clear h hd hne hnl hnw hD hok hL hR hS hdn hm
    go_enter Try.func16, Try.ntmps16
    go_wp2
    go_ret
    exact hop.out
  case neg =>
  obtain ⟨T, hT⟩ : ∃ T, T = Lm.parts b := ⟨_, rfl⟩
  have hTl := Lm.parts_len b
  rw [← hT, ← hm] at hTl
  have HR := Lib.hid hR; have H := Lib.hid h; have HD := Lib.hid hd; have HNE := Lib.hid hne; have HNL := Lib.hid hnl; have HNW := Lib.hid hnw; have HDL := Lib.hid hD; have HOK := Lib.hid hok; have HL := Lib.hid hL; have HDN := Lib.hid hdn; have HS := Lib.hid hS; have HM := Lib.hid hm; have HT := Lib.hid hT; have HTL := Lib.hid hTl; have HLT := Lib.hid hlt
  rw [← hS] at hss ⊢
  rw [← hm] at hss hbig
  have c0 := h.c0; have c1 := h.c1; have c3 := h.c3; have c7 := h.c7; have c6 := h.c6
  obtain ⟨at_, hat⟩ : ∃ x : Int, x = (L.at_ : Int) := ⟨_, rfl⟩
  obtain ⟨ep, hep⟩ : ∃ x : Int, x = (L.h.epoch : Int) := ⟨_, rfl⟩
  obtain ⟨fr, hfr⟩ : ∃ x : Int, x = (L.frames : Int) := ⟨_, rfl⟩
  rw [← hat] at c7; rw [← hep] at c3; rw [← hfr] at c1
  have HAT := Lib.hid hat; have HEP := Lib.hid hep; have HFR := Lib.hid hfr
  have hatb : 0 ≤ at_ ∧ at_ ≤ 200 ∧ fr ≤ 200 ∧ at_ ≤ fr := by have := hL.at_; have := hL.f1; have := hD.k; omega
  obtain ⟨hat0, hat1, hfr1, haf⟩ := hatb
  obtain ⟨i0, hi0, hz0, hz1, hz2⟩ := info_of info1s
  have HI0 := Lib.hid hi0; have HZ0 := Lib.hid hz0; have HZ1 := Lib.hid hz1; have HZ2 := Lib.hid hz2
  have HST : Hid (Pq w T (.slice none 0 0) 0 b w) := ⟨[], rfl, by rw [hT]; rfl, World.ownsRow_nil _ _ _ _, Below.refl _ _⟩
  clear h hd hne hnl hnw hD hok hL hR hS hdn hm hT hTl hat hep hfr hi0 hz0 hz1 hz2 HSELF
  go_enter Try.func16, Try.ntmps16
  go_wp2
  go_loopw [5, 6] (fun pv bv wr => ∃ (rb : List UInt8) (pa : Option Addr) (pn pc rn : Nat) (Sb : ByteArray), pv = .slice pa pn pc ∧ bv = .string Sb ∧ Hid (Sb = st rb) ∧ Sb.size = rn ∧ Hid (rn = rb.length) ∧ (rn : Int) + 46 * (pn : Int) ≤ 65582 ∧ Hid (Pq w T (.slice pa pn pc) pn rb wr)) (fun _ bv _ => (match bv with | .string b => b.size | _ => 0))
  case atStart => exact ⟨b, none, 0, 0, m, S, rfl, rfl, HS.out, hss, HM.out, by omega, HST⟩
  case round =>
    obtain ⟨rb, pa, pn, pc, rn, Sb, rfl, rfl, HSB, hsb, HRN, hpn, HPQ⟩ := hrel
    clear HST
    obtain ⟨D, hD, hDT, hown, hbw⟩ := HPQ.out
    have hwr := hbw.size
    by_cases hlong : (46 : Int) < (rn : Int)
    case pos =>
      have hl46 : 46 < rb.length := by have := HRN.out; omega
      obtain ⟨A1, hA1⟩ : ∃ A1, A1 = st (rb.take 46) := ⟨_, rfl⟩
      obtain ⟨A2, hA2⟩ : ∃ A2, A2 = st (rb.drop 46) := ⟨_, rfl⟩
      have e1 : Sb.extract 0 46 = A1 := by rw [HSB.out, st_extract, hA1]; simp
      have e2 : Sb.extract 46 rn = A2 := by rw [HSB.out, st_extract, hA2, HRN.out, List.take_of_length_le (by rw [List.length_drop]; exact Nat.le_refl _)]
      have hsz2 : A2.size = rn - 46 := by rw [hA2, st_size, List.length_drop, HRN.out]
      have HSRC : Hid (Src Try.prog 1 56 (.slice (some ⟨wr.heap.size, 0, none⟩) 1 1) 1 (sc [rb.take 46]) (wr.alloc (.cells #[.string A1] 9))) := lit_srcS wr _ A1 hA1
      have HOWN : Hid ((wr.alloc (.cells #[.string A1] 9)).ownsRow w.heap.size 9 1 (.slice pa pn pc) pn (sc D)) := own_keep hown (one_b wr _)
      have HB1 : Hid (Below w.heap.size w (wr.alloc (.cells #[.string A1] 9))) := hbw.alloc hwr _
      have HA2 := Lib.hid hA2; have HDT := Lib.hid hDT; have HDL2 := Lib.hid hD; have HL46 := Lib.hid hl46; have HSZ2 := Lib.hid hsz2
      have hpn2 : (pn : Int) ≤ 1430 := by omega
      clear hA1 hA2 hD hDT hown hbw hl46 hsz2
      go_wp2_with (at_builtin; refine wpList_append_src _ rfl (.tmp 22) (.tmp 25) 56 56 rfl w.heap.size 9 i0 _ 1 16 Try.underlying56 HI0.out HZ0.out HZ1.out HZ2.out rfl (.slice pa pn pc) pn (sc D) rfl HOWN.out _ 1 (sc [rb.take 46]) rfl HSRC.out ?qa ?qb ?qc ?_)
      case qa => unfold maxLen; omega
      case qb => omega
      case qc => exact HB1.out.size
      intro v2 w2 hown2 hgrow2 hv2
      rw [← sc_app] at hown2
      obtain ⟨a2, c2, rfl⟩ := own_formS hown2
      have HPQ2 : Hid (Pq w T (.slice a2 (pn + 1) c2) (pn + 1) (rb.drop 46) w2) := by
        refine ⟨D ++ [rb.take 46], by rw [List.length_append, HDL2.out]; rfl, by rw [← HDT.out, Lm.parts_long HL46.out]; simp, hown2, HB1.out.grown hgrow2 HB1.out.size (fun k e => (HOWN.out.lt k e).1)⟩
      clear hown2 hgrow2 hv2
      go_wp2
      go_roundw
      case rel => exact ⟨rb.drop 46, a2, pn + 1, c2, rn - 46, A2, rfl, rfl, HA2.out, HSZ2.out, by show _ = _; rw [List.length_drop, HRN.out], by omega, HPQ2⟩
      case measure =>
        have := HSZ2.out
        show A2.size < Sb.size
        omega
    case neg =>
      have hl46 : rb.length ≤ 46 := by have := HRN.out; omega
      have HSRC : Hid (Src Try.prog 1 56 (.slice (some ⟨wr.heap.size, 0, none⟩) 1 1) 1 (sc [rb]) (wr.alloc (.cells #[.string Sb] 9))) := lit_srcS wr _ Sb HSB.out
      have HOWN : Hid ((wr.alloc (.cells #[.string Sb] 9)).ownsRow w.heap.size 9 1 (.slice pa pn pc) pn (sc D)) := own_keep hown (one_b wr _)
      have HB1 : Hid (Below w.heap.size w (wr.alloc (.cells #[.string Sb] 9))) := hbw.alloc hwr _
      have hDT2 : D ++ [rb] = T := by rw [← hDT, Lm.parts_short hl46]
      have htn : T.length = pn + 1 := by rw [← hDT2, List.length_append, hD]; rfl
      have HDT := Lib.hid hDT2
      obtain ⟨tn, htn'⟩ : ∃ tn, tn = pn + 1 := ⟨_, rfl⟩
      rw [← htn'] at htn
      have HTN := Lib.hid htn
      have HTN' := Lib.hid htn'
      have hpn2 : (pn : Int) ≤ 1430 := by omega
      have htn2 : (tn : Int) ≤ 1431 := by omega
      have htn1 : 1 ≤ tn := by omega
      clear hD hDT hDT2 hown hbw hl46 htn
      go_wp2_with (at_builtin; refine wpList_append_src _ rfl (.tmp 29) (.tmp 31) 56 56 rfl w.heap.size 9 i0 _ 1 16 Try.underlying56 HI0.out HZ0.out HZ1.out HZ2.out rfl (.slice pa pn pc) pn (sc D) rfl HOWN.out _ 1 (sc [rb]) rfl HSRC.out ?ra ?rb ?rc ?_)
      case ra => unfold maxLen; omega
      case rb => omega
      case rc => have := HB1.out.size; simpa using this
      intro v2 w2 hown2 hgrow2 hv2
      rw [← sc_app, HDT.out, ← htn'] at hown2
      obtain ⟨a2, c2, rfl⟩ := own_formS hown2
      obtain ⟨g2, rfl⟩ : ∃ g2, a2 = some ⟨g2, 0, none⟩ := by
        obtain ⟨_, h2⟩ := hown2
        rcases h2 with ⟨_, h0⟩ | ⟨g2, cap, cur, e, _⟩
        · omega
        · injection e with e; exact ⟨g2, e⟩
      have HB2 : Hid (Below w.heap.size w w2) := HB1.out.grown hgrow2 HB1.out.size (fun k e => (HOWN.out.lt k e).1)
      have HOW := Lib.hid hown2
      have HG2 : Hid (w.heap.size ≤ g2 ∧ g2 < w2.heap.size) := hown2.lt g2 rfl
      clear hown2 hgrow2 hv2 HPQ HSRC HOWN HB1 htn'
      have e0 : w2.cell? ⟨gl, 0, none⟩ = some (.pointer (some ⟨gr, 0, none⟩)) := (HB2.out.cell (p := ⟨gl, 0, none⟩) hlt).trans c0
      have e1 : w2.cell? ⟨gl, 1, none⟩ = some (.int .i64 fr) := (HB2.out.cell (p := ⟨gl, 1, none⟩) hlt).trans c1
      have e3 : w2.cell? ⟨gl, 3, none⟩ = some (.int .i64 ep) := (HB2.out.cell (p := ⟨gl, 3, none⟩) hlt).trans c3
      have e7 : w2.cell? ⟨gl, 7, none⟩ = some (.int .i64 at_) := (HB2.out.cell (p := ⟨gl, 7, none⟩) hlt).trans c7
      obtain ⟨rm, hrm⟩ : ∃ rm : Int, rm = fr - at_ := ⟨_, rfl⟩
      have hwrm : IntKind.i64.wrap (fr - at_) = rm := by rw [IntKind.wrap_i64]; omega
      have HRM := Lib.hid hrm
      have hlt2 : gl < w2.heap.size := by have := HB2.out.size; omega
      clear hrm c0 c1 c3 c7 hpn
      go_upto_region 11 with (fail)
      go_region
      by_cases hfull : rm < (tn : Int)
      case pos =>
        have hop : Hid (R = (L, d, 70)) := by
          show _ = _
          rw [HR.out]; unfold Lm.append
          have h1 := HM.out; have h2 := HTN.out; have h3 := HRM.out; have h4 := HFR.out; have h5 := HAT.out
          rw [HT.out] at h2
          rw [HDN.out, if_neg (by decide), if_neg (by omega), if_pos (by omega)]
        go_wp2
        go_ret
        have hb : Below w.heap.size w w2.drew := HB2.out.trans ((below_drew7 w2).mono HB2.out.size)
        rw [hop.out]
        exact ⟨rfl, (only_of hb).mono (fun k hk e => absurd hk (by omega)), wa, wc, la, lc, HD.out.keep hb, fun x e => .inl e, H.out.below hb, fun x e => .inl e⟩
      case neg =>
      have hsum : L.at_ + tn ≤ L.frames := by have h3 := HRM.out; have h4 := HFR.out; have h5 := HAT.out; omega
      have hkl : L.at_ + tn ≤ 198 := by have := HL.out.f1; have := HDL.out.k; omega
      obtain ⟨wq, hwq⟩ : ∃ wq : List (List UInt8 × Bool) → Sm.Dv × Int, wq = fun l => Lm.wr L.h.epoch l L.at_ d := ⟨_, rfl⟩
      obtain ⟨TT, hTT⟩ : ∃ TT, TT = Lm.tg T := ⟨_, rfl⟩
      have hTTl : TT.length = tn := by rw [hTT, Lm.tg_len, HTN.out]
      have hgrow : ∀ l : List (List UInt8 × Bool), Grow l.length d (wq l).1 := by
        intro l
        rw [hwq]
        exact wr_grow2 _ _ _ _ HOK.out HDL.out.l0 HDL.out.l1
      have hsn : ∀ l x, (wq l).2 = 0 → wq (l ++ [x]) = Sm.write (wq l).1 ((2 + (L.at_ + l.length) : Nat) : Int) (Lm.fsec L.h.epoch (L.at_ + l.length) x.2 x.1) := by
        rw [hwq]; exact fun l x h => Lm.wr_snoc _ _ _ _ _ h
      have hq0 : wq [] = (d, 0) := by rw [hwq]; rfl
      have hqT : wq TT = Lm.put L.h.epoch (Lm.parts b) L.at_ d := by rw [hwq, hTT, HT.out]; exact Lm.wr_put _ _ _ _
      have hqS : ∀ l, (wq l).2 ≠ 0 → l <+: TT → wq TT = wq l := by
        rw [hwq]
        rintro l h ⟨m, rfl⟩
        exact Lm.wr_stop _ _ _ _ _ h
      have htk : ∀ i, i < tn → TT.take (i + 1) = TT.take i ++ [(T.getD i [], decide (i + 1 = tn))] := fun i hi => by
        rw [hTT, Lm.tg_take T i (by rw [HTN.out]; exact hi), HTN.out]
      have hp46 : ∀ i, i < tn → (T.getD i []).length ≤ 46 := fun i hi => by
        have hi' : i < T.length := by rw [HTN.out]; exact hi
        rw [List.getD, List.getElem?_eq_getElem hi']
        exact Lm.parts_46 (b := b) (by rw [← HT.out]; exact List.getElem_mem hi')
      have HERR : Hid (∀ l, (wq l).2 ≠ 0 → l <+: TT → R = ({ L with down := true }, (wq l).1, (wq l).2)) := fun l hne hpre => by
        have hput := hqS l hne hpre
        rw [hqT] at hput
        rw [HR.out]; unfold Lm.append
        have h1 := HM.out; have h2 := HTN.out
        rw [HT.out] at h2
        have hpf : Lm.putF L.h.epoch (Lm.parts b) L.at_ d = wq l := by unfold Lm.putF; rw [hput, if_pos hne]
        rw [HDN.out, if_neg (by decide), if_neg (by omega), if_neg (by omega), hpf, if_pos hne]
      have HFIN : Hid ((wq TT).2 = 0 → R = if (Sm.flush (wq TT).1).2 ≠ 0 then ({ L with down := true }, (Sm.flush (wq TT).1).1, (Sm.flush (wq TT).1).2) else ({ L with at_ := L.at_ + tn, l := L.l ++ [b] }, (Sm.flush (wq TT).1).1, 0)) := fun h0 => by
        rw [HR.out]; unfold Lm.append
        have h1 := HM.out; have h2 := HTN.out
        rw [HT.out] at h2
        have hpf : Lm.putF L.h.epoch (Lm.parts b) L.at_ d = Sm.flush (wq TT).1 := by unfold Lm.putF; rw [← hqT, if_neg (by rw [h0]; exact fun h => h rfl)]
        rw [HDN.out, if_neg (by decide), if_neg (by omega), if_neg (by omega), hpf, h2]
      have HGR := Lib.hid hgrow; have HSN := Lib.hid hsn; have HTK := Lib.hid htk; have HP46 := Lib.hid hp46; have HTTL := Lib.hid hTTl; have HQ0 := Lib.hid hq0
      have HF0 : Hid (Fq gl gr kb kc wa la lc L (.slice (some ⟨g2, 0, none⟩) tn c2) T (wq []).1 w w2.drew) := by
        have hb : Below w.heap.size w w2.drew := HB2.out.trans ((below_drew7 w2).mono HB2.out.size)
        refine ⟨(only_of hb).mono (fun k hk e => absurd hk (by omega)), ⟨wa, wc, ?_, fun x e => .inl e⟩, H.out.below hb, ?_⟩
        · rw [hq0]; exact HD.out.keep hb
        · rw [HTN.out]; exact HOW.out
      have HZ00 : Hid ((wq []).2 = 0) := by show _ = _; rw [hq0]
      have HG2W : Hid (w.heap.size ≤ g2) := HG2.out.1
      clear hsum hwq hTT hTTl hgrow hsn hq0 hqT hqS htk hp46 hwrm hlong hpn2 hlt2 e0 e1 e3 e7 c6 h32 hbig hwr hsb hss HG2 HOW
      go_wp2
      go_loopw [7, 8, 9, 47] (fun _ _ _ iv wr => ∃ i, i ≤ tn ∧ iv = .int .i64 (i : Int) ∧ Hid (Fq gl gr kb kc wa la lc L (.slice (some ⟨g2, 0, none⟩) tn c2) T (wq (TT.take i)).1 w wr) ∧ Hid ((wq (TT.take i)).2 = 0)) (fun _ _ _ iv _ => tn - (ixOf iv).toNat)
      case atStart => exact ⟨0, Nat.zero_le _, rfl, by rw [List.take_zero]; exact HF0, by rw [List.take_zero]; exact HZ00⟩
      case round =>
        obtain ⟨i, hi, rfl, HFQ, HZQ⟩ := hrel
        clear HF0 HZ00
        obtain ⟨hon, ⟨wa1, wc1, hdr, hwa1⟩, hrl, hown⟩ := HFQ.out
        by_cases hlt3 : i < tn
        case neg =>
          have hie : i = tn := by omega
          have hnl3 : ¬ (i : Int) < (tn : Int) := by omega
          have hall : TT.take i = TT := List.take_of_length_le (by rw [HTTL.out]; omega)
          have hz := HZQ.out
          rw [hall] at hz hdr
          obtain ⟨D1, hD1⟩ : ∃ D1, D1 = (wq TT).1 := ⟨_, rfl⟩
          have hgr1 := HGR.out TT
          rw [HTTL.out, ← hD1] at hgr1
          rw [← hD1] at hdr
          have hfin := HFIN.out hz
          rw [← hD1] at hfin
          obtain ⟨D2, hD2⟩ : ∃ D2, D2 = (Sm.flush D1).1 := ⟨_, rfl⟩
          obtain ⟨C2, hC2⟩ : ∃ C2, C2 = (Sm.flush D1).2 := ⟨_, rfl⟩
          rw [← hD2, ← hC2] at hfin
          have HFN := Lib.hid hfin
          have HFL : Hid (∀ w, Dr gr kb kc wa1 wc1 D1 w → Calls Try.prog 41 #[.pointer (some ⟨gr, 0, none⟩)] w fun e w' => e = .returned (.int .i64 C2) ∧ Only (Fp gr kb) w w' ∧ ∃ wa' wc', Dr gr kb kc wa' wc' D2 w' ∧ (wa' = wa1 ∨ wa' = none)) := fun w hdw => by
            have := ref6_flush gr kb kc wc1 wa1 D1 w hdw hgr1.ok (by have := hgr1.w; have := HDL.out.w; omega) ⟨by have := hgr1.c0; have := HDL.out.c0; omega, by have := hgr1.c1; have := HDL.out.c1; omega⟩ ⟨hgr1.l0, hgr1.l1⟩
            rw [hD2, hC2]; exact this
          have c0 := hrl.c0
          have hgl1 := hrl.lt
          have HON := Lib.hid hon; have HDR := Lib.hid hdr; have HWA1 := Lib.hid hwa1; have HRL := Lib.hid hrl; have HOWN := Lib.hid hown
          clear hall hz hD1 hgr1 hfin hD2 hC2 hon hdr hwa1 hrl hown hie HFQ HZQ
          go_wp2_with fail
          refine (HFL.out _ HDR.out).mono ?_
          rintro e w4 ⟨rfl, ho4, wa4, wc4, hd4, hwa4⟩
          have hnf : ¬ Fp gr kb gl := fun h => by
            rcases h with h | h
            · exact HNE.out.1 h
            · exact HNE.out.2 h
          have HR4 : Hid (Rl gl gr la lc L w4) := HRL.out.keepO ho4 hnf (fun x e hf => by
            rcases hf with h | h
            · exact (HNL.out x e).1 h
            · exact (HNL.out x e).2 h)
          have HO4 : Hid (Only (fun k => Fp gr kb k) w w4) := HON.out.trans ho4
          have HWX4 : Hid (∀ x, wa4 = some x → wa = some x ∨ (w.heap.size ≤ x.block ∧ x.block < w4.heap.size)) := fun x e => by
            rcases hwa4 with rfl | rfl
            · rcases HWA1.out x e with h | h
              · exact .inl h
              · have := ho4.size; exact .inr (by omega)
            · cases e
          have HD4 := Lib.hid hd4
          have c8 := HR4.out.c8; have fz := HR4.out.fz; have hlt4 := HR4.out.lt
          rw [HDN.out] at c8
          clear ho4 hd4 hwa4 c0 hgl1
          by_cases hz2 : C2 = 0
          case neg =>
            have z2 : (C2 != 0) = true := by simp [hz2]
            have hfn := HFN.out
            rw [if_pos hz2] at hfn
            have HF2 := Lib.hid hfn
            clear hfn HFN HFIN HERR
            go_wp2
            go_ret
            rw [HF2.out]
            have hoc := only_cell w4 gl 8 (.bool true)
            have hset := HR4.out.setDown true
            refine ⟨rfl, (HO4.out.mono (q := fun k => k = gl ∨ Fp gr kb k) (fun k _ e => .inr e)).trans (hoc.mono (fun k _ e => .inl e)), wa4, wc4, la, lc, HD4.out.keepO hoc (fun e => HNE.out.1 e.symm) (fun e => HNE.out.2 e.symm) (fun x e e2 => ?_), fun x e => ?_, hset, fun x e => .inl e⟩
            · rcases HWX4.out x e with h | h
              · exact HNW.out x h e2
              · have := HLT.out; omega
            · have := HWX4.out x e; simpa using this
          case pos =>
            subst hz2
            have hfn := HFN.out
            rw [if_neg (fun h => h rfl)] at hfn
            have HF2 := Lib.hid hfn
            have c7 := HR4.out.c7
            rw [← HAT.out] at c7
            obtain ⟨a7, ha7⟩ : ∃ a7 : Int, a7 = at_ + (tn : Int) := ⟨_, rfl⟩
            have x1 : IntKind.i64.wrap (at_ + (tn : Int)) = a7 := by rw [IntKind.wrap_i64]; omega
            obtain ⟨N, hN⟩ : ∃ N, N = L.l.length := ⟨_, rfl⟩
            have hNb : N ≤ 200 := by have := HL.out.l; have := HL.out.at_; have := HL.out.f1; have := HDL.out.k; omega
            have c6 := HR4.out.c6
            rw [← hN] at c6
            have HA7 := Lib.hid ha7; have HN := Lib.hid hN
            clear hfn HFN HFIN HERR ha7 hN c8
            go_upto_region 26 with (fail)
            obtain ⟨w5, hw5⟩ : ∃ w5, w5 = w4.setCell ⟨gl, 7, none⟩ (.int .i64 a7) := ⟨_, rfl⟩
            have d6 : w5.cell? ⟨gl, 6, none⟩ = some (.slice la N lc) := by rw [hw5, cell_keep _ _ _ _ _ (by decide)]; exact c6
            have hl5 : Rl gl gr la lc { L with at_ := L.at_ + tn } w5 := by
              have := HR4.out.setAt (L.at_ + tn)
              rw [show ((L.at_ + tn : Nat) : Int) = a7 by rw [HA7.out, HAT.out]; omega] at this
              rw [hw5]; exact this
            have hoc5 : Only (fun k => k = gl) w4 w5 := by rw [hw5]; exact only_cell _ _ _ _
            have HL5 := Lib.hid hl5; have HOC5 := Lib.hid hoc5
            have hlt5 := hl5.lt
            rw [← hw5]
            clear hw5 hl5 hoc5 c6 c7
            -- nothing, then the batches
            have HE0 : Hid ((w5.alloc (.cells #[] 9)).ownsRow w5.heap.size 9 1 (.slice (some ⟨w5.heap.size, 0, none⟩) 0 0) 0 (sc [])) := ⟨rfl, .inr ⟨w5.heap.size, 0, #[], rfl, Nat.le_refl _, heap_alloc_new w5 _, Nat.le_refl _, by unfold maxLen; decide, rfl, rfl⟩⟩
            have HSR : Hid (Src Try.prog 1 56 (.slice la N lc) N (sc L.l) (w5.alloc (.cells #[] 9))) := by
              rw [HN.out]; exact own_srcS (own_keep HL5.out.ls (one_b w5 _))
            have d6' : (w5.alloc (.cells #[] 9)).cell? ⟨gl, 6, none⟩ = some (.slice la N lc) := ((one_b w5 (.cells #[] 9)).cell (p := ⟨gl, 6, none⟩) hlt5).trans d6
            go_wp2_with (at_builtin; refine wpList_append_src _ rfl (.tmp 110) (.tmp 114) 56 56 rfl w5.heap.size 9 i0 _ 1 16 Try.underlying56 HI0.out HZ0.out HZ1.out HZ2.out rfl (.slice (some ⟨w5.heap.size, 0, none⟩) 0 0) 0 (sc []) rfl HE0.out _ N (sc L.l) rfl HSR.out ?sa ?sb ?sc ?_)
            case sa => unfold maxLen; omega
            case sb => omega
            case sc => simp
            intro v6 w6 hown6 hgrow6 hv6
            rw [← sc_app, List.nil_append] at hown6
            obtain ⟨a6, c6, rfl⟩ := own_formS hown6
            have HB6 : Hid (Below w5.heap.size w5 w6) := (one_b w5 _).grown hgrow6 (by simp) (fun k e => by injection e with e; subst e; exact Nat.le_refl _)
            have HOWN6 := Lib.hid hown6
            clear hown6 hgrow6 hv6 HE0 HSR d6' d6
            have HSR2 : Hid (Src Try.prog 1 56 (.slice (some ⟨w6.heap.size, 0, none⟩) 1 1) 1 (sc [b]) (w6.alloc (.cells #[.string S] 9))) := lit_srcS w6 _ S HS.out
            have HOW6 : Hid ((w6.alloc (.cells #[.string S] 9)).ownsRow w5.heap.size 9 1 (.slice a6 N c6) N (sc L.l)) := own_keep HOWN6.out (one_b w6 _)
            have hsz6 := HB6.out.size
            go_wp2_with (at_builtin; refine wpList_append_src _ rfl (.tmp 115) (.tmp 117) 56 56 rfl w5.heap.size 9 i0 _ 1 16 Try.underlying56 HI0.out HZ0.out HZ1.out HZ2.out rfl (.slice a6 N c6) N (sc L.l) rfl HOW6.out _ 1 (sc [b]) rfl HSR2.out ?ta ?tb ?tc ?_)
            case ta => unfold maxLen; omega
            case tb => omega
            case tc => simp; omega
            intro v7 w7 hown7 hgrow7 hv7
            rw [← sc_app] at hown7
            obtain ⟨a7', c7', rfl⟩ := own_formS hown7
            have HB7 : Hid (Below w5.heap.size w5 w7) := (HB6.out.trans ((one_b w6 (.cells #[.string S] 9)).mono hsz6)).grown hgrow7 (by simp; omega) (fun k e => (HOW6.out.lt k e).1)
            have HL7 := Lib.hid (HL5.out.below HB7.out)
            have HOWN7 := Lib.hid hown7
            have c67 := HL7.out.c6; have fz7 := HL7.out.fz; have hlt7 := HL7.out.lt
            obtain ⟨N2, hN2⟩ : ∃ N2, N2 = ({ L with at_ := L.at_ + tn } : Lm.Lg).l.length := ⟨_, rfl⟩
            rw [← hN2] at c67
            clear hown7 hgrow7 hv7 hN2 HOW6 HSR2
            go_wp2
            go_ret
            rw [HF2.out]
            have hset := HL7.out.setList (L.l ++ [b]) a7' c7' (by rw [List.length_append, ← HN.out]; exact own_zero HOWN7.out) (fun x e => by have := HOWN7.out.lt x.block (by rw [e]; rfl); omega)
            rw [List.length_append, ← HN.out] at hset
            have hoc := only_cell w7 gl 6 (.slice a7' (N + 1) c7')
            have hO7 : Only (fun k => k = gl ∨ Fp gr kb k) w w7 := (((HO4.out.mono (q := fun k => k = gl ∨ Fp gr kb k) (fun k _ e => .inr e)).trans (HOC5.out.mono (fun k _ e => .inl e))).trans' (only_of HB7.out) (fun k hk => .inr (by have := HO4.out.size; have := HOC5.out.size; omega)))
            have hD5 : Dr gr kb kc wa4 wc4 D2 w5 := HD4.out.keepO HOC5.out (fun e => HNE.out.1 e.symm) (fun e => HNE.out.2 e.symm) (fun x e e2 => by
              rcases HWX4.out x e with h | h
              · exact HNW.out x h e2
              · have := HLT.out; omega)
            have hs4 := HOC5.out.size; have hs7 := HB7.out.size
            refine ⟨rfl, hO7.trans (hoc.mono (fun k _ e => .inl e)), wa4, wc4, a7', c7', (hD5.keep HB7.out).keepO hoc (fun e => HNE.out.1 e.symm) (fun e => HNE.out.2 e.symm) (fun x e e2 => ?_), fun x e => ?_, hset, fun x e => ?_⟩
            · rcases HWX4.out x e with h | h
              · exact HNW.out x h e2
              · have := HLT.out; omega
            · rcases HWX4.out x e with h | h
              · exact .inl h
              · exact .inr ⟨h.1, by simp; omega⟩
            · have h1 := HOWN7.out.lt x.block (by rw [e]; rfl)
              have := HO4.out.size
              exact .inr ⟨by omega, by simp; omega⟩
        case pos =>
          have hil : (i : Int) < (tn : Int) := by omega
          obtain ⟨pb, hpb⟩ : ∃ pb, pb = T.getD i [] := ⟨_, rfl⟩
          obtain ⟨SP, hSP⟩ : ∃ SP, SP = st pb := ⟨_, rfl⟩
          have hcell : wr.cell? ⟨g2, i, none⟩ = some (.string SP) := by
            rw [hSP, hpb]; exact own_cellS hown i (by rw [HTN.out]; exact hlt3)
          have hg2l : g2 < wr.heap.size := (hown.lt g2 rfl).2
          have c0 := hrl.c0; have c3 := hrl.c3; have c7 := hrl.c7
          have hgl1 := hrl.lt
          rw [← HEP.out] at c3; rw [← HAT.out] at c7
          obtain ⟨lst, hlst⟩ : ∃ lst, lst = decide (i + 1 = tn) := ⟨_, rfl⟩
          obtain ⟨K, hK⟩ : ∃ K, K = L.at_ + i := ⟨_, rfl⟩
          obtain ⟨KI, hKI⟩ : ∃ KI : Int, KI = (K : Int) := ⟨_, rfl⟩
          obtain ⟨MI, hMI⟩ : ∃ MI : Int, MI = ((2 + K : Nat) : Int) := ⟨_, rfl⟩
          obtain ⟨A2, hA2⟩ : ∃ A2 : Int, A2 = 2 + at_ := ⟨_, rfl⟩
          obtain ⟨t1, ht1⟩ : ∃ t1 : Int, t1 = (tn : Int) - 1 := ⟨_, rfl⟩
          have x1 : IntKind.i64.wrap (2 + at_) = A2 := by rw [IntKind.wrap_i64]; omega
          have x2 : IntKind.i64.wrap (A2 + (i : Int)) = MI := by rw [IntKind.wrap_i64]; have := HAT.out; omega
          have x3 : IntKind.i64.wrap (at_ + (i : Int)) = KI := by rw [IntKind.wrap_i64]; have := HAT.out; omega
          have x4 : IntKind.i64.wrap ((tn : Int) - 1) = t1 := by rw [IntKind.wrap_i64]; omega
          have x5 : ((i : Int) == t1) = lst := by rw [hlst, ht1]; apply Bool.eq_iff_iff.mpr; simp; omega
          obtain ⟨D1, hD1⟩ : ∃ D1, D1 = (wq (TT.take i)).1 := ⟨_, rfl⟩
          rw [← hD1] at hdr
          obtain ⟨SS, hSS⟩ : ∃ SS, SS = Lm.fsec L.h.epoch K lst pb := ⟨_, rfl⟩
          have hsl : SS.length = 64 := by rw [hSS]; exact Lm.fsec_length (by rw [hpb]; exact HP46.out i hlt3)
          obtain ⟨SX, hSX⟩ : ∃ SX, SX = st SS := ⟨_, rfl⟩
          have HFR1 : Hid (∀ w, Calls Try.prog 40 #[.int .i64 ep, .int .i64 KI, .bool lst, .string SP] w fun e w' => e = .returned (.string SX) ∧ Below w.heap.size w w') := fun w => by
            have := ref7_frame L.h.epoch K lst pb w (by have := HL.out.ep; omega) (by have := hkl; omega) (by rw [hpb]; exact HP46.out i hlt3)
            rw [HEP.out, hKI, hSP, hSX, hSS]; exact this
          have hgr1 := HGR.out (TT.take i)
          rw [← hD1] at hgr1
          have htl : (TT.take i).length = i := by rw [List.length_take, HTTL.out]; omega
          rw [htl] at hgr1
          obtain ⟨D2, hD2⟩ : ∃ D2, D2 = (Sm.write D1 MI SS).1 := ⟨_, rfl⟩
          obtain ⟨C2, hC2⟩ : ∃ C2, C2 = (Sm.write D1 MI SS).2 := ⟨_, rfl⟩
          have HWR : Hid (∀ w, Dr gr kb kc wa1 wc1 D1 w → Calls Try.prog 21 #[.pointer (some ⟨gr, 0, none⟩), .int .i64 MI, .string SX] w fun e w' => e = .returned (.int .i64 C2) ∧ Only (fun k => k = gr) w w' ∧ ∃ wa' wc', Dr gr kb kc wa' wc' D2 w' ∧ ∀ x, wa' = some x → wa1 = some x ∨ (w.heap.size ≤ x.block ∧ x.block < w'.heap.size)) := fun w hdw => by
            have := ref6_write gr kb kc wc1 wa1 D1 MI SS w hdw (by have := hgr1.w; have := HDL.out.w; omega) (by omega) ⟨by have := hgr1.c0; have := HDL.out.c0; omega, by have := hgr1.c1; have := HDL.out.c1; omega⟩ ⟨hgr1.l0, hgr1.l1⟩
            rw [hD2, hC2, hSX]; exact this
          have HW2 : Hid (wq (TT.take (i + 1)) = (D2, C2)) := by
            show _ = _
            rw [HTK.out i hlt3, HSN.out _ _ HZQ.out, htl, ← hK, ← hD1, ← hlst, ← hpb, ← hMI, ← hSS, hD2, hC2]
          have HON := Lib.hid hon; have HDR := Lib.hid hdr; have HWA1 := Lib.hid hwa1; have HRL := Lib.hid hrl; have HOWN := Lib.hid hown
          have SA : Hid (∀ w', (∀ o, w'.cell? ⟨gl, o, none⟩ = wr.cell? ⟨gl, o, none⟩) → Sa gl gr at_ ep w') := fun w' h => ⟨(h 0).trans c0, (h 7).trans c7, (h 3).trans c3⟩
          clear hpb hSP hlst hK hKI hMI hA2 ht1 hD1 hSS hsl hSX hgr1 htl hD2 hC2 hon hdr hwa1 hrl hown c0 c3 c7 hlt3
          go_upto_region 16 with (fail)
          clear hcell
          refine wp_region_noPanic ?_
          have S0 := Lib.hid (SA.out wr.drew (fun _ => rfl))
          refine wp_region_held_drew (S := Sa gl gr at_ ep) (by kernel_rfl) S0.out (fun _ => ?_)
          refine wpAnyH_take (i := 0) (v := ?va1) rfl (by kernel_rfl) (by kernel_rfl) (by kernel_rfl) (fun _ _ _ h => h) (Or.inl ⟨by rfl, ?hya1⟩) S0.out ?resta1
          case hya1 => (intro w' hSw; obtain ⟨_, _, _⟩ := hSw; go_simp; with_reducible rfl)
          try simp only [Act.put, List.getElem_toArray, List.getElem_cons_zero, List.setIfInBounds_toArray, List.set_cons_zero, List.set_cons_succ]
          refine wpAnyH_take (i := 1) (v := ?va2) rfl (by kernel_rfl) (by kernel_rfl) (by kernel_rfl) (fun _ _ _ h => h) (Or.inl ⟨by rfl, ?hya2⟩) S0.out ?resta2
          case hya2 => (intro w' hSw; obtain ⟨_, _, _⟩ := hSw; go_simp; with_reducible rfl)
          try simp only [Act.put, List.getElem_toArray, List.getElem_cons_succ, List.getElem_cons_zero, List.setIfInBounds_toArray, List.set_cons_zero, List.set_cons_succ]
          refine wpAnyH_take (i := 2) (v := ?va3) rfl (by kernel_rfl) (by kernel_rfl) (by kernel_rfl) (fun _ _ _ h => h) (Or.inl ⟨by rfl, ?hya3⟩) S0.out ?resta3
          case hya3 => (intro w' hSw; obtain ⟨_, _, _⟩ := hSw; go_simp; with_reducible rfl)
          try simp only [Act.put, List.getElem_toArray, List.getElem_cons_succ, List.getElem_cons_zero, List.setIfInBounds_toArray, List.set_cons_zero, List.set_cons_succ]
          refine wpAnyH_take (i := 3) (v := ?va4) rfl (by kernel_rfl) (by kernel_rfl) (by kernel_rfl) (fun _ _ _ h => h) (Or.inl ⟨by rfl, ?hya4⟩) S0.out ?resta4
          case hya4 => (intro w' hSw; obtain ⟨_, _, _⟩ := hSw; go_simp; with_reducible rfl)
          try simp only [Act.put, List.getElem_toArray, List.getElem_cons_succ, List.getElem_cons_zero, List.setIfInBounds_toArray, List.set_cons_zero, List.set_cons_succ]
          refine wpAnyH_take (i := 4) (v := ?va5) rfl (by kernel_rfl) (by kernel_rfl) (by kernel_rfl) (fun _ _ _ h => h) (Or.inl ⟨by rfl, ?hya5⟩) S0.out ?resta5
          case hya5 => (intro w' hSw; obtain ⟨_, _, _⟩ := hSw; go_simp; with_reducible rfl)
          try simp only [Act.put, List.getElem_toArray, List.getElem_cons_succ, List.getElem_cons_zero, List.setIfInBounds_toArray, List.set_cons_zero, List.set_cons_succ]
          refine wpAnyH_take (i := 5) (v := ?va6) rfl (by kernel_rfl) (by kernel_rfl) (by kernel_rfl) (fun _ _ _ h => h) (Or.inl ⟨by rfl, ?hya6⟩) S0.out ?resta6
          case hya6 => (intro w' hSw; obtain ⟨_, _, _⟩ := hSw; go_simp; with_reducible rfl)
          try simp only [Act.put, List.getElem_toArray, List.getElem_cons_succ, List.getElem_cons_zero, List.setIfInBounds_toArray, List.set_cons_zero, List.set_cons_succ]
          refine wpAnyH_take (i := 6) (v := ?va7) rfl (by kernel_rfl) (by kernel_rfl) (by kernel_rfl) (fun _ _ _ h => h) (Or.inl ⟨by rfl, ?hya7⟩) S0.out ?resta7
          case hya7 => (intro w' hSw; obtain ⟨_, _, _⟩ := hSw; go_simp; with_reducible rfl)
          try simp only [Act.put, List.getElem_toArray, List.getElem_cons_succ, List.getElem_cons_zero, List.setIfInBounds_toArray, List.set_cons_zero, List.set_cons_succ]
          refine wpAnyH_take (i := 7) (v := ?va8) rfl (by kernel_rfl) (by kernel_rfl) (by kernel_rfl) (fun _ _ _ h => h) (Or.inl ⟨by rfl, ?hya8⟩) S0.out ?resta8
          case hya8 => (intro w' hSw; obtain ⟨_, _, _⟩ := hSw; go_simp; with_reducible rfl)
          try simp only [Act.put, List.getElem_toArray, List.getElem_cons_succ, List.getElem_cons_zero, List.setIfInBounds_toArray, List.set_cons_zero, List.set_cons_succ]
          refine wpAnyH_take (i := 8) (v := ?va9) rfl (by kernel_rfl) (by kernel_rfl) (by kernel_rfl) (fun _ _ _ h => h) (Or.inl ⟨by rfl, ?hya9⟩) S0.out ?resta9
          case hya9 => (intro w' hSw; obtain ⟨_, _, _⟩ := hSw; go_simp; with_reducible rfl)
          try simp only [Act.put, List.getElem_toArray, List.getElem_cons_succ, List.getElem_cons_zero, List.setIfInBounds_toArray, List.set_cons_zero, List.set_cons_succ]
          refine wpAnyH_take (i := 9) (v := ?va10) rfl (by kernel_rfl) (by kernel_rfl) (by kernel_rfl) (fun _ _ _ h => h) (Or.inl ⟨by rfl, ?hya10⟩) S0.out ?resta10
          case hya10 => (intro w' hSw; obtain ⟨_, _, _⟩ := hSw; go_simp; with_reducible rfl)
          try simp only [Act.put, List.getElem_toArray, List.getElem_cons_succ, List.getElem_cons_zero, List.setIfInBounds_toArray, List.set_cons_zero, List.set_cons_succ]
          refine wpAnyH_take (i := 10) (v := ?va11) rfl (by kernel_rfl) (by kernel_rfl) (by kernel_rfl) (fun _ _ _ h => h) (Or.inl ⟨by rfl, ?hya11⟩) S0.out ?resta11
          case hya11 => (intro w' hSw; obtain ⟨_, _, _⟩ := hSw; go_simp; with_reducible rfl)
          try simp only [Act.put, List.getElem_toArray, List.getElem_cons_succ, List.getElem_cons_zero, List.setIfInBounds_toArray, List.set_cons_zero, List.set_cons_succ]
          refine wpAnyH_take (i := 11) (v := ?va12) rfl (by kernel_rfl) (by kernel_rfl) (by kernel_rfl) (fun _ _ _ h => h) (Or.inl ⟨by rfl, ?hya12⟩) S0.out ?resta12
          case hya12 => (intro w' hSw; obtain ⟨_, _, _⟩ := hSw; go_simp; with_reducible rfl)
          try simp only [Act.put, List.getElem_toArray, List.getElem_cons_succ, List.getElem_cons_zero, List.setIfInBounds_toArray, List.set_cons_zero, List.set_cons_succ]
          refine wpAnyH_take (i := 12) (v := ?va13) rfl (by kernel_rfl) (by kernel_rfl) (by kernel_rfl) (fun _ _ _ h => h) (Or.inl ⟨by rfl, ?hya13⟩) S0.out ?resta13
          case hya13 => (intro w' hSw; obtain ⟨_, _, _⟩ := hSw; go_simp; with_reducible rfl)
          try simp only [Act.put, List.getElem_toArray, List.getElem_cons_succ, List.getElem_cons_zero, List.setIfInBounds_toArray, List.set_cons_zero, List.set_cons_succ]
          refine wpAnyH_take (i := 13) (v := ?va14) rfl (by kernel_rfl) (by kernel_rfl) (by kernel_rfl) (fun _ _ _ h => h) (Or.inl ⟨by rfl, ?hya14⟩) S0.out ?resta14
          case hya14 => (intro w' hSw; obtain ⟨_, _, _⟩ := hSw; go_simp; with_reducible rfl)
          try simp only [Act.put, List.getElem_toArray, List.getElem_cons_succ, List.getElem_cons_zero, List.setIfInBounds_toArray, List.set_cons_zero, List.set_cons_succ]
          refine wpAnyH_take (i := 14) (v := ?va15) rfl (by kernel_rfl) (by kernel_rfl) (by kernel_rfl) (fun _ _ _ h => h) (Or.inl ⟨by rfl, ?hya15⟩) S0.out ?resta15
          case hya15 => (intro w' hSw; obtain ⟨_, _, _⟩ := hSw; go_simp; with_reducible rfl)
          try simp only [Act.put, List.getElem_toArray, List.getElem_cons_succ, List.getElem_cons_zero, List.setIfInBounds_toArray, List.set_cons_zero, List.set_cons_succ]
          refine wpAnyH_take (i := 15) (v := ?va16) rfl (by kernel_rfl) (by kernel_rfl) (by kernel_rfl) (fun _ _ _ h => h) (Or.inl ⟨by rfl, ?hya16⟩) S0.out ?resta16
          case hya16 => (intro w' hSw; obtain ⟨_, _, _⟩ := hSw; go_simp; with_reducible rfl)
          try simp only [Act.put, List.getElem_toArray, List.getElem_cons_succ, List.getElem_cons_zero, List.setIfInBounds_toArray, List.set_cons_zero, List.set_cons_succ]
          refine wpAnyH_take (i := 16) (v := ?va17) rfl (by kernel_rfl) (by kernel_rfl) (by kernel_rfl) (fun _ _ _ h => h) (Or.inl ⟨by rfl, ?hya17⟩) S0.out ?resta17
          case hya17 => (intro w' hSw; obtain ⟨_, _, _⟩ := hSw; go_simp; with_reducible rfl)
          try simp only [Act.put, List.getElem_toArray, List.getElem_cons_succ, List.getElem_cons_zero, List.setIfInBounds_toArray, List.set_cons_zero, List.set_cons_succ]
          refine wpAnyH_take (i := 17) (v := ?va18) rfl (by kernel_rfl) (by kernel_rfl) (by kernel_rfl) (fun _ _ _ h => h) (Or.inl ⟨by rfl, ?hya18⟩) S0.out ?resta18
          case hya18 => (intro w' hSw; obtain ⟨_, _, _⟩ := hSw; go_simp; with_reducible rfl)
          try simp only [Act.put, List.getElem_toArray, List.getElem_cons_succ, List.getElem_cons_zero, List.setIfInBounds_toArray, List.set_cons_zero, List.set_cons_succ]
          refine wpAnyH_take (i := 18) (v := ?va19) rfl (by kernel_rfl) (by kernel_rfl) (by kernel_rfl) (fun _ _ _ h => h) (Or.inl ⟨by rfl, ?hya19⟩) S0.out ?resta19
          case hya19 => (intro w' hSw; obtain ⟨_, _, _⟩ := hSw; go_simp; with_reducible rfl)
          try simp only [Act.put, List.getElem_toArray, List.getElem_cons_succ, List.getElem_cons_zero, List.setIfInBounds_toArray, List.set_cons_zero, List.set_cons_succ]
          refine wpAnyH_take (i := 19) (v := ?va20) rfl (by kernel_rfl) (by kernel_rfl) (by kernel_rfl) (fun _ _ _ h => h) (Or.inl ⟨by rfl, ?hya20⟩) S0.out ?resta20
          case hya20 => (intro w' hSw; obtain ⟨_, _, _⟩ := hSw; go_simp; with_reducible rfl)
          try simp only [Act.put, List.getElem_toArray, List.getElem_cons_succ, List.getElem_cons_zero, List.setIfInBounds_toArray, List.set_cons_zero, List.set_cons_succ]
          refine wpAnyH_take (i := 20) (v := ?va21) rfl (by kernel_rfl) (by kernel_rfl) (by kernel_rfl) (fun _ _ _ h => h) (Or.inl ⟨by rfl, ?hya21⟩) S0.out ?resta21
          case hya21 => (intro w' hSw; obtain ⟨_, _, _⟩ := hSw; go_simp; with_reducible rfl)
          try simp only [Act.put, List.getElem_toArray, List.getElem_cons_succ, List.getElem_cons_zero, List.setIfInBounds_toArray, List.set_cons_zero, List.set_cons_succ]
          refine wpAnyH_take (i := 21) (v := ?va22) rfl (by kernel_rfl) (by kernel_rfl) (by kernel_rfl) (fun _ _ _ h => h) (Or.inl ⟨by rfl, ?hya22⟩) S0.out ?resta22
          case hya22 => (intro w' hSw; obtain ⟨_, _, _⟩ := hSw; go_simp; with_reducible rfl)
          try simp only [Act.put, List.getElem_toArray, List.getElem_cons_succ, List.getElem_cons_zero, List.setIfInBounds_toArray, List.set_cons_zero, List.set_cons_succ]
          refine wpAnyH_take (i := 22) (v := ?va23) rfl (by kernel_rfl) (by kernel_rfl) (by kernel_rfl) (fun _ _ _ h => h) (Or.inl ⟨by rfl, ?hya23⟩) S0.out ?resta23
          case hya23 => (intro w' hSw; obtain ⟨_, _, _⟩ := hSw; go_simp; with_reducible rfl)
          try simp only [Act.put, List.getElem_toArray, List.getElem_cons_succ, List.getElem_cons_zero, List.setIfInBounds_toArray, List.set_cons_zero, List.set_cons_succ]
          refine wpAnyH_take (i := 23) (v := ?va24) rfl (by kernel_rfl) (by kernel_rfl) (by kernel_rfl) (fun _ _ _ h => h) (Or.inl ⟨by rfl, ?hya24⟩) S0.out ?resta24
          case hya24 => (intro w' hSw; obtain ⟨_, _, _⟩ := hSw; go_simp; with_reducible rfl)
          try simp only [Act.put, List.getElem_toArray, List.getElem_cons_succ, List.getElem_cons_zero, List.setIfInBounds_toArray, List.set_cons_zero, List.set_cons_succ]
          refine wpAnyH_take (i := 24) (v := ?va25) rfl (by kernel_rfl) (by kernel_rfl) (by kernel_rfl) (fun _ _ _ h => h) (Or.inl ⟨by rfl, ?hya25⟩) S0.out ?resta25
          case hya25 => (intro w' hSw; obtain ⟨_, _, _⟩ := hSw; go_simp; with_reducible rfl)
          try simp only [Act.put, List.getElem_toArray, List.getElem_cons_succ, List.getElem_cons_zero, List.setIfInBounds_toArray, List.set_cons_zero, List.set_cons_succ]
          refine wpAnyH_take (i := 25) (v := ?va26) rfl (by kernel_rfl) (by kernel_rfl) (by kernel_rfl) (fun _ _ _ h => h) (Or.inl ⟨by rfl, ?hya26⟩) S0.out ?resta26
          case hya26 => (intro w' hSw; obtain ⟨_, _, _⟩ := hSw; go_simp; with_reducible rfl)
          try simp only [Act.put, List.getElem_toArray, List.getElem_cons_succ, List.getElem_cons_zero, List.setIfInBounds_toArray, List.set_cons_zero, List.set_cons_succ]
          refine wpAnyH_take (i := 26) (v := ?va27) rfl (by kernel_rfl) (by kernel_rfl) (by kernel_rfl) (fun _ _ _ h => h) (Or.inl ⟨by rfl, ?hya27⟩) S0.out ?resta27
          case hya27 => (intro w' hSw; obtain ⟨_, _, _⟩ := hSw; go_simp; with_reducible rfl)
          try simp only [Act.put, List.getElem_toArray, List.getElem_cons_succ, List.getElem_cons_zero, List.setIfInBounds_toArray, List.set_cons_zero, List.set_cons_succ]
          refine wpAnyH_take (i := 27) (v := ?va28) rfl (by kernel_rfl) (by kernel_rfl) (by kernel_rfl) (fun _ _ _ h => h) (Or.inl ⟨by rfl, ?hya28⟩) S0.out ?resta28
          case hya28 => (intro w' hSw; obtain ⟨_, _, _⟩ := hSw; go_simp; with_reducible rfl)
          try simp only [Act.put, List.getElem_toArray, List.getElem_cons_succ, List.getElem_cons_zero, List.setIfInBounds_toArray, List.set_cons_zero, List.set_cons_succ]
          refine wpAnyH_ready (rs := [28]) (by kernel_rfl) (by simp) ?_
          refine AllReadyH.cons rfl (fun K hK => ?_) AllReadyH.nil
          go_simp
          go_wp2_with (go_at_call 40; refine (HFR1.out _).mono ?_; rintro e w3 ⟨rfl, hb3⟩)
          have HB3 : Hid (Below wr.heap.size wr w3) := (below_drew7 wr).trans hb3
          have S1 := Lib.hid (SA.out w3 (fun o => HB3.out.cell (p := ⟨gl, o, none⟩) hgl1))
          clear hb3
          refine hK.out _ _ S1.out (fun _ => ?_)
          clear hK K
          try simp only [Act.put, List.getElem_toArray, List.getElem_cons_succ, List.getElem_cons_zero, List.setIfInBounds_toArray, List.set_cons_zero, List.set_cons_succ]
          refine wpAnyH_ready (rs := [29]) (by kernel_rfl) (by simp) ?_
          refine AllReadyH.cons rfl (fun K hK => ?_) AllReadyH.nil
          go_simp
          go_wp2_with (go_at_call 21; refine (HWR.out _ (HDR.out.keep HB3.out)).mono ?_; rintro e w4 ⟨rfl, ho4, wa4, wc4, hd4, hwa4⟩)
          have HO4 := Lib.hid ho4; have HD4 := Lib.hid hd4; have HWA4 := Lib.hid hwa4
          have S2 := Lib.hid (SA.out w4 (fun o => (cell_only ho4 (q := ⟨gl, o, none⟩) (by show gl < _; have := HB3.out.size; omega) (fun e => HNE.out.1 e)).trans (HB3.out.cell (p := ⟨gl, o, none⟩) hgl1)))
          clear ho4 hd4 hwa4
          refine hK.out _ _ S2.out (fun _ => ?_)
          clear hK K
          try simp only [Act.put, List.getElem_toArray, List.getElem_cons_succ, List.getElem_cons_zero, List.setIfInBounds_toArray, List.set_cons_zero, List.set_cons_succ]
          refine wpAnyH_take (i := 30) (v := ?va29) rfl (by kernel_rfl) (by kernel_rfl) (by kernel_rfl) (fun _ _ _ h => h) (Or.inl ⟨by rfl, ?hya29⟩) S2.out ?resta29
          case hya29 => (intro w' hSw; obtain ⟨_, _, _⟩ := hSw; go_simp; with_reducible rfl)
          try simp only [Act.put, List.getElem_toArray, List.getElem_cons_succ, List.getElem_cons_zero, List.setIfInBounds_toArray, List.set_cons_zero, List.set_cons_succ]
          refine wpAnyH_done (by kernel_rfl) ?_ _
          refine NoPanic.normal ?_
          have HON4 : Hid (Only (fun k => Fp gr kb k) w w4) := (HON.out.trans' (only_of HB3.out) (fun k hk => .inr (by have := HON.out.size; omega))).trans (HO4.out.mono (fun k _ e => .inl e))
          have HRL4 : Hid (Rl gl gr la lc L w4) := (HRL.out.below HB3.out).keepO HO4.out (fun e => HNE.out.1 e) (fun x e => (HNL.out x e).1)
          have HWX4 : Hid (∀ x, wa4 = some x → wa = some x ∨ (w.heap.size ≤ x.block ∧ x.block < w4.heap.size)) := fun x e => by
            have h3 := HB3.out.size; have h4 := HO4.out.size; have h5 := HON.out.size
            rcases HWA4.out x e with h | h
            · rcases HWA1.out x h with h | h
              · exact .inl h
              · exact .inr (by omega)
            · exact .inr (by omega)
          have HOWN4 : Hid (w4.ownsRow w.heap.size 9 1 (.slice (some ⟨g2, 0, none⟩) tn c2) T.length (sc T)) := own_keepR (own_keep HOWN.out HB3.out) HO4.out (fun x e e2 => by
            injection e with e
            subst e
            have h1 := HD.out.lt; have h2 := HG2W.out
            exact absurd e2 (by show g2 ≠ gr; omega))
          have c8 := HRL4.out.c8; have fz := HRL4.out.fz; have hlt4 := HRL4.out.lt
          rw [HDN.out] at c8
          clear S0 S1 S2 SA HFR1 HWR x1 x2 x3 x4 x5
          by_cases hz2 : C2 = 0
          case neg =>
            have z2 : (C2 != 0) = true := by simp [hz2]
            have hop := Lib.hid (HERR.out (TT.take (i + 1)) (by rw [HW2.out]; exact hz2) (List.take_prefix _ _))
            clear HERR HFIN
            go_wp2
            go_ret
            rw [hop.out, HW2.out]
            have hoc := only_cell w4 gl 8 (.bool true)
            have hset := HRL4.out.setDown true
            refine ⟨rfl, (HON4.out.mono (q := fun k => k = gl ∨ Fp gr kb k) (fun k _ e => .inr e)).trans (hoc.mono (fun k _ e => .inl e)), wa4, wc4, la, lc, HD4.out.keepO hoc (fun e => HNE.out.1 e.symm) (fun e => HNE.out.2 e.symm) (fun x e e2 => ?_), fun x e => ?_, hset, fun x e => .inl e⟩
            · rcases HWX4.out x e with h | h
              · exact HNW.out x h e2
              · have := HLT.out; omega
            · have := HWX4.out x e; simpa using this
          case pos =>
            subst hz2
            go_wp2
            go_roundw
            case rel => exact ⟨i + 1, by omega, by go_num, ⟨HON4.out, ⟨wa4, wc4, by rw [HW2.out]; exact HD4.out, HWX4.out⟩, HRL4.out, HOWN4.out⟩, by show _ = _; rw [HW2.out]⟩
            case measure => simp [ixOf]; omega
end Go.Proofs.Ytofbignggadkiaa
