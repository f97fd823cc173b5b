/- The reference of layer 6: Write. -/
import Derived.Test.YtllbemelljaklaaSecRef2
import Derived.Test.YtllbemelljaklaaKitAppend
import Derived.Laws.OwnMore
namespace Go.Proofs.Ytllbemelljaklaa
open Go.RowKit

theorem Wv.src {a : Option Addr} {n c : Nat} {l : List Sm.Wr} {w : World} (h : Wv (.slice a n c) l w) : Src Try.prog 2 43 (.slice a n c) n (wcs l) w := by
  rcases h with ⟨b, d, e, rfl⟩ | ⟨g, off, cap, e, _, _, hc⟩
  · injection e with e1 e2 e3
    subst e1; subst e2; subst e3
    cases a with
    | none => exact Src.ofNil w Try.underlying43 c
    | some a => exact Src.ofSlice w Try.underlying43 a 0 c [] rfl (fun j u h => by simp at h) (fun u h => by simp at h)
  · injection e with e1 e2 e3
    subst e1; subst e2; subst e3
    exact Src.ofSlice w Try.underlying43 ⟨g, off, none⟩ l.length c (wcs l) (wcs_length l) (fun j u hj => by rw [show (⟨g, off, none⟩ : Addr).add j = ⟨g, off + j, none⟩ by unfold Addr.add; split <;> simp_all]; exact hc j u hj) (wcs_one l)
theorem Wv.of_own {w : World} {B : Nat} {v : Value} {l : List Sm.Wr} {n : Nat} (h : w.ownsRow B 66 2 v n (wcs l)) : Wv v l w := by
  obtain ⟨h1, h2⟩ := h
  have hn : l.length = n := by rw [wcs_length] at h1; omega
  rcases h2 with ⟨rfl, rfl⟩ | ⟨g, cap, cur, rfl, _, hg, hc, hm, hs, ht⟩
  · exact .inl ⟨_, _, rfl, List.eq_nil_of_length_eq_zero hn⟩
  · refine .inr ⟨g, 0, cap, by rw [hn], by omega, (Array.getElem?_eq_some_iff.1 hg).1, fun i u hi => ?_⟩
    rw [← ht, List.getElem?_take] at hi
    rw [Lib.cell_of_heap hg, Nat.zero_add]
    split at hi
    · simpa using hi
    · cases hi
theorem info2w : (Try.prog.info? 66).map (fun i => (i.zero, i.size, i.bytes)) = some (some (.agg #[.int .i64 0, .string ⟨#[]⟩]), 2, 24) := by kernel_rfl
theorem info_of {o : Option TypeInfo} {x : Option Value} {y z : Nat} (h : o.map (fun i => (i.zero, i.size, i.bytes)) = some (x, y, z)) : ∃ i, o = some i ∧ i.zero = x ∧ i.size = y ∧ i.bytes = z := by
  cases o with
  | none => cases h
  | some i => simp at h; exact ⟨i, rfl, h.1, h.2.1, h.2.2⟩
theorem lit_srcw (w : World) (x : Sm.Wr) (g : Nat) (hg : g = w.heap.size) : Src Try.prog 2 43 (.slice (some ⟨g, 0, none⟩) 1 1) 1 (wcs [x]) (w.alloc (.cells #[.int .i64 (x.i : Int), .string (st x.b)] 66)) := by
  subst hg
  exact (Wv.of_own (B := 0) (World.ownsRow_lit w #[.int .i64 (x.i : Int), .string (st x.b)] 1 (Nat.zero_le _) (by decide) rfl)).src

theorem Dr.setWs {g kb kc wc wc' : Nat} {wa a' : Option Addr} {d : Sm.Dv} {w : World} (h : Dr g kb kc wa wc d w) (l : List Sm.Wr) (M : Nat) (hM : M = l.length) (hv : Wv (.slice a' M wc') l w) (hne : ∀ a, a' = some a → a.block ≠ g ∧ a.block ≠ kb) :
    Dr g kb kc a' wc' { d with ws := l } (w.setCell ⟨g, 1, none⟩ (.slice a' M wc')) := by
  subst hM
  exact ⟨(cell_keep _ _ _ _ _ (by decide)).trans h.c0, World.cell?_setCell_same _ _ _ h.c1, (cell_keep _ _ _ _ _ (by decide)).trans h.c2, (cell_keep _ _ _ _ _ (by decide)).trans h.c3,
    fun o => by have := h.fz o; simpa using this, by have := h.lt; simpa using this, own_set h.kr _ (fun e => h.ne (by simpa [Value.ownBlock] using e)), h.ne, hv.set g _ _ (fun a n c e => (hne a (by injection e)).1), hne⟩
theorem own_form {w : World} {B n : Nat} {v : Value} {l : List Sm.Wr} (h : w.ownsRow B 66 2 v n (wcs l)) : ∃ a c, v = .slice a n c := by
  obtain ⟨h1, h2⟩ := h
  rw [wcs_length] at h1
  rcases h2 with ⟨rfl, rfl⟩ | ⟨g, cap, cur, rfl, _⟩
  · exact ⟨_, _, rfl⟩
  · exact ⟨_, _, rfl⟩

set_option maxHeartbeats 2000000 in
theorem ref6_write (g kb kc wc : Nat) (wa : Option Addr) (d : Sm.Dv) (i : Int) (l : List UInt8) (w : World) (h : Dr g kb kc wa wc d w) (hw : d.ws.length ≤ 1000) (hl : l.length ≤ 100000) (hc : 0 ≤ d.calls ∧ d.calls ≤ 1000000) (hf : -1 ≤ d.left ∧ d.left ≤ 9223372036854775807) :
    Calls Try.prog 11 #[.pointer (some ⟨g, 0, none⟩), .int .i64 i, .string (st l)] w fun e w' => e = .returned (.int .i64 (Sm.write d i l).2) ∧ Only (fun k => k = g) w w' ∧ ∃ wa' wc', Dr g kb kc wa' wc' (Sm.write d i l).1 w' ∧ ∀ x, wa' = some x → wa = some x ∨ (w.heap.size ≤ x.block ∧ x.block < w'.heap.size) := by
  have H := Lib.hid h
  have hs : (st l).size = l.length := st_size l
  have HC : Hid (∀ W, Dr g kb kc wa wc d W → Calls Try.prog 26 #[.pointer (some ⟨g, 0, none⟩), .int .i64 i, .string (st l)] W fun e w' => e = .returned (.int .i64 (Sm.check d i l.length)) ∧ W = w') := fun W hW => by
    have := ref6_check g kb kc wc wa d i (st l) W hW (by omega)
    rw [hs] at this; exact this
  by_cases hk : Sm.check d i l.length = 0
  case neg =>
    have HR : Hid (Sm.write d i l = (d, Sm.check d i l.length)) := by show _ = _; unfold Sm.write; rw [if_neg hk]
    have q : (Sm.check d i l.length == 0) = false := by rw [beq_eq_false_iff_ne]; exact hk
    rw [HR.out]
    clear HR h hk hs
    generalize Sm.check d i l.length = E at *
    go_enter Try.func11, Try.ntmps11
    go_wp2_with fail
    refine (HC.out _ H.out).mono ?_
    rintro e w1 ⟨rfl, rfl⟩
    go_wp2
    go_ret
    exact ⟨rfl, Only.refl _ _, wa, wc, H.out, fun _ e => .inl e⟩
  obtain ⟨i0, i1, i2, -⟩ := Sm.check_0 hk
  obtain ⟨n, rfl⟩ : ∃ n : Nat, i = (n : Int) := ⟨i.toNat, by omega⟩
  have HR : Hid (Sm.write d (n : Int) l = (Sm.count { d with ws := d.ws ++ [⟨n, Sm.full l⟩] }, 0)) := by
    show _ = _; unfold Sm.write; rw [if_pos hk]; rfl
  rw [hk] at HC
  rw [HR.out]
  obtain ⟨j0, hj0, hz0, hz1, hz2⟩ := info_of info2w
  have HI0 := Lib.hid hj0; have HZ0 := Lib.hid hz0; have HZ1 := Lib.hid hz1; have HZ2 := Lib.hid hz2
  have c1 := h.c1; have fz := h.fz; have lt := h.lt
  obtain ⟨M, hM⟩ : ∃ M, M = d.ws.length := ⟨_, rfl⟩
  have HWV : Hid (Wv (.slice wa M wc) d.ws w) := by rw [hM]; exact h.ws
  rw [← hM] at c1
  have M1 : M ≤ d.ws.length := by omega
  have M2 : d.ws.length ≤ M := by omega
  have HF : Hid (∀ W, Calls Try.prog 23 #[.string (st l)] W fun e w' => e = .returned (.string (st (Sm.full l))) ∧ W = w') := fun W => ref6_full l W hl
  clear hj0 hz0 hz1 hz2 hk h hM HR
  go_enter Try.func11, Try.ntmps11
  go_wp2_with fail
  refine (HC.out _ H.out).mono ?_
  rintro e w1 ⟨rfl, rfl⟩
  have HSR := Lib.hid (HWV.out.keep ((Below.refl _ w).alloc (Nat.le_refl _) (.cells #[] 66))).src
  go_wp2_with (at_builtin; refine wpList_append_src _ rfl (.tmp 15) (.tmp 19) 43 43 rfl w.heap.size 66 j0 _ 2 24 Try.underlying43 HI0.out HZ0.out HZ1.out HZ2.out rfl (.slice (some ⟨w.heap.size, 0, none⟩) 0 0) 0 [] rfl (World.ownsRow_lit w #[] 0 (Nat.le_refl _) (Nat.zero_le _) rfl) _ M (wcs d.ws) rfl ?qs ?qa ?qb ?qc ?_)
  case qs => exact HSR.out
  case qa => unfold maxLen; omega
  case qb => omega
  case qc => simp
  intro v2 w2 hown hgrow hat
  have HB2 := Lib.hid (((Below.refl _ w).alloc (Nat.le_refl _) (.cells #[] 66)).grown hgrow (by simp) (fun i hi => Nat.le_of_eq (by simpa [Value.ownBlock] using hi)))
  have HO2 := Lib.hid hown
  have hsz := HB2.out.size
  obtain ⟨a2, c2, hv2⟩ := own_form hown
  rw [hv2] at HO2 ⊢
  clear hown hgrow hat hv2
  go_wp2_with fail
  refine (HF.out _).mono ?_
  rintro e w3 ⟨rfl, rfl⟩
  go_wp2_with (at_builtin; refine wpList_append_src _ rfl (.tmp 20) (.tmp 25) 43 43 rfl w.heap.size 66 j0 _ 2 24 Try.underlying43 HI0.out HZ0.out HZ1.out HZ2.out rfl _ M (wcs d.ws) rfl (HO2.out.alloc _) _ 1 (wcs [⟨n, Sm.full l⟩]) rfl ?qs2 ?qa2 ?qb2 ?qc2 ?_)
  case qs2 => exact lit_srcw w2 ⟨n, Sm.full l⟩ _ rfl
  case qa2 => unfold maxLen; omega
  case qb2 => omega
  case qc2 => simp; omega
  intro v3 w3 hown3 hgrow3 hat3
  have HB3 := Lib.hid ((HB2.out.alloc hsz _).grown hgrow3 (by simp; omega) (fun i hi => (HO2.out.lt i hi).1))
  rw [← wcs_append] at hown3
  obtain ⟨a3, c3, hv3⟩ := own_form hown3
  rw [hv3] at hown3 ⊢
  have D3 := H.out.keep HB3.out
  have c13 := D3.c1; have fz3 := D3.fz; have lt3 := D3.lt
  have kb3 : kb < w.heap.size := (H.out.kr.lt kb rfl).2
  have g3 : g < w.heap.size := lt
  have hM3 : M + 1 = (d.ws ++ [(⟨n, Sm.full l⟩ : Sm.Wr)]).length := by simp; omega
  have HS := Lib.hid (D3.setWs (d.ws ++ [⟨n, Sm.full l⟩]) (M + 1) hM3 (Wv.of_own hown3) (fun a e => by subst e; have := (hown3.lt a.block rfl).1; omega))
  have HN := Lib.hid (ref6_count g kb kc c3 a3 _ _ HS.out hc hf)
  have O3 : Hid (Only (fun k => k = g) w (w3.setCell ⟨g, 1, none⟩ (.slice a3 (M + 1) c3))) := Only.setCell (p := fun k => k = g) ⟨HB3.out.os, HB3.out.tape, HB3.out.output, HB3.out.size, fun k hk _ => HB3.out.block k hk⟩ (q := ⟨g, 1, none⟩) (.inl rfl) _
  have HA3 : Hid (∀ x, a3 = some x → w.heap.size ≤ x.block ∧ x.block < w3.heap.size) := fun x e => by subst e; exact hown3.lt x.block rfl
  clear hown3 hgrow3 hat3 hv3 D3 hM3 fz c1
  go_wp2_with fail
  refine HN.out.mono ?_
  rintro e w4 ⟨rfl, hd, ho⟩
  go_wp2
  go_ret
  exact ⟨rfl, O3.out.trans ho, a3, c3, hd, fun x e => .inr ⟨(HA3.out x e).1, by have h1 := (HA3.out x e).2; have h2 := ho.size; simp at h2; omega⟩⟩
end Go.Proofs.Ytllbemelljaklaa
