/- The first lines of every statement of layer 1 hold: the document's examples. -/
import Derived.Test.YtgpeombkdompdaaWireR3
import Derived.Outline
namespace Go.Proofs.Ytgpeombkdompdaa
open Go.RowKit

theorem Wr.fresh (w : World) : Wr w.heap.size (.slice none 0 0) [] (w.alloc (.cells #[.slice none 0 0] 28)) :=
  ⟨heap_alloc_new w _, World.ownsRow_nil _ _ _ _⟩
theorem Byt.lit (l : List UInt8) (w : World) (h : l.length ≤ maxLen) (cs : Array Value) (hcs : cs = (bc l).toArray) (n : Nat) (hn : n = l.length) : Byt (.slice (some ⟨w.heap.size, 0, none⟩) n n) l (w.alloc (.cells cs 5)) := by
  subst hcs; subst hn
  refine .inr ⟨w.heap.size, 0, l.length, (bc l).toArray, 5, (0, 0), rfl, Nat.le_refl _, heap_alloc_new w _, rfl, by simp [bc_length], by simpa [bc_length] using h, fun j hj => ?_⟩
  simp only [List.getElem?_toArray, Nat.zero_add]
  rw [bc_get]; simp [List.getD, hj]

def Firsts (w : World) (e : Ending) (w' : World) : Prop := e = .returned (.bool true) ∧ Below w.heap.size w w'

/-- A writer of the call's own: everything of it lies from B on. -/
structure WrB (B b : Nat) (bs : List UInt8) (W w : World) : Prop where
  ex : ∃ v, Wr b v bs w ∧ ∀ g, v.ownBlock = some g → B ≤ g
  le : B ≤ b
  bel : Below B W w
  base : B ≤ W.heap.size

theorem WrB.step {B b : Nat} {v : Value} {bs : List UInt8} {W w w' : World} (hB : B ≤ b) (hv : ∀ g, v.ownBlock = some g → B ≤ g) (hb : Below B W w) (hW : B ≤ W.heap.size) (h : Wrote b v bs w w') : WrB B b bs W w' := by
  obtain ⟨v', h1, h2, h3⟩ := h
  have hs := hb.size
  refine ⟨⟨v', h1, fun g hg => ?_⟩, hB, hb.trans (h3.belowB (by omega) ?_), hW⟩
  · rcases h2 with e | ⟨g', e, hg'⟩
    · exact hv g (by rw [← e]; exact hg)
    · rw [e] at hg; simp at hg; omega
  · rintro k hk (e | e)
    · omega
    · have := hv k e; omega

theorem WrB.fresh {B : Nat} {W w : World} (hb : Below B W w) (hW : B ≤ W.heap.size) : WrB B w.heap.size [] W (w.alloc (.cells #[.slice none 0 0] 28)) :=
  ⟨⟨_, Wr.fresh w, by simp [Value.ownBlock]⟩, by have := hb.size; omega, hb.alloc (by have := hb.size; omega) _, hW⟩
theorem WrB.below {B b : Nat} {bs : List UInt8} {W w w' : World} (h : WrB B b bs W w) (hb : Below w.heap.size w w') : WrB B b bs W w' := by
  obtain ⟨v, h1, h2⟩ := h.ex
  have hs := h.bel.size
  have hB := h.base
  refine ⟨⟨v, h1.keep (Only.of_below hb) (by have := h1.lt; omega) (fun g hg => by have := h1.ltv g hg; omega), h2⟩, h.le, h.bel.trans (hb.mono (by omega)), hB⟩
theorem WrB.only {B b : Nat} {bs : List UInt8} {W w w' : World} {p : Nat → Prop} (h : WrB B b bs W w) (ho : Only p w w') (hp : ∀ v, Wr b v bs w → ¬ p b ∧ (∀ g, v.ownBlock = some g → ¬ p g)) (hb : Below B w w') : WrB B b bs W w' := by
  obtain ⟨v, h1, h2⟩ := h.ex
  obtain ⟨h3, h4⟩ := hp v h1
  exact ⟨⟨v, h1.keep ho h3 h4, h2⟩, h.le, h.bel.trans hb, h.base⟩

theorem below_undrew {B : Nat} {w w' : World} (h : Below B w.drew w') : Below B w w' := ⟨h.os, h.tape, h.output, h.size, h.block⟩
theorem Wr.drew {b : Nat} {v : Value} {bs : List UInt8} {w : World} (h : Wr b v bs w) : Wr b v bs w.drew := ⟨h.blk, h.own⟩
theorem Rd.drew {b : Nat} {v : Value} {st : Option (List UInt8)} {w : World} (h : Rd b v st w) : Rd b v st w.drew := ⟨h.blk, h.byt⟩
theorem WrB.drew {B b : Nat} {bs : List UInt8} {W w : World} (h : WrB B b bs W w) : WrB B b bs W w.drew := by
  obtain ⟨v, h1, h2⟩ := h.ex
  exact ⟨⟨v, h1.drew, h2⟩, h.le, h.bel.drew, h.base⟩

theorem number_B {B b : Nat} {bs : List UInt8} {W w : World} (n : Int) (h : WrB B b bs W w) (hbig : bs.length ≤ 1099511627776) (hn : Wm.inR n) :
    Calls Try.prog 9 #[.pointer (some ⟨b, 0, none⟩), .int .i64 n] w fun e w' => e = .returned (.tuple #[]) ∧ WrB B b (bs ++ Wm.enc n) W w' := by
  obtain ⟨v, h1, h2⟩ := h.ex
  exact (number_w b v bs n w h1 hbig hn).mono fun e w' ⟨he, hw⟩ => ⟨he, WrB.step h.le h2 h.bel h.base hw⟩
theorem text_B {B b : Nat} {bs : List UInt8} {W w : World} (s : ByteArray) (h : WrB B b bs W w) (hbig : bs.length ≤ 1000000000000) (hs : s.size ≤ 1000000000) :
    Calls Try.prog 13 #[.pointer (some ⟨b, 0, none⟩), .string s] w fun e w' => e = .returned (.tuple #[]) ∧ WrB B b (bs ++ Wm.enc s.size ++ s.data.toList) W w' := by
  obtain ⟨v, h1, h2⟩ := h.ex
  exact (text_w b v bs s w h1 hbig hs).mono fun e w' ⟨he, hw⟩ => ⟨he, WrB.step h.le h2 h.bel h.base hw⟩
/-- what Bytes leaves -/
def BytesB (B b : Nat) (bs : List UInt8) (W w : World) (e : Ending) (w' : World) : Prop :=
  ∃ a n c, e = .returned (.slice a n c) ∧ Hid (n = bs.length) ∧ Byt (.slice a n c) bs w' ∧ (∀ g, (Value.slice a n c).ownBlock = some g → w.heap.size ≤ g) ∧ WrB B b bs W w' ∧ Below w.heap.size w w'
theorem bytes_B {B b : Nat} {bs : List UInt8} {W w : World} (h : WrB B b bs W w) (hbig : bs.length ≤ 1000000000000) :
    Calls Try.prog 15 #[.pointer (some ⟨b, 0, none⟩)] w (BytesB B b bs W w) := by
  obtain ⟨v, h1, h2⟩ := h.ex
  refine (bytes_w b v bs w h1 hbig).mono ?_
  rintro e w' ⟨v', rfl, ho, hb⟩
  obtain ⟨a, c, rfl⟩ := (Byt.of_own ho).form
  exact ⟨a, _, c, rfl, rfl, Byt.of_own ho, fun g hg => (ho.lt g hg).1, h.below hb, hb⟩

/-- A READER of the call's own. -/
structure RdB (B b : Nat) (st : Option (List UInt8)) (W w : World) : Prop where
  ex : ∃ sv, Rd b sv st w ∧ ∀ g, sv.ownBlock = some g → B ≤ g
  le : B ≤ b
  bel : Below B W w
  base : B ≤ W.heap.size

theorem RdB.step {B b : Nat} {sv : Value} {st : Option (List UInt8)} {W w w' : World} (hB : B ≤ b) (hv : ∀ g, sv.ownBlock = some g → B ≤ g) (hb : Below B W w) (hW : B ≤ W.heap.size) (h : Red b sv st w w') : RdB B b st W w' := by
  obtain ⟨v', h1, h2, h3⟩ := h
  have hs := hb.size
  refine ⟨⟨v', h1, fun g hg => ?_⟩, hB, hb.trans (h3.belowB (by omega) (fun k hk e => by omega)), hW⟩
  rcases h2 with e | e
  · rw [e] at hg; cases hg
  · exact hv g (by rw [← e]; exact hg)
theorem RdB.below {B b : Nat} {st : Option (List UInt8)} {W w w' : World} (h : RdB B b st W w) (hb : Below w.heap.size w w') : RdB B b st W w' := by
  obtain ⟨v, h1, h2⟩ := h.ex
  have hs := h.bel.size
  have hB := h.base
  refine ⟨⟨v, h1.keep (Only.of_below hb) (by have := h1.lt; omega) (fun g hg => by have := h1.byt.lt g hg; omega), h2⟩, h.le, h.bel.trans (hb.mono (by omega)), hB⟩

def ReadB (B : Nat) (l : List UInt8) (W : World) (H : Nat) (w : World) (e : Ending) (w' : World) : Prop :=
  ∃ b, e = .returned (.pointer (some ⟨b, 0, none⟩)) ∧ RdB B b (some l) W w' ∧ H ≤ b ∧ Below w.heap.size w w'
theorem read_B {B : Nat} {W w : World} (x : Value) (l : List UInt8) (hx : Byt x l w) (hl : l.length ≤ 1000000000000) (hb : Below B W w) (hW : B ≤ W.heap.size) :
    Calls Try.prog 16 #[x] w (ReadB B l W w.heap.size w) := by
  refine (read_any x l w hx hl).mono ?_
  rintro e w' ⟨b, sv, rfl, hr, h1, h2, h3⟩
  have hs := hb.size
  exact ⟨b, rfl, ⟨⟨sv, hr, fun g hg => by have := h2 g hg; omega⟩, by omega, hb.trans (h3.mono (by omega)), hW⟩, h1, h3⟩

theorem number_RB {B b : Nat} {st : Option (List UInt8)} {W w : World} (h : RdB B b st W w) (hl : (st.getD []).length ≤ 1000000000000) :
    Calls Try.prog 22 #[.pointer (some ⟨b, 0, none⟩)] w fun e w' => e = .returned (.int .i64 (btw (-9223372036854775808) 9223372036854775807 st).1) ∧ RdB B b (btw (-9223372036854775808) 9223372036854775807 st).2 W w' ∧ Only (fun k => k = b) w w' := by
  obtain ⟨v, h1, h2⟩ := h.ex
  refine (number_r b v st w h1 hl).mono ?_
  rintro e w' ⟨he, hw⟩
  exact ⟨he, RdB.step h.le h2 h.bel h.base hw, hw.choose_spec.2.2⟩
theorem count_RB {B b : Nat} {st : Option (List UInt8)} {W w : World} (most : Int) (h : RdB B b st W w) (hl : (st.getD []).length ≤ 1000000000000) :
    Calls Try.prog 18 #[.pointer (some ⟨b, 0, none⟩), .int .i64 most] w fun e w' => e = .returned (.int .i64 (btw 0 most st).1) ∧ RdB B b (btw 0 most st).2 W w' ∧ Only (fun k => k = b) w w' := by
  obtain ⟨v, h1, h2⟩ := h.ex
  refine (count_r b v st most w h1 hl).mono ?_
  rintro e w' ⟨he, hw⟩
  exact ⟨he, RdB.step h.le h2 h.bel h.base hw, hw.choose_spec.2.2⟩
theorem flag_RB {B b : Nat} {st : Option (List UInt8)} {W w : World} (h : RdB B b st W w) (hl : (st.getD []).length ≤ 1000000000000) :
    Calls Try.prog 21 #[.pointer (some ⟨b, 0, none⟩)] w fun e w' => e = .returned (.bool ((btw 0 1 st).1 == 1)) ∧ RdB B b (btw 0 1 st).2 W w' ∧ Only (fun k => k = b) w w' := by
  obtain ⟨v, h1, h2⟩ := h.ex
  refine (flag_r b v st w h1 hl).mono ?_
  rintro e w' ⟨he, hw⟩
  exact ⟨he, RdB.step h.le h2 h.bel h.base hw, hw.choose_spec.2.2⟩
theorem text_RB {B b : Nat} {st : Option (List UInt8)} {W w : World} (h : RdB B b st W w) (hl : (st.getD []).length ≤ 1000000000000) :
    Calls Try.prog 20 #[.pointer (some ⟨b, 0, none⟩)] w fun e w' => e = .returned (.string (bstr (rtext st).1)) ∧ RdB B b (rtext st).2 W w' ∧ Only (fun k => k = b) w w' := by
  obtain ⟨v, h1, h2⟩ := h.ex
  refine (text_r b v st w h1 hl).mono ?_
  rintro e w' ⟨he, hw⟩
  exact ⟨he, RdB.step h.le h2 h.bel h.base hw, hw.choose_spec.2.2⟩
theorem ok_RB {B b : Nat} {st : Option (List UInt8)} {W w : World} (h : RdB B b st W w) :
    Calls Try.prog 23 #[.pointer (some ⟨b, 0, none⟩)] w fun e w' => e = .returned (.bool st.isSome) ∧ w = w' := by
  obtain ⟨v, h1, h2⟩ := h.ex
  exact ok_r b v st w h1
theorem left_RB {B b : Nat} {st : Option (List UInt8)} {W w : World} (h : RdB B b st W w) :
    Calls Try.prog 24 #[.pointer (some ⟨b, 0, none⟩)] w fun e w' => e = .returned (.int .i64 ((st.getD []).length : Nat)) ∧ w = w' := by
  obtain ⟨v, h1, h2⟩ := h.ex
  exact left_r b v st w h1
theorem end_RB {B b : Nat} {st : Option (List UInt8)} {W w : World} (h : RdB B b st W w) :
    Calls Try.prog 25 #[.pointer (some ⟨b, 0, none⟩)] w fun e w' => e = .returned (.bool (st.isSome && (st.getD []).isEmpty)) ∧ w = w' := by
  obtain ⟨v, h1, h2⟩ := h.ex
  exact end_r b v st w h1

def exBytes : List UInt8 := [] ++ Wm.enc 300 ++ Wm.enc (-257) ++ Wm.enc ((⟨#[97, 98]⟩ : ByteArray).size : Nat) ++ [97, 98]
theorem exBytes_eq : exBytes = [2, 1, 44, 130, 1, 0, 1, 2, 97, 98] := by decide +kernel
theorem btw_ex1 : btw (-9223372036854775808) 9223372036854775807 (some [1, 0]) = (0, none) := by decide +kernel
theorem btw_ex2 : btw (-9223372036854775808) 9223372036854775807 (some [128]) = (-1, some []) := by decide +kernel

set_option maxHeartbeats 2000000 in
set_option maxRecDepth 100000 in
theorem first_true (w : World) : Calls Try.prog 8 #[] w (Firsts w) := by
  go_enter Try.func8, Try.ntmps8
  go_wp2_with fail
  refine (number_B 300 (WrB.fresh (Below.refl w.heap.size w) (Nat.le_refl _)) (by simp) (by unfold Wm.inR; omega)).mono ?_
  rintro e w1 ⟨rfl, h⟩
  have H1 := Lib.hid h
  clear h
  go_wp2_with fail
  refine (number_B (-257) H1.out (by decide +kernel) (by unfold Wm.inR; omega)).mono ?_
  rintro e w2 ⟨rfl, h⟩
  have H2 := Lib.hid h
  clear h H1
  go_wp2_with fail
  refine (text_B _ H2.out (by decide +kernel) (by decide +kernel)).mono ?_
  rintro e w3 ⟨rfl, h⟩
  have H3 : Hid (WrB w.heap.size w.heap.size exBytes w w3) := h
  clear h H2
  go_wp2_with fail
  refine (read_B _ [1, 0] (Byt.lit [1, 0] w3 (by unfold maxLen; decide) _ rfl 2 rfl) (by decide) (H3.out.bel.alloc (by have := H3.out.bel.size; omega) _) (Nat.le_refl _)).mono ?_
  rintro e w4 ⟨b, rfl, hr, hb, hbel⟩
  have H4 := Lib.hid (H3.out.below (((Below.refl _ w3).alloc (Nat.le_refl _) _).trans (hbel.mono (by simp))))
  have HR4 := Lib.hid hr
  clear hr hb hbel H3
  go_wp2_with fail
  refine (bytes_B H4.out (by decide +kernel)).mono ?_
  rintro e w5 ⟨a, n, c, rfl, _, hby, _, hw, hbel⟩
  have hstr := hby.str
  have hex : bstr exBytes = ⟨#[2, 1, 44, 130, 1, 0, 1, 2, 97, 98]⟩ := by rw [exBytes_eq]; rfl
  rw [hex] at hstr
  have HR5 := Lib.hid (HR4.out.below hbel)
  clear hby hex hw hbel H4 HR4
  go_wp2_with fail
  refine (number_RB HR5.out (by decide)).mono ?_
  rintro e w6 ⟨rfl, hr, ho⟩
  rw [btw_ex1] at hr ⊢
  have HR6 := Lib.hid hr
  clear hr ho HR5 hstr
  go_wp2_with fail
  refine (ok_RB HR6.out).mono ?_
  rintro e w7 ⟨rfl, rfl⟩
  simp only [Option.isSome_none]
  go_wp2_with fail
  refine (read_B _ [128] (Byt.lit [128] w6 (by unfold maxLen; decide) _ rfl 1 rfl) (by decide) (HR6.out.bel.alloc (by have := HR6.out.bel.size; omega) _) (Nat.le_refl _)).mono ?_
  rintro e w7 ⟨b7, rfl, hr, hb, hbel⟩
  have HR7 := Lib.hid hr
  clear hr hb hbel HR6
  go_wp2_with fail
  refine (number_RB HR7.out (by decide)).mono ?_
  rintro e w8 ⟨rfl, hr, ho⟩
  rw [btw_ex2] at hr ⊢
  have HR8 := Lib.hid hr
  clear hr ho HR7
  go_wp2
  go_ret
  exact ⟨rfl, HR8.out.bel⟩

theorem wf_in (a : Int) (h : (Lit.int .i64 a).wf = true) : Wm.inR a := by
  have hx : -9223372036854775808 ≤ a ∧ a ≤ 9223372036854775807 := by simpa [Lit.wf, IntKind.min, IntKind.max, IntKind.signed, IntKind.bits] using h
  exact hx

end Go.Proofs.Ytgpeombkdompdaa
