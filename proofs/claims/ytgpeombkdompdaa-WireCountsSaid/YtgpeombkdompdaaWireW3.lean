/- The other calls of a Writer: Text, Flag, Raw, Bytes; and Read. -/
import Derived.Test.YtgpeombkdompdaaWireW2
import Derived.Test.YtgpeombkdompdaaKitAppend
import Derived.Outline
namespace Go.Proofs.Ytgpeombkdompdaa
open Go.RowKit

/-- bytes appended to the writer, and the new slice stored -/
theorem Wrote.app {b : Nat} {v v1 v2 : Value} {bs l : List UInt8} {w wr w1 : World} (hw : Wr b v1 bs wr) (hf : Frs v v1 w.heap.size) (ho : Only (fun k => k = b ∨ v.ownBlock = some k) w wr)
    (hown : w1.ownsRow 0 5 1 v2 (bs.length + l.length) (bc bs ++ bc l))
    (hgrow : wr.grownBy w1 v1.ownBlock) (hat : v2.ownBlock = v1.ownBlock ∨ v2.ownBlock = some wr.heap.size) :
    Wrote b v (bs ++ l) w (w1.setCell ⟨b, 0, none⟩ v2) := by
  have hb1 : w1.heap[b]? = some (.cells #[v1] 28 (0, 0)) := by
    rw [hgrow.block b hw.lt (fun e => hw.ne e.symm)]; exact hw.blk
  have hv1 : ∀ k, v1.ownBlock = some k → (k = b ∨ v.ownBlock = some k) ∨ w.heap.size ≤ k := by
    intro k hk
    rcases hf with e | ⟨g', e, hg⟩
    · left; right; rw [← e]; exact hk
    · right; rw [e] at hk; simp at hk; omega
  refine ⟨_, Wr.put (bs := bs ++ l) hb1 (by rw [bc_append, List.length_append]; exact hown), ?_, ?_⟩
  · rcases hat with e | e
    · unfold Frs at *; rw [e]; exact hf
    · exact .inr ⟨_, e, ho.size⟩
  · exact (ho.grown hgrow hv1).setCell (.inl (.inl rfl)) _

theorem Wr.far' {b : Nat} {v : Value} {bs : List UInt8} {w w2 : World} (h : Wr b v bs w) (hg : w.grownBy w2 v.ownBlock) : w2.cell? ⟨b, 0, none⟩ = some v ∧ w2.frozen? ⟨b, 0, none⟩ = false := by
  have hl := h.lt
  refine ⟨?_, ?_⟩
  · rw [hg.cell_far _ hl (fun e => h.ne e.symm)]; exact h.cell
  · rw [hg.frozen_far _ hl (fun e => h.ne e.symm)]; exact h.frozen

set_option maxHeartbeats 1000000 in
set_option maxRecDepth 100000 in
theorem text_w (b : Nat) (v : Value) (bs : List UInt8) (s : ByteArray) (w : World) (h : Wr b v bs w) (hbig : bs.length ≤ 1000000000000) (hs : s.size ≤ 1000000000) :
    Calls Try.prog 13 #[.pointer (some ⟨b, 0, none⟩), .string s] w fun e w' => e = .returned (.tuple #[]) ∧ Wrote b v (bs ++ Wm.enc s.size ++ s.data.toList) w w' := by
  obtain ⟨i0, hi0, hz0, hz1, hz2⟩ := info_parts info5
  have HI0 := Lib.hid hi0; have HZ0 := Lib.hid hz0; have HZ1 := Lib.hid hz1; have HZ2 := Lib.hid hz2
  clear hi0 hz0 hz1 hz2
  have HW := Lib.hid h
  clear h
  have hsl : s.data.toList.length = s.size := by rw [Array.length_toList]; rfl
  have HSL := Lib.hid hsl
  clear hsl
  have hr : Wm.inR (s.size : Int) := by unfold Wm.inR; omega
  have hel := Wm.enc_length_le _ hr
  go_enter Try.func13, Try.ntmps13
  go_wp2_with fail
  refine (number_w b v bs s.size _ HW.out (by omega) hr).mono ?_
  rintro e w1 ⟨rfl, v1, hw1, hf1, ho1⟩
  have hcell := hw1.cell
  have hfr := hw1.frozen
  have HW1 := Lib.hid hw1
  clear hw1
  have hl1 : (bs ++ Wm.enc s.size).length ≤ 1000000000009 := by simp; omega
  generalize hb1 : bs ++ Wm.enc s.size = bs1 at HW1 hl1
  have HB1 := Lib.hid hb1
  clear hb1
  go_wp2_with (at_builtin; refine wpList_append_src _ rfl (.tmp 14) (.tmp 15) 24 9 rfl 0 5 i0 (.int .u8 0) 1 1 Try.underlying24 HI0.out HZ0.out HZ1.out HZ2.out rfl v1 bs1.length (bc bs1) rfl HW1.out.own (.string s) s.size (bc s.data.toList) rfl (Src.ofString w1 Try.underlying9 s) ?qa ?qb (Nat.zero_le _) ?_)
  case qa => unfold maxLen; omega
  case qb => omega
  intro v2 w2 hown hgrow hat
  obtain ⟨hc2, hf2⟩ := HW1.out.far' hgrow
  have hst : Hid (Wrote b v (bs1 ++ s.data.toList) w (w2.setCell ⟨b, 0, none⟩ v2)) := Wrote.app HW1.out hf1 ho1 (by rw [HSL.out]; exact hown) hgrow hat
  obtain ⟨la, ln, lc, hv2⟩ : ∃ a n c, v2 = Value.slice a n c := by
    rcases hown.2 with ⟨e, _⟩ | ⟨g, cap, cur, e, _⟩
    · exact ⟨_, _, _, e⟩
    · exact ⟨_, _, _, e⟩
  clear hown hgrow hat
  rw [hv2] at hst ⊢
  go_wp2
  go_end0
  exact ⟨rfl, by rw [HB1.out]; exact hst.out⟩

theorem Byt.form {v : Value} {l : List UInt8} {w : World} (h : Byt v l w) : ∃ a c, v = .slice a l.length c := by
  rcases h with ⟨rfl, rfl⟩ | ⟨g, off, cap, cs, t, fr, rfl, _⟩
  · exact ⟨_, _, rfl⟩
  · exact ⟨_, _, rfl⟩

set_option maxHeartbeats 1000000 in
set_option maxRecDepth 100000 in
theorem raw_w (b : Nat) (v : Value) (bs l : List UInt8) (x : Value) (w : World) (h : Wr b v bs w) (hx : Byt x l w) (hbig : bs.length ≤ 1000000000000) (hl : l.length ≤ 1000000000) :
    Calls Try.prog 12 #[.pointer (some ⟨b, 0, none⟩), x] w fun e w' => e = .returned (.tuple #[]) ∧ Wrote b v (bs ++ l) w w' := by
  obtain ⟨i0, hi0, hz0, hz1, hz2⟩ := info_parts info5
  have HI0 := Lib.hid hi0; have HZ0 := Lib.hid hz0; have HZ1 := Lib.hid hz1; have HZ2 := Lib.hid hz2
  clear hi0 hz0 hz1 hz2
  have hcell := h.cell
  have hfr := h.frozen
  have HW := Lib.hid h
  clear h
  have HX := Lib.hid hx
  clear hx
  go_enter Try.func12, Try.ntmps12
  go_wp2_with (at_builtin; refine wpList_append_src _ rfl (.tmp 10) (.tmp 11) 24 24 rfl 0 5 i0 (.int .u8 0) 1 1 Try.underlying24 HI0.out HZ0.out HZ1.out HZ2.out rfl v bs.length (bc bs) rfl HW.out.own x l.length (bc l) rfl HX.out.src ?qa ?qb (Nat.zero_le _) ?_)
  case qa => unfold maxLen; omega
  case qb => omega
  intro v2 w2 hown hgrow hat
  obtain ⟨hc2, hf2⟩ := HW.out.far' hgrow
  have hst : Hid (Wrote b v (bs ++ l) w (w2.setCell ⟨b, 0, none⟩ v2)) := Wrote.app HW.out (Frs.refl _ _) (Only.refl _ _) hown hgrow hat
  obtain ⟨la, ln, lc, hv2⟩ : ∃ a n c, v2 = Value.slice a n c := by
    rcases hown.2 with ⟨e, _⟩ | ⟨g, cap, cur, e, _⟩
    · exact ⟨_, _, _, e⟩
    · exact ⟨_, _, _, e⟩
  clear hown hgrow hat
  rw [hv2] at hst ⊢
  go_wp2
  go_end0
  exact ⟨rfl, hst.out⟩

theorem flag_w (b : Nat) (v : Value) (bs : List UInt8) (f : Bool) (w : World) (h : Wr b v bs w) (hbig : bs.length ≤ 1000000000000) :
    Calls Try.prog 10 #[.pointer (some ⟨b, 0, none⟩), .bool f] w fun e w' => e = .returned (.tuple #[]) ∧ Wrote b v (bs ++ Wm.enc (if f then 1 else 0)) w w' := by
  have HW := Lib.hid h
  clear h
  cases f
  · go_enter Try.func10, Try.ntmps10
    go_wp2_with fail
    refine (number_w b v bs 0 _ HW.out (by omega) (by unfold Wm.inR; omega)).mono ?_
    rintro e w1 ⟨rfl, hw⟩
    have H := Lib.hid hw
    clear hw
    go_wp2
    go_end0
    exact ⟨rfl, H.out⟩
  · go_enter Try.func10, Try.ntmps10
    go_wp2_with fail
    refine (number_w b v bs 1 _ HW.out (by omega) (by unfold Wm.inR; omega)).mono ?_
    rintro e w1 ⟨rfl, hw⟩
    have H := Lib.hid hw
    clear hw
    go_wp2
    go_end0
    exact ⟨rfl, H.out⟩

set_option maxHeartbeats 400000 in
theorem bytes_w (b : Nat) (v : Value) (bs : List UInt8) (w : World) (h : Wr b v bs w) (hbig : bs.length ≤ 1000000000000) :
    Calls Try.prog 15 #[.pointer (some ⟨b, 0, none⟩)] w (Cloned bs w) := by
  have hcell := h.cell
  have HB := Lib.hid (Byt.of_own h.own)
  clear h
  go_enter Try.func15, Try.ntmps15
  go_wp2_with fail
  refine (clone_any v bs _ HB.out (by omega)).mono ?_
  rintro e w1 ⟨v1, rfl, ho, hb⟩
  have HO := Lib.hid ho; have HB1 := Lib.hid hb
  clear ho hb
  go_wp2
  go_ret
  exact ⟨_, rfl, HO.out, HB1.out⟩

/-- A READER: block b holds it; st: what it has not consumed, none: it is bad. -/
structure Rd (b : Nat) (sv : Value) (st : Option (List UInt8)) (w : World) : Prop where
  blk : w.heap[b]? = some (.cells #[sv, .bool st.isNone] 54 (0, 0))
  byt : Byt sv (st.getD []) w

/-- what Read leaves -/
def ReadOf (l : List UInt8) (w : World) (e : Ending) (w' : World) : Prop :=
  ∃ b sv, e = .returned (.pointer (some ⟨b, 0, none⟩)) ∧ Rd b sv (some l) w' ∧ w.heap.size ≤ b ∧ (∀ g, sv.ownBlock = some g → w.heap.size ≤ g) ∧ Below w.heap.size w w'

set_option maxHeartbeats 400000 in
theorem read_any (x : Value) (l : List UInt8) (w : World) (hx : Byt x l w) (hl : l.length ≤ 1000000000000) :
    Calls Try.prog 16 #[x] w (ReadOf l w) := by
  have HX := Lib.hid hx
  clear hx
  go_enter Try.func16, Try.ntmps16
  go_wp2_with fail
  refine (clone_any x l _ HX.out (by omega)).mono ?_
  rintro e w1 ⟨v1, rfl, ho, hb⟩
  obtain ⟨la, lc, rfl⟩ := (Byt.of_own ho).form
  have HO := Lib.hid ho; have HB1 := Lib.hid hb
  have hsz := hb.size
  clear ho hb
  go_wp2
  go_ret
  refine ⟨w1.heap.size, _, rfl, ⟨heap_alloc_new w1 _, ?_⟩, hsz, ?_, ?_⟩
  · exact (Byt.of_own HO.out).keep (p := fun _ => False) ((Only.refl _ _).alloc _) (fun _ _ => id)
  · intro g hg; exact (HO.out.lt g hg).1
  · exact HB1.out.alloc hsz _

end Go.Proofs.Ytgpeombkdompdaa
