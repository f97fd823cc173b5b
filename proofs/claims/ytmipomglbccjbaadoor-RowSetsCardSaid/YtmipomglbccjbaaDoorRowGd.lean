/- Layer 11: writers and readers of one's own. -/
import Derived.Test.YtmipomglbccjbaaDoorRowGa
import Derived.Test.YtmipomglbccjbaaDoorRowGc
import Derived.Test.YtmipomglbccjbaaDoorWireFa
namespace Go.Proofs.YtmipomglbccjbaaDoor
open Go.RowKit

theorem only_of8 {w w' : World} (h : Below w.heap.size w w') : Only (fun _ => False) w w' := (Only.of_below h).mono (fun k hk e => absurd e (by show ¬ w.heap.size ≤ k; omega))
theorem cell_only8 {p : Nat → Prop} {w w' : World} (h : Only p w w') {q : Addr} (hl : q.block < w.heap.size) (hq : ¬ p q.block) : w'.cell? q = w.cell? q := World.cell?_of_block (h.block q.block hl hq)
theorem Fx.keepO {p : Nat → Prop} {g : Nat} {k n sc : Int} {s : ByteArray} {W W' : World} (h : Fx g k n sc s W) (ho : Only p W W') (hp : ¬ p g) : Fx g k n sc s W' := by
  have hb : W'.heap[g]? = W.heap[g]? := ho.block g h.bx.lt hp
  have hc : ∀ o, W'.cell? ⟨g, o, none⟩ = W.cell? ⟨g, o, none⟩ := fun o => World.cell?_of_block (a := ⟨g, o, none⟩) hb
  have hf : ∀ o, W'.frozen? ⟨g, o, none⟩ = W.frozen? ⟨g, o, none⟩ := fun o => World.frozen?_of_block (a := ⟨g, o, none⟩) hb
  exact ⟨⟨(hc 0).trans h.bx.c0, (hc 1).trans h.bx.c1, (hc 2).trans h.bx.c2, (hc 3).trans h.bx.c3, Nat.lt_of_lt_of_le h.bx.lt ho.size⟩, fun o => (hf o).trans (h.fz o)⟩
theorem info1u11 : (Tryd.prog.info? 5).map (fun i => (i.zero, i.size, i.bytes)) = some (some (.int .u8 0), 1, 1) := by kernel_rfl
/-- bytes of one's own, made since B -/
def Bo (B : Nat) (a : Option Addr) (n c : Nat) (l : List UInt8) (w : World) : Prop := n = l.length ∧ ∃ B', B ≤ B' ∧ w.ownsRow B' 5 1 (.slice a n c) n (bc l)
/-- A WRITER OF ONE'S OWN in the block b, made since B; it lies in the blocks F -/
structure Wo (B b : Nat) (bs : List UInt8) (F : Nat → Prop) (W w : World) : Prop where
  ex : ∃ v, Wr b v bs w ∧ ∀ k, F k ↔ k = b ∨ v.ownBlock = some k
  fb : ∀ k, F k → B ≤ k
  bel : Below B W w
/-- what a call leaves of it -/
structure Wod (B b : Nat) (bs : List UInt8) (F : Nat → Prop) (W w w' : World) : Prop where
  ex : ∃ F', Wo B b bs F' W w' ∧ ∀ k, F' k → F k ∨ w.heap.size ≤ k
  on : Only F w w'
theorem wo_new (W : World) {B : Nat} (hB : B ≤ W.heap.size) {W0 : World} (h : Below B W0 W) : Wo B W.heap.size [] (fun k => k = W.heap.size) W0 (W.alloc (.cells #[.slice none 0 0] 46)) :=
  ⟨⟨.slice none 0 0, ⟨heap_alloc_new W _, World.ownsRow_nil _ _ _ _⟩, fun k => by simp [Value.ownBlock]⟩, fun k h => by omega, h.alloc hB _⟩
section
variable {B b : Nat} {bs cs : List UInt8} {F : Nat → Prop} {W w w' : World}
theorem Wo.lt (h : Wo B b bs F W w) : ∀ k, F k → k < w.heap.size := fun k hk => by
  obtain ⟨v, h1, h2⟩ := h.ex
  rcases (h2 k).1 hk with rfl | hk
  · exact h1.lt
  · exact h1.ltv k hk
theorem Wo.fbb (h : Wo B b bs F W w) : F b := by obtain ⟨v, h1, h2⟩ := h.ex; exact (h2 b).2 (.inl rfl)
theorem Wo.sz (h : Wo B b bs F W w) : B ≤ w.heap.size := by have := h.fb b h.fbb; have := h.lt b h.fbb; omega
theorem Wo.wrote {v : Value} (h1 : ∀ k, F k ↔ k = b ∨ v.ownBlock = some k) (hf : ∀ k, F k → B ≤ k) (hw : Below B W w) (hB : B ≤ w.heap.size) (h : Wrote b v cs w w') : Wod B b cs F W w w' := by
  obtain ⟨v', g1, g2, g3⟩ := h
  have ho : Only F w w' := g3.mono (fun k _ e => (h1 k).2 e)
  have hF : ∀ k, (k = b ∨ v'.ownBlock = some k) → F k ∨ w.heap.size ≤ k := fun k hk => by
    rcases hk with rfl | hk
    · exact .inl ((h1 _).2 (.inl rfl))
    · rcases g2 with g2 | ⟨g, g2, g4⟩
      · exact .inl ((h1 k).2 (.inr (by rw [← g2]; exact hk)))
      · rw [g2] at hk; injection hk with hk; exact .inr (by omega)
  refine ⟨⟨fun k => k = b ∨ v'.ownBlock = some k, ⟨⟨v', g1, fun k => Iff.rfl⟩, fun k hk => ?_, hw.trans (ho.belowB hB (fun k hk hp => by have := hf k hp; omega))⟩, hF⟩, ho⟩
  rcases hF k hk with e | e
  · exact hf k e
  · omega
theorem Wo.keepO {p : Nat → Prop} (h : Wo B b bs F W w) (ho : Only p w w') (hp : ∀ k, F k → ¬ p k) (hp2 : ∀ k, p k → B ≤ k) : Wo B b bs F W w' := by
  obtain ⟨v, h1, h2⟩ := h.ex
  exact ⟨⟨v, h1.keep ho (fun e => hp b h.fbb e) (fun g hg e => hp g ((h2 g).2 (.inr hg)) e), h2⟩, h.fb, h.bel.trans (ho.belowB h.sz (fun k hk e => by have := hp2 k e; omega))⟩
theorem Wo.below (h : Wo B b bs F W w) (hb : Below w.heap.size w w') : Wo B b bs F W w' := h.keepO (p := fun _ => False) (only_of8 hb) (fun _ _ => id) (fun _ e => e.elim)
theorem Wo.alloc (h : Wo B b bs F W w) (o : Obj) : Wo B b bs F W (w.alloc o) := h.below (one_r _ _)
theorem wo_number (h : Wo B b bs F W w) (n : Int) (hn : Wm.inR n) (hl : bs.length ≤ 1000000000000) :
    Calls Tryd.prog 23 #[.pointer (some ⟨b, 0, none⟩), .int .i64 n] w fun e w' => e = .returned (.tuple #[]) ∧ Wod B b (bs ++ Wm.enc n) F W w w' := by
  obtain ⟨v, h1, h2⟩ := h.ex
  refine (number_w b v bs n w h1 (by omega) hn).mono ?_
  rintro e w' ⟨rfl, hw⟩
  exact ⟨rfl, Wo.wrote h2 h.fb h.bel h.sz hw⟩
theorem wo_text (h : Wo B b bs F W w) (l : List UInt8) (hs : l.length ≤ 1000000000) (hl : bs.length ≤ 1000000000000) :
    Calls Tryd.prog 45 #[.pointer (some ⟨b, 0, none⟩), .string (bstr l)] w fun e w' => e = .returned (.tuple #[]) ∧ Wod B b (bs ++ (Wm.enc (l.length : Nat) ++ l)) F W w w' := by
  obtain ⟨v, h1, h2⟩ := h.ex
  refine (text_w b v bs (bstr l) w h1 hl (by rw [bstr_size]; exact hs)).mono ?_
  rintro e w' ⟨rfl, hw⟩
  rw [bstr_size, bstr_data, List.append_assoc] at hw
  exact ⟨rfl, Wo.wrote h2 h.fb h.bel h.sz hw⟩
theorem wo_flag (h : Wo B b bs F W w) (f : Bool) (hl : bs.length ≤ 1000000000000) :
    Calls Tryd.prog 44 #[.pointer (some ⟨b, 0, none⟩), .bool f] w fun e w' => e = .returned (.tuple #[]) ∧ Wod B b (bs ++ Wm.enc (if f then 1 else 0)) F W w w' := by
  obtain ⟨v, h1, h2⟩ := h.ex
  refine (flag_w b v bs f w h1 hl).mono ?_
  rintro e w' ⟨rfl, hw⟩
  exact ⟨rfl, Wo.wrote h2 h.fb h.bel h.sz hw⟩
theorem wo_bytes (h : Wo B b bs F W w) (hl : bs.length ≤ 1000000000000) :
    Calls Tryd.prog 25 #[.pointer (some ⟨b, 0, none⟩)] w fun e w' => ∃ a n c, e = .returned (.slice a n c) ∧ Hid (Bo B a n c bs w') ∧ Below B W w' := by
  obtain ⟨v, h1, h2⟩ := h.ex
  refine (bytes_w b v bs w h1 hl).mono ?_
  rintro e w' ⟨v2, rfl, ho, hb⟩
  obtain ⟨a, c, rfl⟩ := (Byt.of_own ho).form
  exact ⟨a, _, c, rfl, ⟨rfl, _, h.sz, ho⟩, h.bel.trans (hb.mono h.sz)⟩
end
theorem Yt.len11 {a : Option Addr} {n c : Nat} {l : List UInt8} {w : World} (h : Yt (.slice a n c) l w) : n = l.length := by
  obtain ⟨a2, c2, e⟩ := h.form
  injection e
set_option maxHeartbeats 1000000 in
set_option maxRecDepth 100000 in
theorem clone_yt {a : Option Addr} {n c : Nat} {l : List UInt8} {w : World} (h : Yt (.slice a n c) l w) (hbig : n ≤ 1000000000000) :
    Calls Tryd.prog 46 #[.slice a n c] w (Cloned l w) := by
  have hn := h.len11
  cases a with
  | none =>
    obtain rfl : l = [] := by
      rcases h with ⟨_, _, e, e2⟩ | ⟨g, off, cap, e, _⟩
      · exact e2
      · injection e with e _ _; cases e
    obtain rfl : n = 0 := hn
    have hnil : ∀ (wx : World), (binOp .eql 25 (.slice none 0 c) (.slice none 0 0)).run Tryd.prog wx = .ok (.bool true) wx := fun wx => Lib.run_eql_slice_nil wx _ _ _ 0 c 0 0 Tryd.underlying25
    go_enter Tryd.func46, Tryd.ntmps46
    go_wp2
    go_ret
    exact ⟨_, rfl, World.ownsRow_nil _ _ _ _, Below.refl _ _⟩
  | some a =>
    obtain ⟨i0, hi0, hz0, hz1, hz2⟩ := info_of11 info1u11
    have hnil : ∀ (wx : World), (binOp .eql 25 (.slice (some a) n c) (.slice none 0 0)).run Tryd.prog wx = .ok (.bool false) wx := fun wx => Lib.run_eql_slice_nil wx _ _ _ n c 0 0 Tryd.underlying25
    have hsrc := (h.keep (one_r w (.cells #[] 5))).src
    rw [← hn] at hsrc
    have HS := Lib.hid hsrc
    have HN := Lib.hid hn
    have HI0 := Lib.hid hi0; have HZ0 := Lib.hid hz0; have HZ1 := Lib.hid hz1; have HZ2 := Lib.hid hz2
    clear h hsrc hn hi0 hz0 hz1 hz2
    go_enter Tryd.func46, Tryd.ntmps46
    go_wp2_with (at_builtin; refine wpList_append_src _ rfl _ _ 25 25 rfl w.heap.size 5 i0 (.int .u8 0) 1 1 Tryd.underlying25 HI0.out HZ0.out HZ1.out HZ2.out rfl _ 0 [] rfl (World.ownsRow_made w #[] 0 (Nat.le_refl _) (Nat.zero_le _) rfl) _ n (yc l) rfl HS.out ?ca ?cb ?cc ?_)
    case ca => unfold maxLen; omega
    case cb => omega
    case cc => simp
    intro v' w1 hown hgrow _
    have hB : Below w.heap.size w w1 := ((Below.refl _ w).alloc (Nat.le_refl _) _).grown hgrow (by simp) (fun k hk => by simp [Value.ownBlock] at hk; omega)
    go_wp2
    go_ret
    exact ⟨v', rfl, by rw [← HN.out]; exact hown, hB⟩
/-- A READER OF ONE'S OWN in the block b, made since B; it lies in the blocks F -/
structure Ro (B b : Nat) (st : Option (List UInt8)) (F : Nat → Prop) (W w : World) : Prop where
  ex : ∃ sv, Rd b sv st w ∧ ∀ k, (k = b ∨ sv.ownBlock = some k) → F k
  fb : ∀ k, F k → B ≤ k
  fl : ∀ k, F k → k < w.heap.size
  bel : Below B W w
/-- what a call leaves of it -/
structure Rod (B b : Nat) (st : Option (List UInt8)) (F : Nat → Prop) (W w w' : World) : Prop where
  ro : Ro B b st F W w'
  on : Only (fun k => k = b) w w'
section
variable {B b : Nat} {st : Option (List UInt8)} {F : Nat → Prop} {W w w' : World}
theorem Ro.fbb (h : Ro B b st F W w) : F b := by obtain ⟨v, h1, h2⟩ := h.ex; exact h2 b (.inl rfl)
theorem Ro.sz (h : Ro B b st F W w) : B ≤ w.heap.size := by have := h.fb b h.fbb; have := h.fl b h.fbb; omega
theorem Ro.red {sv : Value} {st' : Option (List UInt8)} (h2 : ∀ k, (k = b ∨ sv.ownBlock = some k) → F k) (h : Ro B b st F W w) (hr : Red b sv st' w w') : Rod B b st' F W w w' := by
  obtain ⟨sv', g1, g2, g3⟩ := hr
  refine ⟨⟨⟨sv', g1, fun k hk => ?_⟩, h.fb, fun k hk => Nat.lt_of_lt_of_le (h.fl k hk) g3.size, h.bel.trans (g3.belowB h.sz (fun k hk e => by have := h.fb k (e ▸ h.fbb); omega))⟩, g3⟩
  rcases hk with rfl | hk
  · exact h.fbb
  · rcases g2 with g2 | g2
    · rw [g2] at hk; cases hk
    · exact h2 k (.inr (by rw [← g2]; exact hk))
theorem Ro.keepO {p : Nat → Prop} (h : Ro B b st F W w) (ho : Only p w w') (hp : ∀ k, F k → ¬ p k) (hp2 : ∀ k, p k → B ≤ k) : Ro B b st F W w' := by
  obtain ⟨v, h1, h2⟩ := h.ex
  exact ⟨⟨v, h1.keep ho (fun e => hp b h.fbb e) (fun g hg e => hp g (h2 g (.inr hg)) e), h2⟩, h.fb, fun k hk => Nat.lt_of_lt_of_le (h.fl k hk) ho.size, h.bel.trans (ho.belowB h.sz (fun k hk e => by have := hp2 k e; omega))⟩
theorem Ro.below (h : Ro B b st F W w) (hb : Below w.heap.size w w') : Ro B b st F W w' := h.keepO (p := fun _ => False) (only_of8 hb) (fun _ _ => id) (fun _ e => e.elim)
theorem ro_count (h : Ro B b st F W w) (most : Int) (hl : (st.getD []).length ≤ 1000000000000) :
    Calls Tryd.prog 29 #[.pointer (some ⟨b, 0, none⟩), .int .i64 most] w fun e w' => e = .returned (.int .i64 (btw 0 most st).1) ∧ Rod B b (btw 0 most st).2 F W w w' := by
  obtain ⟨v, h1, h2⟩ := h.ex
  refine (count_r b v st most w h1 hl).mono ?_
  rintro e w' ⟨rfl, hw⟩
  exact ⟨rfl, Ro.red h2 h hw⟩
theorem ro_number (h : Ro B b st F W w) (hl : (st.getD []).length ≤ 1000000000000) :
    Calls Tryd.prog 31 #[.pointer (some ⟨b, 0, none⟩)] w fun e w' => e = .returned (.int .i64 (Rm.bf st).1) ∧ Rod B b (Rm.bf st).2 F W w w' := by
  obtain ⟨v, h1, h2⟩ := h.ex
  refine (number_r b v st w h1 hl).mono ?_
  rintro e w' ⟨rfl, hw⟩
  exact ⟨rfl, Ro.red h2 h hw⟩
theorem ro_ok (h : Ro B b st F W w) :
    Calls Tryd.prog 30 #[.pointer (some ⟨b, 0, none⟩)] w fun e w' => e = .returned (.bool st.isSome) ∧ w = w' := by
  obtain ⟨v, h1, h2⟩ := h.ex
  exact ok_r b v st w h1
theorem ro_flag (h : Ro B b st F W w) (hl : (st.getD []).length ≤ 1000000000000) :
    Calls Tryd.prog 51 #[.pointer (some ⟨b, 0, none⟩)] w fun e w' => e = .returned (.bool ((btw 0 1 st).1 == 1)) ∧ Rod B b (btw 0 1 st).2 F W w w' := by
  obtain ⟨v, h1, h2⟩ := h.ex
  refine (flag_r b v st w h1 hl).mono ?_
  rintro e w' ⟨rfl, hw⟩
  exact ⟨rfl, Ro.red h2 h hw⟩
theorem ro_text (h : Ro B b st F W w) (hl : (st.getD []).length ≤ 1000000000000) :
    Calls Tryd.prog 52 #[.pointer (some ⟨b, 0, none⟩)] w fun e w' => e = .returned (.string (bstr (rtext st).1)) ∧ Rod B b (rtext st).2 F W w w' := by
  obtain ⟨v, h1, h2⟩ := h.ex
  refine (text_r b v st w h1 hl).mono ?_
  rintro e w' ⟨rfl, hw⟩
  exact ⟨rfl, Ro.red h2 h hw⟩
theorem ro_end (h : Ro B b st F W w) :
    Calls Tryd.prog 33 #[.pointer (some ⟨b, 0, none⟩)] w fun e w' => e = .returned (.bool (st.isSome && (st.getD []).isEmpty)) ∧ w = w' := by
  obtain ⟨v, h1, h2⟩ := h.ex
  exact end_r b v st w h1
end
theorem ro_read {a : Option Addr} {n c : Nat} {l : List UInt8} {w : World} (h : Yt (.slice a n c) l w) (hbig : n ≤ 1000000000000) :
    Calls Tryd.prog 28 #[.slice a n c] w fun e w' => ∃ b F, e = .returned (.pointer (some ⟨b, 0, none⟩)) ∧ Hid (Ro w.heap.size b (some l) F w w') := by
  have HC := Lib.hid (clone_yt h hbig)
  clear h
  go_enter Tryd.func28, Tryd.ntmps28
  go_wp2_with fail
  refine HC.out.mono ?_
  rintro e w1 ⟨v1, rfl, ho, hb⟩
  obtain ⟨la, lc, rfl⟩ := (Byt.of_own ho).form
  have HO := Lib.hid ho; have HB1 := Lib.hid hb
  clear ho hb
  go_wp2
  go_ret
  refine ⟨w1.heap.size, fun k => k = w1.heap.size ∨ (Value.slice la l.length lc).ownBlock = some k, rfl, ⟨⟨_, ⟨heap_alloc_new w1 _, ?_⟩, fun k hk => hk⟩, fun k hk => ?_, fun k hk => ?_, ?_⟩⟩
  · exact (Byt.of_own HO.out).keep (p := fun _ => False) ((Only.refl _ _).alloc _) (fun _ _ => id)
  · have := HB1.out.size
    rcases hk with hk | hk
    · omega
    · exact (HO.out.lt k hk).1
  · rcases hk with hk | hk
    · simp; omega
    · have := (HO.out.lt k hk).2
      simp; omega
  · exact HB1.out.alloc HB1.out.size _
end Go.Proofs.YtmipomglbccjbaaDoor
/- Package row: writeValue, Put. -/
namespace Go.Proofs.YtmipomglbccjbaaDoor
open Go.RowKit

theorem tx_bstr (s : ByteArray) : Wm.enc (s.data.toList.length : Nat) ++ s.data.toList = tx s := by unfold tx; rw [dataLen]
set_option maxHeartbeats 2000000 in
set_option maxRecDepth 100000 in
theorem wv_10 {B b : Nat} {bs : List UInt8} {F : Nat → Prop} {W w : World}  (h : Wo B b bs F W w)  (hl : bs.length ≤ 1000000000) :
    Calls Tryd.prog 24 #[.pointer (some ⟨b, 0, none⟩), .agg #[.int .i64 1, .int .i64 0, .int .i64 0, .string ⟨#[]⟩]] w fun e w' => e = .returned (.tuple #[]) ∧ ∃ F', Wo B b (bs ++ Rm.valB ⟨1, 0, 0, ⟨#[]⟩⟩) F' W w' := by
  obtain ⟨W1, hW1⟩ : ∃ W1, W1 = w.alloc (.cells #[.int .i64 1, .int .i64 0, .int .i64 0, .string ⟨#[]⟩] 36) := ⟨_, rfl⟩
  obtain ⟨q, hq⟩ : ∃ q, q = w.heap.size := ⟨_, rfl⟩
  have HX : Hid (Fx q 1 0 0 ⟨#[]⟩ W1) := by show Fx _ _ _ _ _ _; rw [hW1, hq]; exact Fx.new w _ _ _ _ _
  have HW : Hid (Wo B b bs F W W1) := by show Wo _ _ _ _ _ _; rw [hW1]; exact h.alloc _
  have HFQ : Hid (¬ F q) := fun e => by have := h.lt q e; omega
  have HQ : Hid (W1 = w.alloc (.cells #[.int .i64 1, .int .i64 0, .int .i64 0, .string ⟨#[]⟩] 36) ∧ q = w.heap.size) := ⟨hW1, hq⟩
  have x0 := HX.out.bx.c0; have x1 := HX.out.bx.c1; have x2 := HX.out.bx.c2; have x3 := HX.out.bx.c3
  have HV : Hid (Rm.valB ⟨1, 0, 0, ⟨#[]⟩⟩ = Wm.enc 1 ++ Wm.enc 0) := by
    show _ = _
    unfold Rm.valB; rw [if_pos (.inl rfl)]
  clear h hW1 hq
  go_enter Tryd.func24, Tryd.ntmps24
  go_wp2_with (rw [← HQ.out.1, ← HQ.out.2])
  refine (wo_number HW.out 1 (by unfold Wm.inR; omega) (by omega)).mono ?_
  rintro e w1 ⟨rfl, hw⟩
  obtain ⟨⟨F1, hw1, hF1⟩, ho1⟩ := hw
  have HX1 := Lib.hid (HX.out.keepO ho1 HFQ.out)
  have HFQ1 : Hid (¬ F1 q) := fun e => by
    rcases hF1 q e with e | e
    · exact HFQ.out e
    · have := HX.out.bx.lt; omega
  have HW1 := Lib.hid hw1
  have hb1 : (bs ++ Wm.enc 1).length ≤ 1000000009 := by
    have := Wm.enc_length_le 1 (by unfold Wm.inR; omega)
    rw [List.length_append]; omega
  clear hw1 hF1 ho1 HX HW HFQ x0 x1 x2 x3
  have x0 := HX1.out.bx.c0; have x1 := HX1.out.bx.c1; have x2 := HX1.out.bx.c2; have x3 := HX1.out.bx.c3
  go_wp2_with fail
  refine (wo_flag HW1.out false (by omega)).mono ?_
  rintro e w2 ⟨rfl, hw⟩
  obtain ⟨⟨F2, hw2, -⟩, -⟩ := hw
  have HW2 := Lib.hid hw2
  clear hw2 HX1 HFQ1 HW1
  go_wp2
  refine bodyPost_end (results_none rfl _ _ _) rfl ?_
  exact ⟨rfl, _, by rw [HV.out]; rw [← List.append_assoc]; exact HW2.out⟩
set_option maxHeartbeats 2000000 in
set_option maxRecDepth 100000 in
theorem wv_11 {B b : Nat} {bs : List UInt8} {F : Nat → Prop} {W w : World}  (h : Wo B b bs F W w)  (hl : bs.length ≤ 1000000000) :
    Calls Tryd.prog 24 #[.pointer (some ⟨b, 0, none⟩), .agg #[.int .i64 1, .int .i64 1, .int .i64 0, .string ⟨#[]⟩]] w fun e w' => e = .returned (.tuple #[]) ∧ ∃ F', Wo B b (bs ++ Rm.valB ⟨1, 1, 0, ⟨#[]⟩⟩) F' W w' := by
  obtain ⟨W1, hW1⟩ : ∃ W1, W1 = w.alloc (.cells #[.int .i64 1, .int .i64 1, .int .i64 0, .string ⟨#[]⟩] 36) := ⟨_, rfl⟩
  obtain ⟨q, hq⟩ : ∃ q, q = w.heap.size := ⟨_, rfl⟩
  have HX : Hid (Fx q 1 1 0 ⟨#[]⟩ W1) := by show Fx _ _ _ _ _ _; rw [hW1, hq]; exact Fx.new w _ _ _ _ _
  have HW : Hid (Wo B b bs F W W1) := by show Wo _ _ _ _ _ _; rw [hW1]; exact h.alloc _
  have HFQ : Hid (¬ F q) := fun e => by have := h.lt q e; omega
  have HQ : Hid (W1 = w.alloc (.cells #[.int .i64 1, .int .i64 1, .int .i64 0, .string ⟨#[]⟩] 36) ∧ q = w.heap.size) := ⟨hW1, hq⟩
  have x0 := HX.out.bx.c0; have x1 := HX.out.bx.c1; have x2 := HX.out.bx.c2; have x3 := HX.out.bx.c3
  have HV : Hid (Rm.valB ⟨1, 1, 0, ⟨#[]⟩⟩ = Wm.enc 1 ++ Wm.enc 1) := by
    show _ = _
    unfold Rm.valB; rw [if_pos (.inl rfl)]
  clear h hW1 hq
  go_enter Tryd.func24, Tryd.ntmps24
  go_wp2_with (rw [← HQ.out.1, ← HQ.out.2])
  refine (wo_number HW.out 1 (by unfold Wm.inR; omega) (by omega)).mono ?_
  rintro e w1 ⟨rfl, hw⟩
  obtain ⟨⟨F1, hw1, hF1⟩, ho1⟩ := hw
  have HX1 := Lib.hid (HX.out.keepO ho1 HFQ.out)
  have HFQ1 : Hid (¬ F1 q) := fun e => by
    rcases hF1 q e with e | e
    · exact HFQ.out e
    · have := HX.out.bx.lt; omega
  have HW1 := Lib.hid hw1
  have hb1 : (bs ++ Wm.enc 1).length ≤ 1000000009 := by
    have := Wm.enc_length_le 1 (by unfold Wm.inR; omega)
    rw [List.length_append]; omega
  clear hw1 hF1 ho1 HX HW HFQ x0 x1 x2 x3
  have x0 := HX1.out.bx.c0; have x1 := HX1.out.bx.c1; have x2 := HX1.out.bx.c2; have x3 := HX1.out.bx.c3
  go_wp2_with fail
  refine (wo_flag HW1.out true (by omega)).mono ?_
  rintro e w2 ⟨rfl, hw⟩
  obtain ⟨⟨F2, hw2, -⟩, -⟩ := hw
  have HW2 := Lib.hid hw2
  clear hw2 HX1 HFQ1 HW1
  go_wp2
  refine bodyPost_end (results_none rfl _ _ _) rfl ?_
  exact ⟨rfl, _, by rw [HV.out]; rw [← List.append_assoc]; exact HW2.out⟩
set_option maxHeartbeats 2000000 in
set_option maxRecDepth 100000 in
theorem wv_2 {B b : Nat} {bs : List UInt8} {F : Nat → Prop} {W w : World} (n : Int) (h : Wo B b bs F W w) (hn : Wm.inR n) (hl : bs.length ≤ 1000000000) :
    Calls Tryd.prog 24 #[.pointer (some ⟨b, 0, none⟩), .agg #[.int .i64 2, .int .i64 n, .int .i64 0, .string ⟨#[]⟩]] w fun e w' => e = .returned (.tuple #[]) ∧ ∃ F', Wo B b (bs ++ Rm.valB ⟨2, n, 0, ⟨#[]⟩⟩) F' W w' := by
  obtain ⟨W1, hW1⟩ : ∃ W1, W1 = w.alloc (.cells #[.int .i64 2, .int .i64 n, .int .i64 0, .string ⟨#[]⟩] 36) := ⟨_, rfl⟩
  obtain ⟨q, hq⟩ : ∃ q, q = w.heap.size := ⟨_, rfl⟩
  have HX : Hid (Fx q 2 n 0 ⟨#[]⟩ W1) := by show Fx _ _ _ _ _ _; rw [hW1, hq]; exact Fx.new w _ _ _ _ _
  have HW : Hid (Wo B b bs F W W1) := by show Wo _ _ _ _ _ _; rw [hW1]; exact h.alloc _
  have HFQ : Hid (¬ F q) := fun e => by have := h.lt q e; omega
  have HQ : Hid (W1 = w.alloc (.cells #[.int .i64 2, .int .i64 n, .int .i64 0, .string ⟨#[]⟩] 36) ∧ q = w.heap.size) := ⟨hW1, hq⟩
  have x0 := HX.out.bx.c0; have x1 := HX.out.bx.c1; have x2 := HX.out.bx.c2; have x3 := HX.out.bx.c3
  have HV : Hid (Rm.valB ⟨2, n, 0, ⟨#[]⟩⟩ = Wm.enc 2 ++ Wm.enc n) := by
    show _ = _
    unfold Rm.valB; rw [if_pos (.inr rfl)]
  clear h hW1 hq
  go_enter Tryd.func24, Tryd.ntmps24
  go_wp2_with (rw [← HQ.out.1, ← HQ.out.2])
  refine (wo_number HW.out 2 (by unfold Wm.inR; omega) (by omega)).mono ?_
  rintro e w1 ⟨rfl, hw⟩
  obtain ⟨⟨F1, hw1, hF1⟩, ho1⟩ := hw
  have HX1 := Lib.hid (HX.out.keepO ho1 HFQ.out)
  have HFQ1 : Hid (¬ F1 q) := fun e => by
    rcases hF1 q e with e | e
    · exact HFQ.out e
    · have := HX.out.bx.lt; omega
  have HW1 := Lib.hid hw1
  have hb1 : (bs ++ Wm.enc 2).length ≤ 1000000009 := by
    have := Wm.enc_length_le 2 (by unfold Wm.inR; omega)
    rw [List.length_append]; omega
  clear hw1 hF1 ho1 HX HW HFQ x0 x1 x2 x3
  have x0 := HX1.out.bx.c0; have x1 := HX1.out.bx.c1; have x2 := HX1.out.bx.c2; have x3 := HX1.out.bx.c3
  go_wp2_with fail
  refine (wo_number HW1.out n hn (by omega)).mono ?_
  rintro e w2 ⟨rfl, hw⟩
  obtain ⟨⟨F2, hw2, -⟩, -⟩ := hw
  have HW2 := Lib.hid hw2
  clear hw2 HX1 HFQ1 HW1
  go_wp2
  refine bodyPost_end (results_none rfl _ _ _) rfl ?_
  exact ⟨rfl, _, by rw [HV.out]; rw [← List.append_assoc]; exact HW2.out⟩
set_option maxHeartbeats 2000000 in
set_option maxRecDepth 100000 in
theorem wv_3 {B b : Nat} {bs : List UInt8} {F : Nat → Prop} {W w : World} (n sc : Int) (h : Wo B b bs F W w) (hn : Wm.inR n) (hsc : Wm.inR sc) (hl : bs.length ≤ 1000000000) :
    Calls Tryd.prog 24 #[.pointer (some ⟨b, 0, none⟩), .agg #[.int .i64 3, .int .i64 n, .int .i64 sc, .string ⟨#[]⟩]] w fun e w' => e = .returned (.tuple #[]) ∧ ∃ F', Wo B b (bs ++ Rm.valB ⟨3, n, sc, ⟨#[]⟩⟩) F' W w' := by
  obtain ⟨W1, hW1⟩ : ∃ W1, W1 = w.alloc (.cells #[.int .i64 3, .int .i64 n, .int .i64 sc, .string ⟨#[]⟩] 36) := ⟨_, rfl⟩
  obtain ⟨q, hq⟩ : ∃ q, q = w.heap.size := ⟨_, rfl⟩
  have HX : Hid (Fx q 3 n sc ⟨#[]⟩ W1) := by show Fx _ _ _ _ _ _; rw [hW1, hq]; exact Fx.new w _ _ _ _ _
  have HW : Hid (Wo B b bs F W W1) := by show Wo _ _ _ _ _ _; rw [hW1]; exact h.alloc _
  have HFQ : Hid (¬ F q) := fun e => by have := h.lt q e; omega
  have HQ : Hid (W1 = w.alloc (.cells #[.int .i64 3, .int .i64 n, .int .i64 sc, .string ⟨#[]⟩] 36) ∧ q = w.heap.size) := ⟨hW1, hq⟩
  have x0 := HX.out.bx.c0; have x1 := HX.out.bx.c1; have x2 := HX.out.bx.c2; have x3 := HX.out.bx.c3
  have HV : Hid (Rm.valB ⟨3, n, sc, ⟨#[]⟩⟩ = Wm.enc 3 ++ (Wm.enc sc ++ Wm.enc n)) := by
    show _ = _
    unfold Rm.valB; rw [if_neg (by simp), if_pos rfl]
  clear h hW1 hq
  go_enter Tryd.func24, Tryd.ntmps24
  go_wp2_with (rw [← HQ.out.1, ← HQ.out.2])
  refine (wo_number HW.out 3 (by unfold Wm.inR; omega) (by omega)).mono ?_
  rintro e w1 ⟨rfl, hw⟩
  obtain ⟨⟨F1, hw1, hF1⟩, ho1⟩ := hw
  have HX1 := Lib.hid (HX.out.keepO ho1 HFQ.out)
  have HFQ1 : Hid (¬ F1 q) := fun e => by
    rcases hF1 q e with e | e
    · exact HFQ.out e
    · have := HX.out.bx.lt; omega
  have HW1 := Lib.hid hw1
  have hb1 : (bs ++ Wm.enc 3).length ≤ 1000000009 := by
    have := Wm.enc_length_le 3 (by unfold Wm.inR; omega)
    rw [List.length_append]; omega
  clear hw1 hF1 ho1 HX HW HFQ x0 x1 x2 x3
  have x0 := HX1.out.bx.c0; have x1 := HX1.out.bx.c1; have x2 := HX1.out.bx.c2; have x3 := HX1.out.bx.c3
  go_wp2_with fail
  refine (wo_number HW1.out sc hsc (by omega)).mono ?_
  rintro e w2 ⟨rfl, hw⟩
  obtain ⟨⟨F2, hw2, hF2⟩, ho2⟩ := hw
  have HX2 := Lib.hid (HX1.out.keepO ho2 HFQ1.out)
  have HW2 := Lib.hid hw2
  have hb2 : (bs ++ Wm.enc 3 ++ Wm.enc sc).length ≤ 1000000018 := by
    have := Wm.enc_length_le sc hsc
    rw [List.length_append]; omega
  clear hw2 hF2 ho2 HX1 HFQ1 HW1 x0 x1 x2 x3
  have x0 := HX2.out.bx.c0; have x1 := HX2.out.bx.c1; have x2 := HX2.out.bx.c2; have x3 := HX2.out.bx.c3
  go_wp2_with fail
  refine (wo_number HW2.out n hn (by omega)).mono ?_
  rintro e w3 ⟨rfl, hw⟩
  obtain ⟨⟨F3, hw3, -⟩, -⟩ := hw
  have HW3 := Lib.hid hw3
  clear hw3 HX2 HW2
  go_wp2
  refine bodyPost_end (results_none rfl _ _ _) rfl ?_
  exact ⟨rfl, _, by rw [HV.out]; rw [← List.append_assoc, ← List.append_assoc]; exact HW3.out⟩
set_option maxHeartbeats 2000000 in
set_option maxRecDepth 100000 in
theorem wv_4 {B b : Nat} {bs : List UInt8} {F : Nat → Prop} {W w : World} (s : ByteArray) (h : Wo B b bs F W w) (hs : s.size ≤ 200) (hl : bs.length ≤ 1000000000) :
    Calls Tryd.prog 24 #[.pointer (some ⟨b, 0, none⟩), .agg #[.int .i64 4, .int .i64 0, .int .i64 0, .string s]] w fun e w' => e = .returned (.tuple #[]) ∧ ∃ F', Wo B b (bs ++ Rm.valB ⟨4, 0, 0, s⟩) F' W w' := by
  obtain ⟨W1, hW1⟩ : ∃ W1, W1 = w.alloc (.cells #[.int .i64 4, .int .i64 0, .int .i64 0, .string s] 36) := ⟨_, rfl⟩
  obtain ⟨q, hq⟩ : ∃ q, q = w.heap.size := ⟨_, rfl⟩
  have HX : Hid (Fx q 4 0 0 s W1) := by show Fx _ _ _ _ _ _; rw [hW1, hq]; exact Fx.new w _ _ _ _ _
  have HW : Hid (Wo B b bs F W W1) := by show Wo _ _ _ _ _ _; rw [hW1]; exact h.alloc _
  have HFQ : Hid (¬ F q) := fun e => by have := h.lt q e; omega
  have HQ : Hid (W1 = w.alloc (.cells #[.int .i64 4, .int .i64 0, .int .i64 0, .string s] 36) ∧ q = w.heap.size) := ⟨hW1, hq⟩
  have x0 := HX.out.bx.c0; have x1 := HX.out.bx.c1; have x2 := HX.out.bx.c2; have x3 := HX.out.bx.c3
  have HV : Hid (Rm.valB ⟨4, 0, 0, s⟩ = Wm.enc 4 ++ tx s) := by
    show _ = _
    unfold Rm.valB; rw [if_neg (by dsimp only; omega), if_neg (by dsimp only; omega)]
  clear h hW1 hq
  go_enter Tryd.func24, Tryd.ntmps24
  go_wp2_with (rw [← HQ.out.1, ← HQ.out.2])
  refine (wo_number HW.out 4 (by unfold Wm.inR; omega) (by omega)).mono ?_
  rintro e w1 ⟨rfl, hw⟩
  obtain ⟨⟨F1, hw1, hF1⟩, ho1⟩ := hw
  have HX1 := Lib.hid (HX.out.keepO ho1 HFQ.out)
  have HFQ1 : Hid (¬ F1 q) := fun e => by
    rcases hF1 q e with e | e
    · exact HFQ.out e
    · have := HX.out.bx.lt; omega
  have HW1 := Lib.hid hw1
  have hb1 : (bs ++ Wm.enc 4).length ≤ 1000000009 := by
    have := Wm.enc_length_le 4 (by unfold Wm.inR; omega)
    rw [List.length_append]; omega
  clear hw1 hF1 ho1 HX HW HFQ x0 x1 x2 x3
  have x0 := HX1.out.bx.c0; have x1 := HX1.out.bx.c1; have x2 := HX1.out.bx.c2; have x3 := HX1.out.bx.c3
  have HT : Hid (Calls Tryd.prog 45 #[.pointer (some ⟨b, 0, none⟩), .string s] w1 fun e w' => e = .returned (.tuple #[]) ∧ Wod B b (bs ++ Wm.enc 4 ++ tx s) F1 W w1 w') := by
    have := wo_text HW1.out s.data.toList (by rw [dataLen]; omega) (by omega)
    rw [Rm.bstr_toList, tx_bstr] at this
    exact this
  go_wp2_with fail
  refine HT.out.mono ?_
  rintro e w2 ⟨rfl, hw⟩
  obtain ⟨⟨F2, hw2, -⟩, -⟩ := hw
  have HW2 := Lib.hid hw2
  clear hw2 HX1 HFQ1 HW1 HT
  go_wp2
  refine bodyPost_end (results_none rfl _ _ _) rfl ?_
  exact ⟨rfl, _, by rw [HV.out]; rw [← List.append_assoc]; exact HW2.out⟩
set_option maxHeartbeats 2000000 in
set_option maxRecDepth 100000 in
theorem wv_5 {B b : Nat} {bs : List UInt8} {F : Nat → Prop} {W w : World} (s : ByteArray) (h : Wo B b bs F W w) (hs : s.size ≤ 200) (hl : bs.length ≤ 1000000000) :
    Calls Tryd.prog 24 #[.pointer (some ⟨b, 0, none⟩), .agg #[.int .i64 5, .int .i64 0, .int .i64 0, .string s]] w fun e w' => e = .returned (.tuple #[]) ∧ ∃ F', Wo B b (bs ++ Rm.valB ⟨5, 0, 0, s⟩) F' W w' := by
  obtain ⟨W1, hW1⟩ : ∃ W1, W1 = w.alloc (.cells #[.int .i64 5, .int .i64 0, .int .i64 0, .string s] 36) := ⟨_, rfl⟩
  obtain ⟨q, hq⟩ : ∃ q, q = w.heap.size := ⟨_, rfl⟩
  have HX : Hid (Fx q 5 0 0 s W1) := by show Fx _ _ _ _ _ _; rw [hW1, hq]; exact Fx.new w _ _ _ _ _
  have HW : Hid (Wo B b bs F W W1) := by show Wo _ _ _ _ _ _; rw [hW1]; exact h.alloc _
  have HFQ : Hid (¬ F q) := fun e => by have := h.lt q e; omega
  have HQ : Hid (W1 = w.alloc (.cells #[.int .i64 5, .int .i64 0, .int .i64 0, .string s] 36) ∧ q = w.heap.size) := ⟨hW1, hq⟩
  have x0 := HX.out.bx.c0; have x1 := HX.out.bx.c1; have x2 := HX.out.bx.c2; have x3 := HX.out.bx.c3
  have HV : Hid (Rm.valB ⟨5, 0, 0, s⟩ = Wm.enc 5 ++ tx s) := by
    show _ = _
    unfold Rm.valB; rw [if_neg (by dsimp only; omega), if_neg (by dsimp only; omega)]
  clear h hW1 hq
  go_enter Tryd.func24, Tryd.ntmps24
  go_wp2_with (rw [← HQ.out.1, ← HQ.out.2])
  refine (wo_number HW.out 5 (by unfold Wm.inR; omega) (by omega)).mono ?_
  rintro e w1 ⟨rfl, hw⟩
  obtain ⟨⟨F1, hw1, hF1⟩, ho1⟩ := hw
  have HX1 := Lib.hid (HX.out.keepO ho1 HFQ.out)
  have HFQ1 : Hid (¬ F1 q) := fun e => by
    rcases hF1 q e with e | e
    · exact HFQ.out e
    · have := HX.out.bx.lt; omega
  have HW1 := Lib.hid hw1
  have hb1 : (bs ++ Wm.enc 5).length ≤ 1000000009 := by
    have := Wm.enc_length_le 5 (by unfold Wm.inR; omega)
    rw [List.length_append]; omega
  clear hw1 hF1 ho1 HX HW HFQ x0 x1 x2 x3
  have x0 := HX1.out.bx.c0; have x1 := HX1.out.bx.c1; have x2 := HX1.out.bx.c2; have x3 := HX1.out.bx.c3
  have HT : Hid (Calls Tryd.prog 45 #[.pointer (some ⟨b, 0, none⟩), .string s] w1 fun e w' => e = .returned (.tuple #[]) ∧ Wod B b (bs ++ Wm.enc 5 ++ tx s) F1 W w1 w') := by
    have := wo_text HW1.out s.data.toList (by rw [dataLen]; omega) (by omega)
    rw [Rm.bstr_toList, tx_bstr] at this
    exact this
  go_wp2_with fail
  refine HT.out.mono ?_
  rintro e w2 ⟨rfl, hw⟩
  obtain ⟨⟨F2, hw2, -⟩, -⟩ := hw
  have HW2 := Lib.hid hw2
  clear hw2 HX1 HFQ1 HW1 HT
  go_wp2
  refine bodyPost_end (results_none rfl _ _ _) rfl ?_
  exact ⟨rfl, _, by rw [HV.out]; rw [← List.append_assoc]; exact HW2.out⟩
theorem row_writeValue {B b : Nat} {bs : List UInt8} {F : Nat → Prop} {W w : World} (v : Vm.Cl) (h : Wo B b bs F W w) (hf : Rm.fillB v = true) (hn : Wm.inR v.n) (hl : bs.length ≤ 1000000000) :
    Calls Tryd.prog 24 #[.pointer (some ⟨b, 0, none⟩), .agg #[.int .i64 v.k, .int .i64 v.n, .int .i64 v.sc, .string v.s]] w fun e w' => e = .returned (.tuple #[]) ∧ ∃ F', Wo B b (bs ++ Rm.valB v) F' W w' := by
  obtain ⟨k, n, sc, s⟩ := v
  dsimp only at hn ⊢
  rcases Rm.fill_cases hf with ⟨h1, h2, h3, h4⟩ | ⟨h1, h3, h4⟩ | ⟨h1, h3, h4⟩ | ⟨h1, h2, h3, h4⟩
  · dsimp only at h1 h2 h3 h4
    subst h1; subst h3; subst h4
    rcases h2 with rfl | rfl
    · exact wv_10 h hl
    · exact wv_11 h hl
  · dsimp only at h1 h3 h4
    subst h1; subst h3; subst h4
    exact wv_2 n h hn hl
  · dsimp only at h1 h3 h4
    subst h1; subst h4
    exact wv_3 n sc h hn (Rm.scB_in h3) hl
  · dsimp only at h1 h2 h3 h4
    subst h2; subst h3
    rcases h1 with rfl | rfl
    · exact wv_4 s h h4 hl
    · exact wv_5 s h h4 hl
theorem flat_take {l : List Rm.C} {j : Nat} (h : j < l.length) : (l.take (j + 1)).flatMap Rm.cellB = (l.take j).flatMap Rm.cellB ++ Rm.cellB l[j] := by
  rw [← List.take_append_getElem h, List.flatMap_append, List.flatMap_singleton]
/-- what Put leaves -/
def PutA (l : List Rm.C) (w : World) (e : Ending) (w' : World) : Prop :=
  ∃ a n c, e = .returned (.tuple #[.slice a n c, .int .i64 (if Rm.right l then 0 else 2)]) ∧ n = (if Rm.right l then Rm.put l else []).length ∧ Yt (.slice a n c) (if Rm.right l then Rm.put l else []) w' ∧ Below w.heap.size w w'
set_option maxHeartbeats 4000000 in
set_option maxRecDepth 100000 in
theorem row_put (a : Option Addr) (n cap : Nat) (l : List Rm.C) (w : World) (he : EnvV w) (hv : Rs (.slice a n cap) l w) (hl : n ≤ 1000) (hi : ∀ c ∈ l, Wm.inR c.col ∧ Wm.inR c.v.n ∧ c.v.s.size ≤ maxLen) :
    Calls Tryd.prog 9 #[.slice a n cap] w (PutA l w) := by
  have hnl : n = l.length := by obtain ⟨b, d, e⟩ := hv.form; injection e
  have hn1 : n ≤ l.length := by omega
  have hn2 : l.length ≤ n := by omega
  have HRT := Lib.hid (row_right a n cap l w he hv (by unfold maxLen; omega) (fun c hc => (hi c hc).2.2))
  obtain ⟨R, hR⟩ : ∃ R, R = Rm.right l := ⟨_, rfl⟩
  rw [← hR] at HRT
  unfold PutA
  rw [← hR]
  have HR := Lib.hid hR
  have HV := Lib.hid hv
  have HI := Lib.hid hi
  have HPU : Hid (Rm.put l = Wm.enc (n : Nat) ++ (l.take n).flatMap Rm.cellB) := by show _ = _; unfold Rm.put; rw [← hnl, List.take_of_length_le hn2]
  clear hnl hR hv hi he
  cases R
  · go_enter Tryd.func9, Tryd.ntmps9
    go_wp2_with fail
    refine HRT.out.mono ?_
    rintro e w1 ⟨rfl, hb⟩
    have HB := Lib.hid hb
    clear hb HRT
    go_wp2
    go_ret2
    exact ⟨none, 0, 0, rfl, rfl, .inl ⟨_, _, rfl, rfl⟩, HB.out⟩
  · have HFI : Hid (∀ c ∈ l, Rm.fillB c.v = true ∧ Wm.inR c.col ∧ Wm.inR c.v.n) := fun c hc => ⟨Rm.rgt_fill HR.out.symm c hc, (HI.out c hc).1, (HI.out c hc).2.1⟩
    clear HI HR
    go_enter Tryd.func9, Tryd.ntmps9
    go_wp2_with fail
    refine HRT.out.mono ?_
    rintro e w1 ⟨rfl, hb⟩
    have HB := Lib.hid hb
    have HV1 := Lib.hid (HV.out.keep hb)
    clear hb HRT HV
    obtain ⟨p, hp⟩ : ∃ p, p = w1.heap.size := ⟨_, rfl⟩
    obtain ⟨W1, hW1⟩ : ∃ W1, W1 = w1.alloc (.cells #[.slice none 0 0] 46) := ⟨_, rfl⟩
    have HW0 : Hid (∃ F, Wo w1.heap.size p [] F w1 W1) := ⟨_, by rw [hW1, hp]; exact wo_new w1 (Nat.le_refl _) (Below.refl _ _)⟩
    have HQ : Hid (W1 = w1.alloc (.cells #[.slice none 0 0] 46) ∧ p = w1.heap.size) := ⟨hW1, hp⟩
    obtain ⟨F0, hF0⟩ := HW0.out
    have HW1 := Lib.hid hF0
    clear hp hW1 HW0 hF0
    go_wp2_with (rw [← HQ.out.1, ← HQ.out.2])
    refine (wo_number HW1.out (n : Int) (by unfold Wm.inR; omega) (by simp)).mono ?_
    rintro e w2 ⟨rfl, hw⟩
    obtain ⟨⟨F2, hw2, -⟩, -⟩ := hw
    have HW2 := Lib.hid hw2
    clear hw2 HW1 HQ
    go_wp2_with fail
    go_loopw [15] (fun iv wr => ∃ (j : Nat) (F : Nat → Prop) (bs : List UInt8), j ≤ n ∧ iv = .int .i64 (j : Int) ∧ Hid (bs = Wm.enc (n : Nat) ++ (l.take j).flatMap Rm.cellB) ∧ Hid (Wo w1.heap.size p bs F w1 wr)) (fun iv _ => n - (Lib.intOf iv).toNat)
    case atStart => exact ⟨0, F2, _, by omega, rfl, rfl, by rw [List.take_zero, List.flatMap_nil, List.append_nil]; exact HW2.out⟩
    case round =>
      clear HW2
      obtain ⟨j, F, bs, hj, rfl, HBS, HO⟩ := hrel
      have hbs : bs.length ≤ 1000000 := by
        rw [HBS.out, List.length_append]
        have h1 := Wm.enc_length_le (n : Nat) (by unfold Wm.inR; omega)
        have h2 := Rm.put_len (cs := l.take j) (fun c hc => HFI.out c (List.mem_of_mem_take hc))
        rw [List.length_take] at h2
        omega
      by_cases hlt : j < n
      · have hjl : j < l.length := by omega
        obtain ⟨g, off, ha, -, hg, hb⟩ := (HV1.out.keep HO.out.bel).at j hjl
        have hci := HFI.out l[j] (List.getElem_mem hjl)
        have hst := flat_take hjl
        obtain ⟨c, hc⟩ : ∃ c, c = l[j] := ⟨_, rfl⟩
        rw [← hc] at hb hst hci
        subst ha
        obtain ⟨cl, ck, cn, cz, cs⟩ := c
        obtain ⟨c0, c1, c2, c3, c4⟩ := hb
        dsimp only at c0 c1 c2 c3 c4 hci
        obtain ⟨W3, hW3⟩ : ∃ W3, W3 = wr.alloc (.cells #[.int .i64 cl, .int .i64 ck, .int .i64 cn, .int .i64 cz, .string cs] 38) := ⟨_, rfl⟩
        obtain ⟨q, hq⟩ : ∃ q, q = wr.heap.size := ⟨_, rfl⟩
        have HO1 : Hid (Wo w1.heap.size p bs F w1 W3) := by show Wo _ _ _ _ _ _; rw [hW3]; exact HO.out.alloc _
        have HQ : Hid (W3 = wr.alloc (.cells #[.int .i64 cl, .int .i64 ck, .int .i64 cn, .int .i64 cz, .string cs] 38) ∧ q = wr.heap.size) := ⟨hW3, hq⟩
        have HFQ : Hid (¬ F q) := fun e => by have := HO.out.lt q e; omega
        have y0 : W3.cell? ⟨q, 0, none⟩ = some (.int .i64 cl) := by rw [hW3, hq]; simp
        have y1 : W3.cell? ⟨q, 1, none⟩ = some (.int .i64 ck) := by rw [hW3, hq]; simp
        have y2 : W3.cell? ⟨q, 2, none⟩ = some (.int .i64 cn) := by rw [hW3, hq]; simp
        have y3 : W3.cell? ⟨q, 3, none⟩ = some (.int .i64 cz) := by rw [hW3, hq]; simp
        have y4 : W3.cell? ⟨q, 4, none⟩ = some (.string cs) := by rw [hW3, hq]; simp
        have hqw : q < W3.heap.size := by rw [hW3, hq]; simp
        have HST : Hid (bs ++ Wm.enc cl ++ Rm.valB ⟨ck, cn, cz, cs⟩ = Wm.enc (n : Nat) ++ (l.take (j + 1)).flatMap Rm.cellB) := by
          show _ = _
          rw [hst, HBS.out]; unfold Rm.cellB; simp only [List.append_assoc]
        have HCI := Lib.hid hci
        clear hst hc hci hW3 hq HO HBS
        go_wp2_with (rw [← HQ.out.1, ← HQ.out.2])
        refine (wo_number HO1.out cl HCI.out.2.1 (by omega)).mono ?_
        rintro e w3 ⟨rfl, hw⟩
        obtain ⟨⟨F3, hw3, hF3⟩, ho3⟩ := hw
        replace y0 := (cell_only8 ho3 (q := ⟨q, 0, none⟩) hqw HFQ.out).trans y0
        replace y1 := (cell_only8 ho3 (q := ⟨q, 1, none⟩) hqw HFQ.out).trans y1
        replace y2 := (cell_only8 ho3 (q := ⟨q, 2, none⟩) hqw HFQ.out).trans y2
        replace y3 := (cell_only8 ho3 (q := ⟨q, 3, none⟩) hqw HFQ.out).trans y3
        replace y4 := (cell_only8 ho3 (q := ⟨q, 4, none⟩) hqw HFQ.out).trans y4
        have HW3 := Lib.hid hw3
        have hb3 : (bs ++ Wm.enc cl).length ≤ 1000009 := by
          have := Wm.enc_length_le cl HCI.out.2.1
          rw [List.length_append]; omega
        clear hw3 hF3 ho3 HO1 HFQ HQ hqw
        go_wp2_with fail
        refine (row_writeValue ⟨ck, cn, cz, cs⟩ HW3.out HCI.out.1 HCI.out.2.2 (by omega)).mono ?_
        rintro e w4 ⟨rfl, F4, hw4⟩
        rw [HST.out] at hw4
        have HW4 := Lib.hid hw4
        clear hw4 HW3 HST HCI y0 y1 y2 y3 y4
        go_wp2
        go_roundw
        case rel => exact ⟨j + 1, F4, _, by omega, by go_num, rfl, HW4⟩
        case measure => simp [Lib.intOf]; omega
      · have hjn : j = n := by omega
        have HF : Hid (bs = Rm.put l) := by show _ = _; rw [HPU.out, HBS.out, hjn]
        clear hjn HBS
        go_wp2_with fail
        refine (wo_bytes HO.out (by omega)).mono ?_
        rintro e w3 ⟨ra, rn, rc, rfl, ⟨hrn, B', hB', hown⟩, hb⟩
        have HY : Hid (Yt (.slice ra rn rc) bs w3) := Yt.of_own hown
        have HRN := Lib.hid hrn
        have HB2 := Lib.hid (HB.out.trans (hb.mono HB.out.size))
        clear hrn hB' hown hb HO
        go_wp2
        go_ret2
        exact ⟨ra, rn, rc, rfl, by rw [HRN.out, HF.out], by have := HY.out; rw [HF.out] at this; exact this, HB2.out⟩
end Go.Proofs.YtmipomglbccjbaaDoor
