/- Package keys: copied, bytes.Cut at one zero, strings.Builder's writing. -/
import Derived.Test.YtamclbagafcmgaaDoorKeyNext
import Derived.Test.YtamclbagafcmgaaDoorValB
import Derived.Test.YtamclbagafcmgaaDoorShelf
import Derived.Laws.CopyOwn
import Derived.OwnWalk
import Derived.Shelf.Strings.BuilderK
import Derived.Lib.IndexLaws
import Derived.BigQuiet
import Derived.BigRegion
import Derived.Laws.Bits64
import Derived.Laws.Bits64b
namespace Go.Proofs.YtamclbagafcmgaaDoor
open Go.RowKit

theorem addr_at (g o j : Nat) : (⟨g, o, none⟩ : Addr).add j = ⟨g, o + j, none⟩ := by unfold Addr.add; split <;> simp_all
/-! ### copied -/
/-- bytes of one's own -/
def Own1 (l : List UInt8) (w : World) (e : Ending) (w' : World) : Prop :=
  ∃ g n cur, e = .returned (.slice (some ⟨g, 0, none⟩) n n) ∧ n = l.length ∧ w.heap.size ≤ g ∧ w'.heap[g]? = some (.cells cur 5 (0, 0)) ∧ cur.toList = yc l ∧ Below w.heap.size w w'

theorem yc_src {a : Option Addr} {n c : Nat} {l : List UInt8} {w : World} (h : Yt (.slice a n c) l w) (h0 : 0 < l.length) : ∃ ad, a = some ad ∧ ∀ j v, (yc l)[j]? = some v → w.cell? (ad.add j) = some v := by
  rcases h with ⟨_, _, _, rfl⟩ | ⟨g, off, cap, e, _, _, hc⟩
  · simp at h0
  · injection e with e1 e2 e3
    refine ⟨_, e1, fun j v hj => ?_⟩
    have hjn : j < l.length := by
      have := (List.getElem?_eq_some_iff.1 hj).1
      rwa [yc_length] at this
    rw [yc_get] at hj
    have hadd : (⟨g, off, none⟩ : Addr).add j = ⟨g, off + j, none⟩ := by unfold Addr.add; split <;> simp_all
    rw [hadd, hc j hjn]
    simpa [List.getD, hjn] using hj

set_option maxHeartbeats 1000000 in
theorem key_copied (a : Option Addr) (n cap : Nat) (l : List UInt8) (w : World) (hv : Yt (.slice a n cap) l w) (hl : l.length ≤ 1000000) : Calls Tryd.prog 26 #[.slice a n cap] w (Own1 l w) := by
  obtain ⟨i0, hi0, hz0, hz1, hz2⟩ := info_parts info5y
  have hsz : (Tryd.prog.info? 5).map (·.size) = some 1 := by rw [hi0]; simp [hz1]
  have HI0 := Lib.hid hi0; have HZ0 := Lib.hid hz0; have HZ1 := Lib.hid hz1; have HZ2 := Lib.hid hz2; have HSZ := Lib.hid hsz
  clear hi0 hz0 hz1 hz2 hsz
  have hnl : n = l.length := by obtain ⟨b, d, e⟩ := hv.form; injection e
  have HN := Lib.hid hnl
  have hn1 : n ≤ 1000000 := by omega
  have HV := Lib.hid hv
  clear hnl hv hl
  go_enter Tryd.func26, Tryd.ntmps26
  go_wp2_with (at_make; refine wpList_make_full _ rfl (.tmp 5) (.tmp 5) 25 rfl w.heap.size 5 i0 (.int .u8 0) 1 Tryd.underlying25 HI0.out HZ0.out HZ1.out .i64 .i64 (n : Int) (n : Int) n rfl rfl rfl rfl ?ma ?mb ?mc ?_)
  case ma => rw [HZ2.out]; omega
  case mb => unfold maxLen; omega
  case mc => exact Nat.le_refl _
  intro w1 hown hgrow
  have hb1 : Below w.heap.size w w1 := (Below.refl _ _).grown hgrow (Nat.le_refl _) (fun i hi => by cases hi)
  obtain ⟨g, cur, hgB, hg, hcur⟩ : ∃ g cur, w.heap.size = g ∧ w1.heap[g]? = some (.cells cur 5 (0, 0)) ∧ cur.size = n := by
    obtain ⟨h1, h2⟩ := hown
    rcases h2 with ⟨hv, _⟩ | ⟨g, cap, cur, hv, hB, hg, hc, hm, hs, ht⟩
    · cases hv
    · injection hv with e1 e2 e3
      injection e1 with e1
      injection e1 with e1
      subst e3
      exact ⟨g, cur, e1, hg, by omega⟩
  have HB := Lib.hid hb1
  have HC := Lib.hid hcur
  have HVV := Lib.hid (HV.out.keep hb1)
  clear hown hgrow hb1 hcur HV
  subst hgB
  go_wp2_with (refine wpList_copy_splice rfl (.tmp 7) (.tmp 8) 25 25 rfl 5 Tryd.underlying25 HSZ.out (some ⟨w.heap.size, 0, none⟩) a n n n cap rfl rfl w.heap.size 0 cur.toList 5 (by simpa using hg) (yc l) ?ca ?cb ?cc (yc_one l) w.heap.size w HB.out (Nat.le_refl _) ?_)
  case ca => rw [yc_length, ← HN.out]; simp
  case cb =>
    intro h0
    rw [yc_length] at h0
    first
    | exact yc_src HVV.out h0
    | exact ⟨rfl, yc_src HVV.out h0⟩
  case cc => rw [yc_length, ← HN.out, Array.length_toList, HC.out]; omega
  intro w2 hg2 hb2
  have hlen := HC.out
  have HB2 := Lib.hid hb2
  clear hb2 HB HC HVV hg
  go_wp2
  go_ret
  refine ⟨w.heap.size, n, _, rfl, HN.out, Nat.le_refl _, hg2.out, ?_, HB2.out⟩
  rw [List.toList_toArray, splice, List.take_zero, List.nil_append, List.drop_of_length_le (by rw [yc_length, ← HN.out, Array.length_toList, hlen]; omega), List.append_nil]

theorem Own1.yt {l : List UInt8} {w : World} {e : Ending} {w' : World} (h : Own1 l w e w') : ∃ a n c, e = .returned (.slice a n c) ∧ n = l.length ∧ Yt (.slice a n c) l w' ∧ Below w.heap.size w w' := by
  obtain ⟨g, n, cur, rfl, rfl, hB, hg, hc, hb⟩ := h
  refine ⟨_, _, _, rfl, rfl, .inr ⟨g, 0, l.length, rfl, Nat.le_refl _, (Array.getElem?_eq_some_iff.1 hg).1, fun j hj => ?_⟩, hb⟩
  rw [Lib.cell_of_heap hg, Nat.zero_add, ← Array.getElem?_toList, hc, yc_get]
  simp [List.getD, hj]

/-! ### bytes.Cut at 00 -/
theorem ys_of (l : List UInt8) : Lib.bytesOf (l.map fun b => (b.toNat : Int)) = l := by
  unfold Lib.bytesOf
  rw [List.map_map]
  conv => rhs; rw [← List.map_id l]
  apply List.map_congr_left
  intro a _
  simp
theorem yt_cells {a : Addr} {n c : Nat} {l : List UInt8} {w : World} (h : Yt (.slice (some a) n c) l w) : ∀ i, i < n → w.cell? (a.add i) = some (.int .u8 ((l.map fun b => (b.toNat : Int)).getD i 0)) := by
  intro i hi
  have hn : n = l.length := by obtain ⟨_, _, e⟩ := h.form; injection e
  obtain ⟨ad, e, hc⟩ := yc_src h (by omega)
  injection e with e
  subst e
  refine hc i _ ?_
  rw [yc_get]
  simp [List.getD, show i < l.length by omega]

theorem key_index (a : Addr) (n c h : Nat) (l : List UInt8) (w : World) (hv : Yt (.slice (some a) n c) l w) (h0 : w.cell? ⟨h, 0, none⟩ = some (.int .u8 0)) :
    Calls Tryd.prog 51 #[.slice (some a) n c, .slice (some ⟨h, 0, none⟩) 1 1] w fun e w' => e = .returned (.int .i64 (Lib.indexByte l 0)) ∧ w' = w := by
  have hn : n = l.length := by obtain ⟨_, _, e⟩ := hv.form; injection e
  have := Tryd.bytes_Index_one_at a n c h 0 1 (l.map fun b => (b.toNat : Int)) 0 w (by simp; omega) (yt_cells hv) h0
  rw [ys_of] at this
  exact this

theorem zero_no (l : List UInt8) (h : Lib.indexByte l 0 < 0) : ∀ c ∈ l, c ≠ 0 := by
  intro c hc e
  have h1 := Lib.indexByte_ge l 0
  obtain ⟨k, hk, he⟩ := List.mem_iff_getElem.1 hc
  exact Lib.indexByte_none (l := l) (c := 0) (by omega) k (by rw [List.getElem?_eq_getElem hk, he, e])
theorem zero_yes (l : List UInt8) (j : Nat) (h : Lib.indexByte l 0 = (j : Int)) : j < l.length ∧ (∀ c ∈ l.take j, c ≠ 0) ∧ l.drop j = 0 :: l.drop (j + 1) := by
  obtain ⟨h1, h2⟩ := Lib.indexByte_some h
  obtain ⟨hj, he⟩ := List.getElem?_eq_some_iff.1 h1
  refine ⟨hj, fun c hc e => ?_, by rw [List.drop_eq_getElem_cons hj, he]⟩
  obtain ⟨k, hk, hke⟩ := List.mem_iff_getElem.1 hc
  rw [List.length_take] at hk
  refine h2 k (by omega) ?_
  rw [List.getElem_take] at hke
  rw [List.getElem?_eq_getElem (by omega), hke, e]

set_option maxHeartbeats 1000000 in
theorem cut_no (a : Addr) (n c h : Nat) (l : List UInt8) (w : World) (hv : Yt (.slice (some a) n c) l w) (h0 : w.cell? ⟨h, 0, none⟩ = some (.int .u8 0)) (hi : Lib.indexByte l 0 < 0) :
    Calls Tryd.prog 42 #[.slice (some a) n c, .slice (some ⟨h, 0, none⟩) 1 1] w fun e w' => e = .returned (.tuple #[.slice (some a) n c, .slice none 0 0, .bool false]) ∧ ∃ q, w' = w.drewN q := by
  have HX := Lib.hid (key_index a n c h l w hv h0)
  obtain ⟨i, hie⟩ : ∃ i, Lib.indexByte l 0 = i := ⟨_, rfl⟩
  rw [hie] at HX hi
  clear hv h0 hie
  go_enter Tryd.func42, Tryd.ntmps42
  go_wp2_with fail
  refine HX.out.mono ?_
  rintro e w1 ⟨rfl, rfl⟩
  go_wp2
  go_ret3
  exact ⟨rfl, 0, rfl⟩

/-- what Cut leaves at a zero in place j -/
def cutY (a : Addr) (n c j : Nat) : Value := .tuple #[.slice (some a) j c, .slice (if c = j + 1 then some a else some (a.add (j + 1))) (n - (j + 1)) (c - (j + 1)), .bool true]
set_option maxHeartbeats 1000000 in
theorem cut_yes (a : Addr) (n c h j : Nat) (l : List UInt8) (w : World) (hv : Yt (.slice (some a) n c) l w) (h0 : w.cell? ⟨h, 0, none⟩ = some (.int .u8 0)) (hi : Lib.indexByte l 0 = (j : Int)) (hn : n ≤ 1000000) (hc : n ≤ c) :
    Calls Tryd.prog 42 #[.slice (some a) n c, .slice (some ⟨h, 0, none⟩) 1 1] w fun e w' => e = .returned (cutY a n c j) ∧ ∃ q, w' = w.drewN q := by
  have HX := Lib.hid (key_index a n c h l w hv h0)
  have hnl : n = l.length := by obtain ⟨_, _, e⟩ := hv.form; injection e
  have hj : j < n := by rw [hnl]; exact (zero_yes l j hi).1
  obtain ⟨g, off, rfl⟩ : ∃ g off, a = ⟨g, off, none⟩ := by
    rcases hv with ⟨_, _, e, _⟩ | ⟨g, off, cap, e, _⟩
    · injection e with _ e; omega
    · injection e with e; injection e with e; exact ⟨g, off, e⟩
  rw [hi] at HX
  have hj1 : (j : Int) < (n : Int) := by omega
  have hj2 : (j : Int) + 1 ≤ (n : Int) := by omega
  have hj3 : (j : Int) + 1 ≤ (c : Int) := by omega
  have hj4 : (j : Int) ≤ (c : Int) := by omega
  have hj5 : (n : Int) ≤ (c : Int) := by omega
  have hj6 : (n : Int) ≤ 1000000 := by omega
  have hjw : wrap64 ((j : Int) + 1) = (j : Int) + 1 := by unfold wrap64; omega
  have hjt : ((j : Int) + 1).toNat = j + 1 := by omega
  clear hv h0 hi hnl
  go_enter Tryd.func42, Tryd.ntmps42
  go_wp2_with fail
  refine HX.out.mono ?_
  rintro e w1 ⟨rfl, rfl⟩
  go_wp2_with fail
  go_quiet (fail)
  all_goals go_wp2
  all_goals go_ret3
  all_goals exact ⟨by simp only [cutY, addr_at]; simp [*], _, rfl⟩

/-! ### strings.Builder -/
def kbRen : Go.Shelf.Ren := ⟨fun | 240 => 52 | 276 => 58 | 167 => 45 | n => n,
  fun | 0 => 0 | 4 => 4 | 5 => 5 | 9 => 9 | 20 => 20 | 37 => 25 | 70 => 65 | 72 => 67 | 75 => 71 | 80 => 74 | 164 => 91 | n => n, fun n => n⟩
theorem kbLays : Go.Proofs.Lays.n167 Tryd.prog kbRen := {
  mixed := by kernel_rfl
  f167 := Tryd.func45.trans (congrArg some (by kernel_rfl))
  f240 := Tryd.func52.trans (congrArg some (by kernel_rfl))
  f276 := Tryd.func58.trans (congrArg some (by kernel_rfl))
  t0 := Tryd.underlying0
  a0 := Tryd.isAgg0
  z0 := Tryd.sizeOf0
  v0 := Tryd.zeroValue0
  t4 := Tryd.underlying4
  a4 := Tryd.isAgg4
  z4 := Tryd.sizeOf4
  v4 := Tryd.zeroValue4
  t5 := Tryd.underlying5
  a5 := Tryd.isAgg5
  z5 := Tryd.sizeOf5
  v5 := Tryd.zeroValue5
  t9 := Tryd.underlying9
  a9 := Tryd.isAgg9
  z9 := Tryd.sizeOf9
  v9 := Tryd.zeroValue9
  t20 := Tryd.underlying20
  a20 := Tryd.isAgg20
  z20 := Tryd.sizeOf20
  v20 := Tryd.zeroValue20
  t37 := Tryd.underlying25
  a37 := Tryd.isAgg25
  z37 := Tryd.sizeOf25
  v37 := Tryd.zeroValue25
  t70 := Tryd.underlying65
  a70 := Tryd.isAgg65
  z70 := Tryd.sizeOf65
  v70 := Tryd.zeroValue65
  t72 := Tryd.underlying67
  a72 := Tryd.isAgg67
  z72 := Tryd.sizeOf67
  v72 := Tryd.zeroValue67
  t75 := Tryd.underlying71
  a75 := Tryd.isAgg71
  z75 := Tryd.sizeOf71
  v75 := Tryd.zeroValue71
  t164 := Tryd.underlying91
  a164 := Tryd.isAgg91
  z164 := Tryd.sizeOf91
  v164 := Tryd.zeroValue91 }
set_option maxRecDepth 100000 in
theorem kbExtra : Builder.Extra Tryd.prog kbRen := { Tryd.Builder_Extra_169 with }
theorem kb_check (B b : Nat) (bs : List Value) (w : World) (h : Lib.IsBuilder 67 5 B b bs w) :
    Calls Tryd.prog 52 #[.pointer (some ⟨b, 0, none⟩)] w fun e w' => e = .returned (.tuple #[]) ∧ (Lib.BuilderAt 67 5 B b (.pointer (some ⟨b, 0, none⟩)) bs w' ∧ Below B w w') :=
  Any.Builder_copyCheck { kbLays with } kbExtra.toX72 B b bs w h
theorem kb_byte (B b : Nat) (bs : List Value) (c : Int) (w : World) (h : Lib.IsBuilder 67 5 B b bs w) (hlen : bs.length + 1 ≤ 140737488355328) (hBw : B ≤ w.heap.size) :
    Calls Tryd.prog 45 #[.pointer (some ⟨b, 0, none⟩), .int .u8 c] w fun e w' => e = .returned .nilIface ∧ (Lib.BuilderAt 67 5 B b (.pointer (some ⟨b, 0, none⟩)) (bs ++ [.int .u8 c]) w' ∧ Below B w w') :=
  Any.Builder_WriteByte kbLays kbExtra B b bs c w h hlen hBw

set_option maxHeartbeats 2000000 in
set_option maxRecDepth 100000 in
theorem kb_write (B b : Nat) (bs : List Value) (a : Option Addr) (n c : Nat) (l : List UInt8) (w : World) (h : Lib.IsBuilder 67 5 B b bs w) (hv : Yt (.slice a n c) l w) (hk : ∀ w', Below B w w' → Yt (.slice a n c) l w')
    (hlen : bs.length + l.length ≤ 100000000) (hBw : B ≤ w.heap.size) :
    Calls Tryd.prog 43 #[.pointer (some ⟨b, 0, none⟩), .slice a n c] w fun e w' => e = .returned (.tuple #[.int .i64 n, .nilIface]) ∧ (Lib.BuilderAt 67 5 B b (.pointer (some ⟨b, 0, none⟩)) (bs ++ yc l) w' ∧ Below B w w') := by
  obtain ⟨i0, hi0, hz0, hz1, hz2⟩ := info_parts info5y
  have HI0 := Lib.hid hi0; have HZ0 := Lib.hid hz0; have HZ1 := Lib.hid hz1; have HZ2 := Lib.hid hz2
  clear hi0 hz0 hz1 hz2
  have HK := Lib.hid hk
  have hn : n = l.length := by obtain ⟨_, _, e⟩ := hv.form; injection e
  have HN := Lib.hid hn
  clear hv hk hn
  go_enter Tryd.func43, Tryd.ntmps43
  go_wp2_with fail
  refine (kb_check B b bs w h).mono ?_
  rintro e w1 ⟨rfl, h1', hb1⟩
  obtain ⟨hB, v, hbk, hown, hne⟩ := h1'
  have c0 : w1.cell? ⟨b, 0, none⟩ = some (.pointer (some ⟨b, 0, none⟩)) := by rw [Lib.cell_of_heap hbk]; rfl
  have c1 : w1.cell? ⟨b, 1, none⟩ = some v := by rw [Lib.cell_of_heap hbk]; rfl
  have hsrc := (HK.out w1 hb1).src
  rw [← HN.out] at hsrc
  have HS := Lib.hid hsrc
  clear hsrc HK
  go_wp2_with (at_builtin; refine wpList_append_src _ rfl (.tmp 12) (.tmp 13) 25 25 rfl B 5 i0 (.int .u8 0) 1 1 Tryd.underlying25 HI0.out HZ0.out HZ1.out HZ2.out rfl v bs.length bs rfl hown (.slice a n c) n (yc l) rfl HS.out ?c3 ?c4 ?c5 ?_)
  case c3 => have := HN.out; unfold maxLen; omega
  case c4 => have := HN.out; omega
  case c5 => have := hb1.size; omega
  intro v' w2 hown' hgrow _
  have hlt : b < w1.heap.size := by
    rcases Nat.lt_or_ge b w1.heap.size with h' | h'
    · exact h'
    · simp [Array.getElem?_eq_none h'] at hbk
  have hb2 : w2.heap[b]? = some (.cells #[.pointer (some ⟨b, 0, none⟩), v] 67 (0, 0)) := by
    rw [hgrow.block b hlt (fun e => hne e.symm)]
    exact hbk
  have d0 : w2.cell? ⟨b, 0, none⟩ = some (.pointer (some ⟨b, 0, none⟩)) := by rw [Lib.cell_of_heap hb2]; rfl
  have d1 : w2.cell? ⟨b, 1, none⟩ = some v := by rw [Lib.cell_of_heap hb2]; rfl
  have f1 : w2.frozen? ⟨b, 1, none⟩ = false := Lib.frozen_of_heap hb2 1
  obtain ⟨ao, n', cap, rfl⟩ : ∃ ao n' cap, v' = .slice ao n' cap := by
    rcases hown'.2 with ⟨hv, _⟩ | ⟨g, cap, cur, hv, _⟩
    · exact ⟨_, _, _, hv⟩
    · exact ⟨_, _, _, hv⟩
  have HO := Lib.hid hown'
  have HB3 := Lib.hid ((hb1.grown hgrow (by have := hb1.size; omega) (fun k hk => (hown.lt k hk).1)).setCell (p := ⟨b, 1, none⟩) hB (.slice ao n' cap))
  clear hown' hown hgrow hb1 c0 c1
  go_wp2
  go_ret2
  refine ⟨rfl, ?_, HB3.out⟩
  exact Lib.BuilderAt.put (T := 67) (e := 5) hB hb2 (bs' := bs ++ yc l) (by have := HO.out; rw [HN.out] at this; simpa [yc_length] using this) (by decide)

/-- a builder stands as it stood in a world with the same heap below -/
theorem BuilderAt.of_eq {T e : TypeId} {B b : Nat} {p : Value} {bs : List Value} {w w' : World} (h : Lib.BuilderAt T e B b p bs w) (hk : ∀ k, k < w.heap.size → w'.heap[k]? = w.heap[k]?) : Lib.BuilderAt T e B b p bs w' := by
  have hlt := h.lt
  obtain ⟨hB, v, hb, ⟨h1, h2⟩, hne⟩ := h
  refine ⟨hB, v, by rw [hk b hlt]; exact hb, ⟨h1, ?_⟩, hne⟩
  rcases h2 with h2 | ⟨g, cap, cur, hv, hB, hg, rest⟩
  · exact .inl h2
  · exact .inr ⟨g, cap, cur, hv, hB, by rw [hk g (Array.getElem?_eq_some_iff.1 hg).1]; exact hg, rest⟩
theorem IsBuilder.of_below {T e : TypeId} {B b : Nat} {bs : List Value} {w w' : World} (h : Lib.IsBuilder T e B b bs w) (hb : Below w.heap.size w w') : Lib.IsBuilder T e B b bs w' := by
  rcases h with h | h
  · exact .inl (BuilderAt.of_eq h hb.block)
  · exact .inr (BuilderAt.of_eq h hb.block)
theorem kb_string (B b : Nat) (l : List UInt8) (w : World) (h : Lib.IsBuilder 67 5 B b (yc l) w) (hBw : B ≤ w.heap.size) :
    Calls Tryd.prog 44 #[.pointer (some ⟨b, 0, none⟩)] w fun e w' => e = .returned (.string (bstr l)) ∧ Below B w w' := by
  refine (Tryd.Builder_String_any_k B b l w (Lib.IsBuilderF.of h) hBw).mono ?_
  rintro e w' ⟨rfl, _, hb, _⟩
  exact ⟨rfl, hb⟩
end Go.Proofs.YtamclbagafcmgaaDoor
/- Package keys: bytes at their head and behind it; cutByte, cutNumber; unescaping by pieces. -/
namespace Go.Proofs.YtamclbagafcmgaaDoor
open Go.RowKit

/-- bytes at an address below B -/
def Yb (B : Nat) (v : Value) (l : List UInt8) (w : World) : Prop :=
  (∃ a c, v = .slice (some a) 0 c ∧ l = []) ∨
  ∃ g off cap, v = .slice (some ⟨g, off, none⟩) l.length cap ∧ l.length ≤ cap ∧ g < B ∧ ∀ j, j < l.length → w.cell? ⟨g, off + j, none⟩ = some (Value.int .u8 (l.getD j 0).toNat)
theorem Yb.keep {B C : Nat} {v : Value} {l : List UInt8} {w w' : World} (h : Yb B v l w) (hb : Below C w w') (hc : B ≤ C) : Yb B v l w' := by
  rcases h with h | ⟨g, off, cap, rfl, hcap, hg, hcell⟩
  · exact .inl h
  · exact .inr ⟨g, off, cap, rfl, hcap, hg, fun j hj => (hb.cell (p := ⟨g, off + j, none⟩) (show g < C by omega)).trans (hcell j hj)⟩
theorem Yb.yt {B : Nat} {v : Value} {l : List UInt8} {w : World} (h : Yb B v l w) (hB : B ≤ w.heap.size) : Yt v l w := by
  rcases h with ⟨a, c, rfl, rfl⟩ | ⟨g, off, cap, rfl, hcap, hg, hcell⟩
  · exact .inl ⟨_, _, rfl, rfl⟩
  · exact .inr ⟨g, off, cap, rfl, hcap, by omega, hcell⟩
theorem Yb.of {v : Value} {l : List UInt8} {w : World} (h : Yt v l w) (h0 : 0 < l.length) : Yb w.heap.size v l w := by
  rcases h with ⟨a, c, rfl, rfl⟩ | ⟨g, off, cap, rfl, hcap, hg, hcell⟩
  · simp at h0
  · exact .inr ⟨g, off, cap, rfl, hcap, hg, hcell⟩
theorem Yb.form {B : Nat} {v : Value} {l : List UInt8} {w : World} (h : Yb B v l w) : ∃ a c, v = .slice (some a) l.length c := by
  rcases h with ⟨a, c, rfl, rfl⟩ | ⟨g, off, cap, rfl, _⟩
  · exact ⟨_, _, rfl⟩
  · exact ⟨_, _, rfl⟩
/-- the slice behind k bytes -/
def dropS (a : Addr) (n c k : Nat) : Value := .slice (if c = k then some a else some (a.add k)) (n - k) (c - k)
/-- v2 is what lies behind k bytes of v, whatever they are -/
def Behind (v v2 : Value) (k : Nat) (l : List UInt8) : Prop := ∀ (B : Nat) (w : World), Yb B v l w → Yb B v2 (l.drop k) w
theorem behind_drop (a : Addr) (n c k : Nat) (l : List UInt8) (h0 : 0 < k) (hk : k ≤ l.length) : Behind (.slice (some a) n c) (dropS a n c k) k l := by
  intro B w h
  rcases h with ⟨_, _, _, rfl⟩ | ⟨g, off, cap, e, hcap, hg, hcell⟩
  · simp at hk; omega
  · injection e with e1 e2 e3
    injection e1 with e1
    subst e1; subst e2; subst e3
    unfold dropS
    by_cases hck : c = k
    · rw [if_pos hck]
      refine .inl ⟨⟨g, off, none⟩, c - k, by rw [show l.length - k = 0 by omega], List.drop_eq_nil_of_le (by omega)⟩
    · rw [if_neg hck, addr_at]
      refine .inr ⟨g, off + k, c - k, by rw [List.length_drop], by rw [List.length_drop]; omega, hg, fun j hj => ?_⟩
      rw [List.length_drop] at hj
      rw [Nat.add_assoc, hcell (k + j) (by omega)]
      simp [List.getD]
theorem Behind.trans {v v2 v3 : Value} {k m : Nat} {l : List UInt8} (h : Behind v v2 k l) (h2 : Behind v2 v3 m (l.drop k)) : Behind v v3 (k + m) l := by
  intro B w hy
  have := h2 B w (h B w hy)
  rwa [List.drop_drop] at this
theorem Yb.take {B : Nat} {a : Addr} {n c j : Nat} {l : List UInt8} {w : World} (h : Yb B (.slice (some a) n c) l w) (hj : j ≤ l.length) : Yb B (.slice (some a) j c) (l.take j) w := by
  rcases h with ⟨_, _, e, rfl⟩ | ⟨g, off, cap, e, hcap, hg, hcell⟩
  · simp at hj; subst hj
    exact .inl ⟨a, c, rfl, rfl⟩
  · injection e with e1 e2 e3
    injection e1 with e1
    subst e1; subst e3
    refine .inr ⟨g, off, c, by rw [List.length_take, Nat.min_eq_left hj], by rw [List.length_take]; omega, hg, fun i hi => ?_⟩
    rw [List.length_take] at hi
    rw [hcell i (by omega)]
    simp [List.getD, show i < j by omega]
theorem Yb.cap {B : Nat} {a : Addr} {n c : Nat} {l : List UInt8} {w : World} (h : Yb B (.slice (some a) n c) l w) (h0 : 0 < l.length) : n = l.length ∧ n ≤ c := by
  rcases h with ⟨_, _, _, rfl⟩ | ⟨g, off, cap, e, hcap, hg, hcell⟩
  · simp at h0
  · injection e with e1 e2 e3
    subst e2; subst e3
    exact ⟨rfl, hcap⟩

/-! ### bits -/
theorem or_low (v : Nat) (c : UInt8) (hv : v < 72057594037927936) : bits .or .u64 ((v : Int) * 256) (c.toNat : Int) = ((256 * v + c.toNat : Nat) : Int) := by
  have hc := c.toNat_lt
  rw [show ((v : Int) * 256) = ((v * 256 : Nat) : Int) by omega, bits_or_u64_nat _ _ (by omega) (by omega), Nat.mul_comm v 256]
  congr 1
  exact (Nat.two_pow_add_eq_or_of_lt (i := 8) (by omega) v).symm
theorem xor63 (a : Nat) (h : a < 18446744073709551616) : a ^^^ 9223372036854775808 = (a + 9223372036854775808) % 18446744073709551616 := by
  have h1 : (a ^^^ 9223372036854775808) % 2 ^ 63 = a % 2 ^ 63 := by rw [Nat.xor_mod_two_pow]; simp
  have h2 : (a ^^^ 9223372036854775808) / 2 ^ 63 = (a / 2 ^ 63) ^^^ 1 := by rw [Nat.xor_div_two_pow]
  have h3 : a / 2 ^ 63 = 0 ∨ a / 2 ^ 63 = 1 := by omega
  rcases h3 with h3 | h3 <;> rw [h3] at h2 <;> simp at h2 <;> omega
theorem xor_top (V : Int) (h0 : 0 ≤ V) (h : V < 18446744073709551616) : bits .xor .u64 V 9223372036854775808 = (V + 9223372036854775808) % 18446744073709551616 := by
  obtain ⟨a, rfl⟩ : ∃ a : Nat, V = (a : Int) := ⟨V.toNat, by omega⟩
  rw [show (9223372036854775808 : Int) = ((9223372036854775808 : Nat) : Int) from rfl, bits_xor_u64_nat _ _ (by omega) (by omega), xor63 a (by omega)]
  omega
/-! ### cutByte, cutNumber -/
theorem cutByte_nil (a : Option Addr) (c : Nat) (w : World) : Calls Tryd.prog 34 #[.slice a 0 c] w fun e w' => e = .returned (.tuple #[.int .i64 0, .slice none 0 0, .bool false]) ∧ w = w' := by
  go_enter Tryd.func34, Tryd.ntmps34
  go_wp2
  go_ret3
  exact ⟨rfl, rfl⟩
set_option maxHeartbeats 1000000 in
theorem cutByte_cons (B : Nat) (a : Addr) (n c : Nat) (x : UInt8) (r : List UInt8) (w : World) (hv : Yb B (.slice (some a) n c) (x :: r) w) (hn : n ≤ 1000000) :
    Calls Tryd.prog 34 #[.slice (some a) n c] w fun e w' => e = .returned (.tuple #[.int .i64 (x.toNat : Int), dropS a n c 1, .bool true]) ∧ ∃ q, w' = w.drewN q := by
  obtain ⟨h1, h2⟩ := hv.cap (by simp)
  rcases hv with ⟨_, _, _, e⟩ | ⟨g, off, cap, e, hcap, hg, hcell⟩
  · cases e
  injection e with e1 e2 e3
  injection e1 with e1
  subst e1
  have c0 := hcell 0 (by simp)
  rw [show (x :: r).getD 0 0 = x from rfl, Nat.add_zero] at c0
  have hx : (x.toNat : Int) < 256 := by have := x.toNat_lt; omega
  obtain ⟨X, hX⟩ : ∃ X : Int, (x.toNat : Int) = X := ⟨_, rfl⟩
  have hX0 : 0 ≤ X := by omega
  rw [hX] at c0 hx ⊢
  have hw : wrap64 X = X := by unfold wrap64; omega
  have q : ((n : Int) == 0) = false := by rw [beq_eq_false_iff_ne, h1, List.length_cons]; omega
  have hn1 : 1 ≤ n := by rw [h1, List.length_cons]; omega
  have hn2 : (1 : Int) ≤ (n : Int) := by omega
  have hcn : (n : Int) ≤ (c : Int) := by omega
  clear hcell h1 e2 e3 hX
  unfold dropS
  simp only [addr_at]
  go_enter Tryd.func34, Tryd.ntmps34
  go_wp2_with fail
  go_quiet (fail)
  all_goals go_wp2
  all_goals go_ret3
  all_goals exact ⟨by simp [*], _, rfl⟩

theorem cutNumber_short (a : Option Addr) (n c : Nat) (w : World) (hn : n < 8) : Calls Tryd.prog 35 #[.slice a n c] w fun e w' => e = .returned (.tuple #[.int .i64 0, .slice none 0 0, .bool false]) ∧ w = w' := by
  have q : (n : Int) < 8 := by omega
  clear hn
  go_enter Tryd.func35, Tryd.ntmps35
  go_wp2
  go_ret3
  exact ⟨rfl, rfl⟩
set_option maxHeartbeats 2000000 in
theorem cutNumber_full (B : Nat) (a : Addr) (n c : Nat) (l : List UInt8) (w : World) (hv : Yb B (.slice (some a) n c) l w) (hn : n ≤ 1000000) (h8 : 8 ≤ n) :
    Calls Tryd.prog 35 #[.slice (some a) n c] w fun e w' => e = .returned (.tuple #[.int .i64 ((Wm.val (l.take 8) : Int) - 9223372036854775808), dropS a n c 8, .bool true]) ∧ ∃ q, w' = w.drewN q := by
  rcases hv with ⟨_, _, e, _⟩ | ⟨g, off, cap, e, hcap, hg, hcell⟩
  · injection e with _ e; omega
  injection e with e1 e2 e3
  injection e1 with e1
  subst e1
  have hcn : (n : Int) ≤ (c : Int) := by omega
  have hcn8 : (8 : Int) ≤ (c : Int) := by omega
  have hn8 : (8 : Int) ≤ (n : Int) := by omega
  have hl8 : 8 ≤ l.length := by omega
  have HC : Hid (∀ j, j < 8 → w.cell? ⟨g, off + j, none⟩ = some (Value.int .u8 (l.getD j 0).toNat)) := fun j hj => hcell j (by omega)
  clear hcell e2 e3
  unfold dropS
  simp only [addr_at]
  go_enter Tryd.func35, Tryd.ntmps35
  go_wp2_with fail
  go_loop [5, 14] (fun uv iv => ∃ (m U : Nat), m ≤ 8 ∧ iv = .int .i64 (m : Int) ∧ uv = .int .u64 (U : Int) ∧ Hid (U = Wm.val (l.take m))) (fun _ iv => 8 - (Lib.intOf iv).toNat)
  case atStart => exact ⟨0, 0, by omega, rfl, rfl, rfl⟩
  case round =>
    obtain ⟨m, U, hm, rfl, rfl, HU⟩ := hrel
    by_cases hlt : m < 8
    · have hml : m < l.length := by omega
      obtain ⟨x, hx⟩ : ∃ x, l[m] = x := ⟨_, rfl⟩
      have hcl := HC.out m hlt
      rw [show l.getD m 0 = x by simp [List.getD, hml, hx]] at hcl
      have HU2 : Hid (256 * U + x.toNat = Wm.val (l.take (m + 1))) := by show _ = _; rw [Vm.val_next l m hml, HU.out, hx]
      have hU7 : (U : Int) ≤ 72057594037927935 := by have := Vm.val_b7 l m (by omega); rw [HU.out]; omega
      have hxb : (x.toNat : Int) ≤ 255 := by have := x.toNat_lt; omega
      have hor := or_low U x (by omega)
      clear hx hml hl8
      go_wp2
      go_round
      case rel => exact ⟨m + 1, 256 * U + x.toNat, by omega, by go_num, by go_num, HU2⟩
      case measure => simp [Lib.intOf]; omega
    · have hm8 : m = 8 := by omega
      have hV := Vm.val_b8 l
      obtain ⟨V, hVe⟩ : ∃ V : Int, V = (Wm.val (l.take 8) : Int) := ⟨_, rfl⟩
      have hUV : (U : Int) = V := by rw [HU.out, hm8, hVe]
      have h0 : 0 ≤ V := by omega
      rw [← hVe] at hV
      have hxt := xor_top V h0 hV
      obtain ⟨Z, hZ⟩ : ∃ Z, Z = (V + 9223372036854775808) % 18446744073709551616 := ⟨_, rfl⟩
      rw [← hZ] at hxt
      have hcv : wrap64 Z = V - 9223372036854775808 := by unfold wrap64; omega
      have HVE := Lib.hid hVe
      clear hZ hVe hV HU hm8
      rw [hUV]
      go_wp2_with fail
      go_quiet (fail)
      all_goals go_wp2
      all_goals go_ret3
      all_goals exact ⟨by simp [*]; exact HVE.out, _, rfl⟩

/-! ### unescaping by pieces -/
namespace Vm
theorem un_skip {r : List UInt8} {i : Nat} {t : List UInt8} (h : Un r i t) : ∀ j, i + j < r.length → (∀ c ∈ (r.drop i).take j, c ≠ 0) → Un r (i + j) (t ++ (r.drop i).take j)
  | 0, _, _ => by simpa using h
  | j + 1, hj, hz => by
    have hjl : j < (r.drop i).length := by rw [List.length_drop]; omega
    have htk : (r.drop i).take (j + 1) = (r.drop i).take j ++ [(r.drop i)[j]] := (List.take_append_getElem hjl).symm
    have hg : (r.drop i)[j] = r[i + j] := by rw [List.getElem_drop]
    have h1 := un_skip h j (by omega) (fun c hc => hz c (by rw [htk, List.mem_append]; exact .inl hc))
    have h2 := un_one h1 (by omega) (hz _ (by rw [htk, hg]; simp))
    rw [htk, hg, ← List.append_assoc]
    exact h2
theorem un_nozero {r : List UInt8} {i : Nat} {t : List UInt8} (h : Un r i t) (hz : ∀ c ∈ r.drop i, c ≠ 0) : unesc0 r = none := by
  by_cases hi : r.length ≤ i + 1
  · exact un_short h hi
  · have h1 := un_skip h (r.length - i - 1) (by omega) (fun c hc => hz c (List.mem_of_mem_take hc))
    exact un_short h1 (by omega)
/-- at a zero in place j behind i: what comes then -/
theorem at_zero {r : List UInt8} {i j : Nat} (h : (r.drop i).drop j = 0 :: (r.drop i).drop (j + 1)) : i + j < r.length ∧ r[i + j]? = some 0 ∧ (r.drop i).drop (j + 1) = r.drop (i + j + 1) := by
  rw [List.drop_drop, List.drop_drop] at h
  have hl : i + j < r.length := by
    rcases Nat.lt_or_ge (i + j) r.length with h1 | h1
    · exact h1
    · rw [List.drop_eq_nil_of_le h1] at h; cases h
  rw [List.drop_eq_getElem_cons hl] at h
  injection h with h1 h2
  exact ⟨hl, by rw [List.getElem?_eq_getElem hl, h1], by rw [List.drop_drop]; rfl⟩
theorem cut_short {r : List UInt8} {i j : Nat} {t : List UInt8} (h : Un r i t) (hz : ∀ c ∈ (r.drop i).take j, c ≠ 0) (h0 : (r.drop i).drop j = 0 :: (r.drop i).drop (j + 1)) (he : (r.drop i).drop (j + 1) = []) : unesc0 r = none := by
  obtain ⟨hl, h1, h2⟩ := at_zero h0
  rw [h2, List.drop_eq_nil_iff] at he
  exact un_short (un_skip h j hl hz) he
theorem second {r : List UInt8} {i : Nat} {d : UInt8} {u : List UInt8} (h : r.drop i = d :: u) : ∃ h : i < r.length, r[i] = d := by
  have hl : i < r.length := by
    rcases Nat.lt_or_ge i r.length with h1 | h1
    · exact h1
    · rw [List.drop_eq_nil_of_le h1] at h; cases h
  rw [List.drop_eq_getElem_cons hl] at h
  injection h with h1 h2
  exact ⟨hl, h1⟩
theorem cut_step {r : List UInt8} {i j : Nat} {t : List UInt8} {d : UInt8} {u : List UInt8} (h : Un r i t) (hz : ∀ c ∈ (r.drop i).take j, c ≠ 0) (h0 : (r.drop i).drop j = 0 :: (r.drop i).drop (j + 1)) (he : (r.drop i).drop (j + 1) = d :: u) :
    (d = 1 → unesc0 r = some (t ++ (r.drop i).take j, i + j + 2)) ∧ (d = 255 → Un r (i + j + 2) (t ++ (r.drop i).take j ++ [0])) ∧ (d ≠ 1 → d ≠ 255 → unesc0 r = none) ∧ i + j + 2 ≤ r.length := by
  obtain ⟨hl, h1, h2⟩ := at_zero h0
  rw [h2] at he
  obtain ⟨hl2, h3⟩ := second he
  have hU := un_skip h j hl hz
  have h1' : r[i + j] = 0 := by rw [List.getElem?_eq_getElem hl] at h1; exact Option.some.inj h1
  refine ⟨fun e => un_end hU hl2 h1' (by rw [h3, e]), fun e => un_zero hU hl2 h1' (by rw [h3, e]), fun e1 e2 => un_bad hU hl2 h1' (by rw [h3]; exact e1) (by rw [h3]; exact e2), by omega⟩
end Vm
end Go.Proofs.YtamclbagafcmgaaDoor
/- Package keys: cutString. -/
namespace Go.Proofs.YtamclbagafcmgaaDoor
open Go.RowKit

/-- what cutString leaves -/
def CsA (l : List UInt8) (v : Value) (w : World) (e : Ending) (w' : World) : Prop :=
  Below w.heap.size w w' ∧ ((Vm.unesc0 l = none ∧ e = .returned (.tuple #[.string ⟨#[]⟩, .slice none 0 0, .bool false])) ∨
    ∃ t m a2 n2 c2, Vm.unesc0 l = some (t, m) ∧ e = .returned (.tuple #[.string (bstr t), .slice (some a2) n2 c2, .bool true]) ∧ Behind v (.slice (some a2) n2 c2) m l)
theorem dropS_form (a : Addr) (n c k : Nat) : ∃ a2 n2 c2, dropS a n c k = .slice (some a2) n2 c2 := by
  unfold dropS
  split
  · exact ⟨_, _, _, rfl⟩
  · exact ⟨_, _, _, rfl⟩
theorem bs_dn {w W : World} {B : Nat} (h : Below B w W) (q : Nat) : Below B w (W.drewN q) := h.trans ⟨rfl, rfl, rfl, Nat.le_refl _, fun _ _ => rfl⟩
theorem size_dn (W : World) (q : Nat) : (W.drewN q).heap.size = W.heap.size := rfl
theorem lit_cell (w : World) (x : Value) (e : TypeId) : (w.alloc (.cells #[x] e)).cell? ⟨w.heap.size, 0, none⟩ = some x := by
  rw [Lib.cell_of_heap (heap_alloc_new w _)]; rfl

set_option maxHeartbeats 4000000 in
set_option maxRecDepth 100000 in
theorem key_cutString (a : Addr) (n c : Nat) (l : List UInt8) (w : World) (hv : Yb w.heap.size (.slice (some a) n c) l w) (hl : l.length ≤ 100000) :
    Calls Tryd.prog 36 #[.slice (some a) n c] w (CsA l (.slice (some a) n c) w) := by
  have hnl : n = l.length := by obtain ⟨_, _, e⟩ := hv.form; injection e
  have hn : n ≤ 100000 := by omega
  have HV := Lib.hid hv
  have HN := Lib.hid hnl
  clear hnl hv
  go_enter Tryd.func36, Tryd.ntmps36
  go_wp2_with fail
  go_loopw [0] (fun bv wr => ∃ (i n2 c2 : Nat) (a2 : Addr) (t : List UInt8), bv = .slice (some a2) n2 c2 ∧ n2 ≤ n ∧ Hid (t.length ≤ i ∧ i ≤ n) ∧ Hid (Vm.Un l i t) ∧ Hid (Behind (.slice (some a) n c) (.slice (some a2) n2 c2) i l) ∧ Hid (Lib.IsBuilder 67 5 w.heap.size w.heap.size (yc t) wr) ∧ Hid (Below w.heap.size w wr)) (fun bv _ => (match bv with | .slice _ k _ => k | _ => 0))
  case atStart => exact ⟨0, n, c, a, [], rfl, Nat.le_refl _, ⟨Nat.le_refl _, Nat.zero_le _⟩, Vm.un_start l, fun B W h => by rw [List.drop_zero]; exact h, Lib.fresh_isBuilder _ _ w, (Below.refl _ _).alloc (Nat.le_refl _) _⟩
  case round =>
    obtain ⟨i, n2, c2, a2, t, rfl, hn2, HT, HU, HD, HI, HB⟩ := hrel
    have hsz := HB.out.size
    have HY := Lib.hid (HD.out w.heap.size wr (HV.out.keep HB.out (Nat.le_refl _)))
    have hn2l : n2 = (l.drop i).length := by obtain ⟨_, _, e⟩ := HY.out.form; injection e
    have HB1 := Lib.hid ((Below.refl wr.heap.size wr).alloc (Nat.le_refl _) (.cells #[.int .u8 0] 5))
    have HY1 := Lib.hid ((HY.out.keep HB1.out hsz).yt (by simp; omega))
    have hcell := lit_cell wr (.int .u8 0) 5
    rcases (show Lib.indexByte (l.drop i) 0 < 0 ∨ ∃ j : Nat, Lib.indexByte (l.drop i) 0 = (j : Int) by
      rcases Int.lt_or_le (Lib.indexByte (l.drop i) 0) 0 with h | h
      · exact .inl h
      · exact .inr ⟨(Lib.indexByte (l.drop i) 0).toNat, by omega⟩) with hz | ⟨j, hj⟩
    · have HF := Lib.hid (Vm.un_nozero HU.out (zero_no _ hz))
      have HC := Lib.hid (cut_no a2 n2 c2 wr.heap.size (l.drop i) _ HY1.out hcell hz)
      clear hz hcell hn2l
      go_wp2_with fail
      refine HC.out.mono ?_
      rintro e w1 ⟨rfl, q, rfl⟩
      go_wp2_with fail
      refine (cutByte_nil none 0 _).mono ?_
      rintro e w1 ⟨rfl, rfl⟩
      go_wp2
      go_ret3
      exact ⟨bs_dn (HB.out.trans (HB1.out.mono hsz)) q, .inl ⟨HF.out, rfl⟩⟩
    · obtain ⟨hj1, hz, h0⟩ := zero_yes _ j hj
      rw [← hn2l] at hj1
      obtain ⟨a3, n3, c3, e3⟩ := dropS_form a2 n2 c2 (j + 1)
      have hcap := HY.out.cap (by omega)
      have HC := Lib.hid (cut_yes a2 n2 c2 wr.heap.size j (l.drop i) _ HY1.out hcell hj (by omega) hcap.2)
      have hb3 := behind_drop a2 n2 c2 (j + 1) (l.drop i) (by omega) (by omega)
      rw [e3] at hb3
      have HB3 := Lib.hid hb3
      have hcut : cutY a2 n2 c2 j = .tuple #[.slice (some a2) j c2, .slice (some a3) n3 c3, .bool true] := by rw [← e3]; rfl
      rw [hcut] at HC
      have hn3 : n3 = n2 - (j + 1) := by have := e3; unfold dropS at this; split at this <;> (injection this with _ h; exact h.symm)
      clear hcut e3 hb3
      cases he : (l.drop i).drop (j + 1) with
      | nil =>
        have HF := Lib.hid (Vm.cut_short HU.out hz h0 he)
        have hn30 : n3 = 0 := by
          have h : ((l.drop i).drop (j + 1)).length = 0 := by rw [he]; rfl
          rw [List.length_drop, ← hn2l] at h
          omega
        subst hn30
        clear hj hz h0 he hcell hn2l hn3 hcap
        go_wp2_with fail
        refine HC.out.mono ?_
        rintro e w1 ⟨rfl, q, rfl⟩
        go_wp2_with fail
        refine (cutByte_nil (some a3) c3 _).mono ?_
        rintro e w1 ⟨rfl, rfl⟩
        go_wp2
        go_ret3
        exact ⟨bs_dn (HB.out.trans (HB1.out.mono hsz)) q, .inl ⟨HF.out, rfl⟩⟩
      | cons d u =>
        obtain ⟨s1, s2, s3, s4⟩ := Vm.cut_step HU.out hz h0 he
        have S1 := Lib.hid s1; have S2 := Lib.hid s2; have S3 := Lib.hid s3
        have hy3 := HB3.out w.heap.size wr HY.out
        rw [he] at hy3
        have HY3 := Lib.hid hy3
        have hy0 := HY.out.take (j := j) (by omega)
        have HY0 := Lib.hid hy0
        obtain ⟨P, hP⟩ : ∃ P, P = (l.drop i).take j := ⟨_, rfl⟩
        have hPl : P.length = j := by rw [hP, List.length_take]; omega
        obtain ⟨a4, n4, c4, e4⟩ := dropS_form a3 n3 c3 1
        have hb4 := behind_drop a3 n3 c3 1 (d :: u) (by omega) (by simp)
        rw [e4] at hb4
        have HB4 : Hid (Behind (.slice (some a) n c) (.slice (some a4) n4 c4) (i + j + 2) l) := by
          have h1 := HD.out.trans HB3.out
          have h2 := h1.trans (show Behind (.slice (some a3) n3 c3) (.slice (some a4) n4 c4) 1 (l.drop (i + (j + 1))) by rw [← List.drop_drop, he]; exact hb4)
          exact h2
        have hn4 : n4 = n3 - 1 := by have := e4; unfold dropS at this; split at this <;> (injection this with _ h; exact h.symm)
        have HC4 := Lib.hid (fun W (hW : Below w.heap.size wr W) => cutByte_cons w.heap.size a3 n3 c3 d u W (HY3.out.keep hW (Nat.le_refl _)) (by omega))
        rw [e4] at HC4
        have HYW := Lib.hid (fun W (hW : Below w.heap.size wr W) => HY0.out.keep hW (Nat.le_refl _))
        rw [← hP] at S1 S2 HYW
        have hTl : t.length ≤ i ∧ i ≤ n := HT.out
        have hlen : i + j + 2 ≤ n := by rw [HN.out]; exact s4
        have hlen2 : (yc t).length + P.length ≤ 100000000 := by rw [yc_length]; omega
        have HL := Lib.hid hlen2
        have HT2 : Hid ((t ++ P ++ [0]).length ≤ i + j + 2 ∧ i + j + 2 ≤ n) := by
          refine ⟨?_, hlen⟩
          rw [List.length_append, List.length_append, hPl]
          simp; omega
        have hn4m : n4 < n2 := by omega
        have hn4n : n4 ≤ n := by omega
        have HBW := Lib.hid (HB1.out.mono hsz)
        clear hlen2 hlen hTl hn4 hb4 e4 hPl hP hy0 hy3 s1 s2 s3 s4
        clear he hn3 hcap h0 hz hj1 hj hcell hn2l
        go_wp2_with fail
        refine HC.out.mono ?_
        rintro e w1 ⟨rfl, q, rfl⟩
        have HB5 := Lib.hid (bs_dn HBW.out q)
        have HI5 := Lib.hid (IsBuilder.of_below HI.out (bs_dn HB1.out q))
        obtain ⟨W5, hW5⟩ : ∃ W5, W5 = (wr.alloc (.cells #[.int .u8 0] 5)).drewN q := ⟨_, rfl⟩
        rw [← hW5] at HB5 HI5 ⊢
        clear hW5 HC HB1 HBW HY1 HI
        go_wp2_with fail
        refine (HC4.out W5 HB5.out).mono ?_
        rintro e w1 ⟨rfl, q2, rfl⟩
        have HB6 := Lib.hid (bs_dn HB5.out q2)
        have HI6 := Lib.hid (IsBuilder.of_below HI5.out (bs_dn (Below.refl _ _) q2))
        obtain ⟨W6, hW6⟩ : ∃ W6, W6 = W5.drewN q2 := ⟨_, rfl⟩
        rw [← hW6] at HB6 HI6 ⊢
        clear hW6 HC4 HB5 HI5
        have hs6 := HB6.out.size
        go_wp2_with fail
        refine (kb_write w.heap.size w.heap.size (yc t) (some a2) j c2 P W6 HI6.out ((HYW.out W6 HB6.out).yt (by omega)) (fun W hW => (HYW.out W (HB6.out.trans hW)).yt (by have := hW.size; omega)) HL.out (by omega)).mono ?_
        rintro e W7 ⟨rfl, hb7, hw7⟩
        rw [← yc_append] at hb7
        have HI7 : Hid (Lib.IsBuilder 67 5 w.heap.size w.heap.size (yc (t ++ P)) W7) := .inr hb7
        have HB7 := Lib.hid (HB6.out.trans hw7)
        have hs7 := HB7.out.size
        clear hb7 hw7 HI6 HB6 HYW hs6
        by_cases d1 : d = 1
        · have p1 : ((d.toNat : Int) == 1) = true := by rw [d1]; rfl
          have HF := Lib.hid (S1.out d1)
          clear d1
          go_wp2_with fail
          refine (kb_string w.heap.size w.heap.size (t ++ P) W7 HI7.out (by omega)).mono ?_
          rintro e W8 ⟨rfl, hw8⟩
          have HB8 := Lib.hid (HB.out.trans (HB7.out.trans hw8))
          clear hw8
          go_wp2
          go_ret3
          exact ⟨HB8.out, .inr ⟨t ++ P, i + j + 2, a4, n4, c4, HF.out, rfl, HB4.out⟩⟩
        have p1 : ((d.toNat : Int) == 1) = false := by rw [beq_eq_false_iff_ne]; intro e; exact d1 (UInt8.toNat_inj.1 (by show d.toNat = 1; omega))
        by_cases d2 : d = 255
        · have p2 : ((d.toNat : Int) == 255) = true := by rw [d2]; rfl
          have HU2 := Lib.hid (S2.out d2)
          clear d1 d2
          go_wp2_with fail
          refine (kb_byte w.heap.size w.heap.size (yc (t ++ P)) 0 W7 HI7.out (by have := HL.out; rw [yc_length] at this; rw [yc_length, List.length_append]; omega) (by omega)).mono ?_
          rintro e W8 ⟨rfl, hb8, hw8⟩
          have HB8 := Lib.hid (HB.out.trans (HB7.out.trans hw8))
          have HI8 : Hid (Lib.IsBuilder 67 5 w.heap.size w.heap.size (yc (t ++ P ++ [0])) W8) := by rw [yc_append]; exact .inr hb8
          clear hw8 hb8
          go_wp2
          go_roundw
          case rel => exact ⟨i + j + 2, n4, c4, a4, t ++ P ++ [0], rfl, hn4n, HT2, HU2, HB4, HI8, HB8⟩
          case measure => simp; omega
        · have p2 : ((d.toNat : Int) == 255) = false := by rw [beq_eq_false_iff_ne]; intro e; exact d2 (UInt8.toNat_inj.1 (by show d.toNat = 255; omega))
          have HF := Lib.hid (S3.out d1 d2)
          have HB8 := Lib.hid (HB.out.trans HB7.out)
          clear d1 d2
          go_wp2
          go_ret3
          exact ⟨HB8.out, .inl ⟨HF.out, rfl⟩⟩
end Go.Proofs.YtamclbagafcmgaaDoor
