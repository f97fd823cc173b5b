/- Slices of bytes in memory, for the walks over layer 3. -/
import Derived.Test.YtpbmjknhfgdnnaaGreatDoorValRa
import Derived.Test.YtpbmjknhfgdnnaaGreatDoorKitAppend
import Derived.Lib.Builder
import Derived.Test.YtpbmjknhfgdnnaaGreatDoorValRd
import Derived.Test.YtpbmjknhfgdnnaaGreatDoorValR5
namespace Go.Proofs.YtpbmjknhfgdnnaaGreatDoor
open Go.RowKit

/-- bytes as cells -/
def yc (l : List UInt8) : List Value := l.map fun b => Value.int .u8 b.toNat
theorem yc_length (l : List UInt8) : (yc l).length = l.length := by simp [yc]
theorem yc_append (l r : List UInt8) : yc (l ++ r) = yc l ++ yc r := by simp [yc]
theorem yc_get (l : List UInt8) (j : Nat) : (yc l)[j]? = l[j]?.map fun b => Value.int .u8 b.toNat := by simp [yc]
theorem yc_one (l : List UInt8) : ∀ u ∈ yc l, u.oneCell' = true := by
  intro u hu; obtain ⟨b, _, rfl⟩ := List.mem_map.1 hu; rfl

/-- BYTES: what is known of their cells -/
def Yt (v : Value) (l : List UInt8) (w : World) : Prop :=
  (∃ a c, v = .slice a 0 c ∧ l = []) ∨
  ∃ g off cap, v = .slice (some ⟨g, off, none⟩) l.length cap ∧ l.length ≤ cap ∧ g < w.heap.size ∧ ∀ j, j < l.length → w.cell? ⟨g, off + j, none⟩ = some (Value.int .u8 (l.getD j 0).toNat)

theorem Yt.keep {v : Value} {l : List UInt8} {w w' : World} (h : Yt v l w) (hb : Below w.heap.size w w') : Yt v l w' := by
  rcases h with h | ⟨g, off, cap, rfl, hc, hg, hcell⟩
  · exact .inl h
  · exact .inr ⟨g, off, cap, rfl, hc, by have := hb.size; omega, fun j hj => (hb.cell (p := ⟨g, off + j, none⟩) hg).trans (hcell j hj)⟩
theorem Yt.form {v : Value} {l : List UInt8} {w : World} (h : Yt v l w) : ∃ a c, v = .slice a l.length c := by
  rcases h with ⟨a, c, rfl, rfl⟩ | ⟨g, off, cap, rfl, _⟩
  · exact ⟨_, _, rfl⟩
  · exact ⟨_, _, rfl⟩
theorem Yt.src {v : Value} {l : List UInt8} {w : World} (h : Yt v l w) : Src Tryz.prog 1 30 v l.length (yc l) w := by
  rcases h with ⟨a, c, rfl, rfl⟩ | ⟨g, off, cap, rfl, _, _, hc⟩
  · cases a with
    | none => exact Src.ofNil w Tryz.underlying30 c
    | some a => exact Src.ofSlice w Tryz.underlying30 a 0 c [] rfl (fun j u h => by simp at h) (fun u h => by simp at h)
  · refine Src.ofSlice w Tryz.underlying30 ⟨g, off, none⟩ l.length cap (yc l) (by rw [yc_length]; omega) ?_ (yc_one l)
    intro j u hj
    have hjn : j < l.length := by
      have := (List.getElem?_eq_some_iff.1 hj).1
      rwa [yc_length] at this
    rw [yc_get] at hj
    have hadd : (⟨g, off, none⟩ : Addr).add j = ⟨g, off + j, none⟩ := by unfold Addr.add; split <;> simp_all
    rw [hadd, hc j hjn]
    simpa [List.getD, hjn] using hj
theorem Yt.str {v : Value} {l : List UInt8} {w : World} (h : Yt v l w) : (convert 30 9 v).run Tryz.prog w = .ok (.string (bstr l)) w := by
  rcases h with ⟨a, c, rfl, rfl⟩ | ⟨g, off, cap, rfl, _, _, hc⟩
  · cases a with
    | none => exact run_convert_bytes_nil w 30 5 Tryz.underlying30 Tryz.underlying5 0 c 9 Tryz.underlying9
    | some a =>
      rw [run_convert_bytes_string w 30 9 5 _ 0 c Tryz.underlying30 Tryz.underlying5 Tryz.underlying9, run_bytesToString w _ 0 c [] (by simp [loadCells, loadCellsFrom])]
      rfl
  · rw [run_convert_bytes_arg w 30 5 Tryz.underlying30 Tryz.underlying5 g off l.length cap (l.map fun b => (b.toNat : Int)) (by simp) ?_ 9 Tryz.underlying9]
    · have : strOfNums (l.map fun b => (b.toNat : Int)) = bstr l := by
        unfold strOfNums bstr
        congr 2
        rw [List.map_map]
        conv => rhs; rw [← List.map_id l]
        apply List.map_congr_left
        intro a _
        simp
      rw [this]
    · intro i hi
      rw [hc i hi]
      simp [List.getD, hi]
theorem Yt.of_own {w : World} {B : Nat} {v : Value} {l : List UInt8} {n : Nat} (h : w.ownsRow B 5 1 v n (yc l)) : Yt v l w := by
  obtain ⟨h1, h2⟩ := h
  have hn : l.length = n := by rw [yc_length] at h1; omega
  rcases h2 with ⟨rfl, rfl⟩ | ⟨g, cap, cur, rfl, _, hg, hc, hm, hs, ht⟩
  · exact .inl ⟨_, _, rfl, List.eq_nil_of_length_eq_zero hn⟩
  · refine .inr ⟨g, 0, cap, by rw [hn], by omega, (Array.getElem?_eq_some_iff.1 hg).1, fun j hj => ?_⟩
    have hb : (yc l)[j]? = some (Value.int .u8 (l.getD j 0).toNat) := by rw [yc_get]; simp [List.getD, hj]
    rw [← ht, List.getElem?_take] at hb
    rw [Lib.cell_of_heap hg, Nat.zero_add]
    split at hb
    · simpa using hb
    · cases hb
theorem info5y : (Tryz.prog.info? 5).map (fun i => (i.zero, i.size, i.bytes)) = some (some (.int .u8 0), 1, 1) := by kernel_rfl
theorem own_lity (w : World) (x : UInt8) (B : Nat) (hB : B ≤ w.heap.size) : (w.alloc (.cells #[.int .u8 (x.toNat : Int)] 5)).ownsRow B 5 1 (.slice (some ⟨w.heap.size, 0, none⟩) 1 1) 1 (yc [x]) :=
  ⟨rfl, .inr ⟨w.heap.size, 1, #[.int .u8 (x.toNat : Int)], rfl, hB, heap_alloc_new w _, Nat.le_refl _, by unfold maxLen; decide, rfl, rfl⟩⟩
theorem lit_srcy (w : World) (x : UInt8) : Src Tryz.prog 1 30 (.slice (some ⟨w.heap.size, 0, none⟩) 1 1) 1 (yc [x]) (w.alloc (.cells #[.int .u8 (x.toNat : Int)] 5)) :=
  (Yt.of_own (own_lity w x 0 (Nat.zero_le _))).src
end Go.Proofs.YtpbmjknhfgdnnaaGreatDoor
/- The reference of layer 3: inner. -/
namespace Go.Proofs.YtpbmjknhfgdnnaaGreatDoor
open Go.RowKit

/-- what a function that answers a string and a truth leaves -/
def StrB (o : Option (List UInt8)) (w : World) (e : Ending) (w' : World) : Prop := e = .returned (.tuple #[.string (bstr (o.getD [])), .bool o.isSome]) ∧ Below w.heap.size w w'

theorem inner_no (s : ByteArray) (h : s.size < 2 ∨ s.data.toList.head? ≠ some 39 ∨ s.data.toList.getLast? ≠ some 39) : Vm.inner s.data.toList = none := by
  unfold Vm.inner; rw [if_pos]
  rcases h with h | h | h
  · left; simpa using h
  · right; left; exact h
  · right; right; exact h
theorem inner_yes (s : ByteArray) (h1 : 2 ≤ s.size) (h2 : s.data.toList.head? = some 39) (h3 : s.data.toList.getLast? = some 39) : Vm.inner s.data.toList = Vm.unesc (s.extract 1 (s.size - 1)).data.toList := by
  unfold Vm.inner
  have hl : s.data.toList.length = s.size := by simp
  rw [if_neg (by rw [hl]; rintro (h | h | h); omega; exact h h2; exact h h3)]
  have e : (s.extract 1 (s.size - 1)).data.toList = (s.data.toList.drop 1).take (s.size - 1 - 1) := by
    have h := bstr_extract s.data.toList 1 (s.size - 1)
    rw [show bstr s.data.toList = s from rfl] at h
    rw [h, bstr_data]
  rw [e, hl, show s.size - 1 - 1 = s.size - 2 by omega]
theorem last_at (s : ByteArray) (h : 0 < s.size) : s.data.toList.getLast? = some (s[s.size - 1]'(by omega)) := by
  rw [List.getLast?_eq_getElem?, List.getElem?_eq_getElem (by simp; omega)]
  simp; rfl
theorem head_at (s : ByteArray) (h : 0 < s.size) : s.data.toList.head? = some s[0] := by
  rw [List.head?_eq_getElem?, List.getElem?_eq_getElem (by simp; exact h)]; rfl
theorem unesc_ne (c : UInt8) (r : List UInt8) (h : c ≠ 39) : Vm.unesc (c :: r) = (Vm.unesc r).map (c :: ·) := by
  cases r with
  | nil => simp [Vm.unesc, h]
  | cons d r => rw [Vm.unesc, if_neg h]
theorem unesc_two (r : List UInt8) : Vm.unesc (39 :: 39 :: r) = (Vm.unesc r).map (39 :: ·) := by rw [Vm.unesc, if_pos rfl, if_pos rfl]
theorem unesc_bad (r : List UInt8) (h : r.head? ≠ some 39) : Vm.unesc (39 :: r) = none := by
  cases r with
  | nil => simp [Vm.unesc]
  | cons d r => rw [Vm.unesc, if_pos rfl, if_neg (by simpa using h)]
theorem u39 (c : UInt8) : (((c.toNat : Int) == 39) = true ↔ c = 39) := by
  rw [beq_iff_eq]
  constructor
  · intro h; exact UInt8.toNat_inj.1 (by show c.toNat = 39; omega)
  · intro h; rw [h]; rfl
theorem u39n (c : UInt8) (h : c ≠ 39) : ((c.toNat : Int) == 39) = false ∧ ((c.toNat : Int) != 39) = true := by
  have : ((c.toNat : Int) == 39) = false := by cases h' : ((c.toNat : Int) == 39); rfl; exact absurd ((u39 c).1 h') h
  exact ⟨this, by rw [bne, this]; rfl⟩
theorem u39y (c : UInt8) (h : c = 39) : ((c.toNat : Int) == 39) = true ∧ ((c.toNat : Int) != 39) = false := by
  have := (u39 c).2 h
  exact ⟨this, by rw [bne, this]; rfl⟩

set_option maxHeartbeats 1000000 in
set_option maxRecDepth 100000 in
theorem ref3_inner_no (s : ByteArray) (w : World) (hz : s.size ≤ maxLen) (h : s.size < 2 ∨ s.data.toList.head? ≠ some 39 ∨ s.data.toList.getLast? ≠ some 39) :
    Calls Tryz.prog 55 #[.string s] w (StrB (Vm.inner s.data.toList) w) := by
  unfold maxLen at hz
  rw [inner_no s h]
  by_cases h2 : s.size < 2
  · have h2i : (s.size : Int) < 2 := by omega
    clear h
    go_enter Tryz.func55, Tryz.ntmps55
    go_wp2
    go_ret2
    exact ⟨rfl, Below.refl _ _⟩
  · have hs0 : 0 < s.size := by omega
    have h2d : decide ((s.size : Int) < 2) = false := by simp; omega
    rw [head_at s hs0, last_at s hs0] at h
    obtain ⟨c, hc⟩ : ∃ c, s[0] = c := ⟨_, rfl⟩
    obtain ⟨d, hd⟩ : ∃ d, s[s.size - 1]'(by omega) = d := ⟨_, rfl⟩
    rw [hc, hd] at h
    have hci : s[0].toNat = c.toNat := by rw [hc]
    have hdi : (s[s.size - 1]'(by omega)).toNat = d.toNat := by rw [hd]
    have hix : IntKind.i64.wrap ((s.size : Int) - 1) = ((s.size - 1 : Nat) : Int) := by rw [IntWalk.i64_in _ (by omega)]; omega
    have hlt : s.size - 1 < s.size := by omega
    clear hc hd
    by_cases h39 : c = 39
    · have hd39 : d ≠ 39 := by
        rcases h with h | h | h
        · exact absurd h h2
        · exact absurd (by rw [h39]) h
        · intro e; exact h (by rw [e])
      obtain ⟨q1, q2⟩ := u39y c h39
      obtain ⟨q3, q4⟩ := u39n d hd39
      clear h h39 hd39
      go_enter Tryz.func55, Tryz.ntmps55
      go_wp2
      go_ret2
      exact ⟨rfl, Below.refl _ _⟩
    · obtain ⟨q1, q2⟩ := u39n c h39
      clear h h39
      go_enter Tryz.func55, Tryz.ntmps55
      go_wp2
      go_ret2
      exact ⟨rfl, Below.refl _ _⟩
end Go.Proofs.YtpbmjknhfgdnnaaGreatDoor
/- The reference of layer 3: inner, the loop; inner whole. -/
namespace Go.Proofs.YtpbmjknhfgdnnaaGreatDoor
open Go.RowKit

theorem map_app (o : Option (List UInt8)) (B : List UInt8) (c : UInt8) : (o.map (c :: ·)).map (B ++ ·) = o.map ((B ++ [c]) ++ ·) := by cases o <;> simp
theorem nil_map (o : Option (List UInt8)) : o.map (([] : List UInt8) ++ ·) = o := by cases o <;> simp

set_option maxHeartbeats 4000000 in
set_option maxRecDepth 100000 in
theorem ref3_inner_yes (s : ByteArray) (w : World) (hz : s.size ≤ 1000000) (h1 : 2 ≤ s.size) (h2 : s.data.toList.head? = some 39) (h3 : s.data.toList.getLast? = some 39) :
    Calls Tryz.prog 55 #[.string s] w (StrB (Vm.inner s.data.toList) w) := by
  obtain ⟨i0, hi0, hz0, hz1, hz2⟩ := info_parts info5y
  have HI0 := Lib.hid hi0; have HZ0 := Lib.hid hz0; have HZ1 := Lib.hid hz1; have HZ2 := Lib.hid hz2
  clear hi0 hz0 hz1 hz2
  rw [inner_yes s h1 h2 h3]
  have hs0 : 0 < s.size := by omega
  rw [head_at s hs0] at h2
  rw [last_at s hs0] at h3
  have q1 := (u39y s[0] (by simpa using h2)).2
  have q2 := (u39y (s[s.size - 1]'(by omega)) (by simpa using h3)).2
  have h2d : decide ((s.size : Int) < 2) = false := by simp; omega
  have hix : IntKind.i64.wrap ((s.size : Int) - 1) = ((s.size - 1 : Nat) : Int) := by rw [IntWalk.i64_in _ (by omega)]; omega
  have hlt : s.size - 1 < s.size := by omega
  have hge : 1 ≤ s.size - 1 := by omega
  obtain ⟨T, hT⟩ : ∃ T, s.extract 1 (s.size - 1) = T := ⟨_, rfl⟩
  have hTs : T.size ≤ 1000000 := by rw [← hT]; simp; omega
  rw [hT]
  obtain ⟨o, ho⟩ : ∃ o, o = Vm.unesc T.data.toList := ⟨_, rfl⟩
  rw [← ho]
  have HO0 := Lib.hid ho
  clear h2 h3 ho
  go_enter Tryz.func55, Tryz.ntmps55
  go_wp2_with fail
  clear q1 q2 h2d hix hge hT
  go_loopw [4, 5] (fun bv iv wr => ∃ (j : Nat) (B : List UInt8) (aa : Option Addr) (kk cc : Nat), j ≤ T.size ∧ iv = .int .i64 (j : Int) ∧ bv = .slice aa kk cc ∧ kk ≤ j ∧ Hid (B.length = kk) ∧ Hid (o = (Vm.unesc (T.data.toList.drop j)).map (B ++ ·)) ∧ Hid (wr.ownsRow w.heap.size 5 1 (.slice aa kk cc) kk (yc B)) ∧ Hid (Below w.heap.size w wr)) (fun _ iv _ => T.size - (Lib.intOf iv).toNat)
  case atStart => exact ⟨0, [], none, 0, 0, Nat.zero_le _, rfl, rfl, Nat.le_refl _, rfl, (by rw [List.drop_zero, nil_map]; exact HO0.out), World.ownsRow_nil _ _ _ _, Below.refl _ _⟩
  case round =>
    obtain ⟨j, B, aa, kk, cc, hj, rfl, rfl, hkj, HKK, HM, HO, HB⟩ := hrel
    clear HO0
    have hsz := HB.out.size
    by_cases hjs : j < T.size
    · obtain ⟨c, hc⟩ : ∃ c, T[j] = c := ⟨_, rfl⟩
      have hst : o = (Vm.unesc (c :: T.data.toList.drop (j + 1))).map (B ++ ·) := by rw [HM.out, drop_cons T j hjs, hc]
      have hci : T[j].toNat = c.toNat := by rw [hc]
      have hc256 := c.toNat_lt
      have hwj : IntKind.i64.wrap ((j : Int) + 1) = ((j + 1 : Nat) : Int) := by rw [IntWalk.i64_in _ (by omega)]; omega
      by_cases h39 : c = 39
      · obtain ⟨q1, q2⟩ := u39y c h39
        by_cases hj1 : j + 1 < T.size
        · obtain ⟨d, hd⟩ : ∃ d, T[j + 1] = d := ⟨_, rfl⟩
          have hdi : T[j + 1].toNat = d.toNat := by rw [hd]
          have q5 : (((j + 1 : Nat) : Int) == (T.size : Int)) = false := by rw [beq_eq_false_iff_ne]; omega
          rw [drop_cons T (j + 1) hj1, hd, h39] at hst
          by_cases hd39 : d = 39
          · obtain ⟨q3, q4⟩ := u39y d hd39
            rw [hd39, unesc_two, map_app] at hst
            have hst2 : o = (Vm.unesc (T.data.toList.drop (j + 2))).map ((B ++ [c]) ++ ·) := by rw [hst, h39]
            have HM2 := Lib.hid hst2
            have hwj2 : IntKind.i64.wrap (((j + 1 : Nat) : Int) + 1) = ((j + 2 : Nat) : Int) := by rw [IntWalk.i64_in _ (by omega)]; omega
            clear hst hst2 HM hc hd h39 hd39 hj
            go_wp2_with (at_builtin; refine wpList_append_src _ rfl (.tmp 33) (.tmp 37) 30 30 rfl w.heap.size 5 i0 (.int .u8 0) 1 1 Tryz.underlying30 HI0.out HZ0.out HZ1.out HZ2.out rfl (.slice aa kk cc) kk (yc B) rfl (HO.out.alloc _) _ 1 (yc [c]) rfl ?qsa ?qaa ?qba ?qca ?_)
            case qsa => exact lit_srcy wr c
            case qaa => unfold maxLen; omega
            case qba => omega
            case qca => simp; omega
            intro v2 w2 hown hgrow hat
            have hbel := (HB.out.alloc hsz _).grown hgrow (by simp; omega) (fun i hi => (HO.out.lt i hi).1)
            have hown2 : w2.ownsRow w.heap.size 5 1 v2 (kk + 1) (yc (B ++ [c])) := by rw [yc_append]; exact hown
            obtain ⟨a2, c2, hv2⟩ : ∃ a2 c2, v2 = .slice a2 (kk + 1) c2 := by
              obtain ⟨a2, c2, e⟩ := (Yt.of_own hown2).form
              rw [List.length_append, List.length_singleton, HKK.out] at e; exact ⟨a2, c2, e⟩
            rw [hv2] at hown2 ⊢
            have HO2 := Lib.hid hown2
            have HB2 := Lib.hid hbel
            clear hown hgrow hat hbel hown2 hv2
            go_wp2
            go_roundw
            case rel => exact ⟨j + 2, B ++ [c], a2, kk + 1, c2, by omega, by go_num, rfl, by omega, (by show _ = _; rw [List.length_append, List.length_singleton, HKK.out]), HM2, HO2, HB2⟩
            case measure => simp [Lib.intOf]; omega
          · obtain ⟨q3, q4⟩ := u39n d hd39
            have hst2 : o = none := by rw [hst, unesc_bad _ (by simpa using hd39)]; rfl
            have HM2 := Lib.hid hst2
            clear hst hst2 HM hc hd h39 hd39 hj
            go_wp2_with (at_builtin; refine wpList_append_src _ rfl (.tmp 33) (.tmp 37) 30 30 rfl w.heap.size 5 i0 (.int .u8 0) 1 1 Tryz.underlying30 HI0.out HZ0.out HZ1.out HZ2.out rfl (.slice aa kk cc) kk (yc B) rfl (HO.out.alloc _) _ 1 (yc [c]) rfl ?qsb ?qab ?qbb ?qcb ?_)
            case qsb => exact lit_srcy wr c
            case qab => unfold maxLen; omega
            case qbb => omega
            case qcb => simp; omega
            intro v2 w2 hown hgrow hat
            have hbel := (HB.out.alloc hsz _).grown hgrow (by simp; omega) (fun i hi => (HO.out.lt i hi).1)
            have hown2 : w2.ownsRow w.heap.size 5 1 v2 (kk + 1) (yc (B ++ [c])) := by rw [yc_append]; exact hown
            obtain ⟨a2, c2, hv2⟩ : ∃ a2 c2, v2 = .slice a2 (kk + 1) c2 := by
              obtain ⟨a2, c2, e⟩ := (Yt.of_own hown2).form
              rw [List.length_append, List.length_singleton, HKK.out] at e; exact ⟨a2, c2, e⟩
            rw [hv2] at hown2 ⊢
            have HO2 := Lib.hid hown2
            have HB2 := Lib.hid hbel
            clear hown hgrow hat hbel hown2 hv2
            go_wp2
            go_ret2
            exact ⟨by rw [HM2.out]; rfl, HB2.out⟩
        · have hj2 : j + 1 = T.size := by omega
          have q5 : (((j + 1 : Nat) : Int) == (T.size : Int)) = true := by rw [beq_iff_eq]; omega
          have hst2 : o = none := by
            rw [hst, h39, drop_end T (j + 1) (by omega), unesc_bad _ (by simp)]; rfl
          have HM2 := Lib.hid hst2
          clear hst hst2 HM hc h39 hj hj2
          go_wp2_with (at_builtin; refine wpList_append_src _ rfl (.tmp 33) (.tmp 37) 30 30 rfl w.heap.size 5 i0 (.int .u8 0) 1 1 Tryz.underlying30 HI0.out HZ0.out HZ1.out HZ2.out rfl (.slice aa kk cc) kk (yc B) rfl (HO.out.alloc _) _ 1 (yc [c]) rfl ?qsc ?qac ?qbc ?qcc ?_)
          case qsc => exact lit_srcy wr c
          case qac => unfold maxLen; omega
          case qbc => omega
          case qcc => simp; omega
          intro v2 w2 hown hgrow hat
          have hbel := (HB.out.alloc hsz _).grown hgrow (by simp; omega) (fun i hi => (HO.out.lt i hi).1)
          have hown2 : w2.ownsRow w.heap.size 5 1 v2 (kk + 1) (yc (B ++ [c])) := by rw [yc_append]; exact hown
          obtain ⟨a2, c2, hv2⟩ : ∃ a2 c2, v2 = .slice a2 (kk + 1) c2 := by
            obtain ⟨a2, c2, e⟩ := (Yt.of_own hown2).form
            rw [List.length_append, List.length_singleton, HKK.out] at e; exact ⟨a2, c2, e⟩
          rw [hv2] at hown2 ⊢
          have HO2 := Lib.hid hown2
          have HB2 := Lib.hid hbel
          clear hown hgrow hat hbel hown2 hv2
          go_wp2
          go_ret2
          exact ⟨by rw [HM2.out]; rfl, HB2.out⟩
      · obtain ⟨q1, q2⟩ := u39n c h39
        rw [unesc_ne c _ h39, map_app] at hst
        have HM2 := Lib.hid hst
        clear hst HM hc h39
        go_wp2_with (at_builtin; refine wpList_append_src _ rfl (.tmp 33) (.tmp 37) 30 30 rfl w.heap.size 5 i0 (.int .u8 0) 1 1 Tryz.underlying30 HI0.out HZ0.out HZ1.out HZ2.out rfl (.slice aa kk cc) kk (yc B) rfl (HO.out.alloc _) _ 1 (yc [c]) rfl ?qsd ?qad ?qbd ?qcd ?_)
        case qsd => exact lit_srcy wr c
        case qad => unfold maxLen; omega
        case qbd => omega
        case qcd => simp; omega
        intro v2 w2 hown hgrow hat
        have hbel := (HB.out.alloc hsz _).grown hgrow (by simp; omega) (fun i hi => (HO.out.lt i hi).1)
        have hown2 : w2.ownsRow w.heap.size 5 1 v2 (kk + 1) (yc (B ++ [c])) := by rw [yc_append]; exact hown
        obtain ⟨a2, c2, hv2⟩ : ∃ a2 c2, v2 = .slice a2 (kk + 1) c2 := by
          obtain ⟨a2, c2, e⟩ := (Yt.of_own hown2).form
          rw [List.length_append, List.length_singleton, HKK.out] at e; exact ⟨a2, c2, e⟩
        rw [hv2] at hown2 ⊢
        have HO2 := Lib.hid hown2
        have HB2 := Lib.hid hbel
        clear hown hgrow hat hbel hown2 hv2
        go_wp2
        go_roundw
        case rel => exact ⟨j + 1, B ++ [c], a2, kk + 1, c2, by omega, by go_num, rfl, by omega, (by show _ = _; rw [List.length_append, List.length_singleton, HKK.out]), HM2, HO2, HB2⟩
        case measure => simp [Lib.intOf]; omega
    · have hst : o = some B := by rw [HM.out, drop_end T j (by omega)]; simp [Vm.unesc]
      have HM2 := Lib.hid hst
      have hcv := (Yt.of_own HO.out).str
      clear hst HM
      go_wp2
      go_ret2
      exact ⟨by rw [HM2.out]; rfl, HB.out⟩

theorem ref3_inner (s : ByteArray) (w : World) (hz : s.size ≤ 1000000) : Calls Tryz.prog 55 #[.string s] w (StrB (Vm.inner s.data.toList) w) := by
  by_cases h : s.size < 2 ∨ s.data.toList.head? ≠ some 39 ∨ s.data.toList.getLast? ≠ some 39
  · exact ref3_inner_no s w (by unfold maxLen; omega) h
  · have h1 : 2 ≤ s.size := by
      rcases Nat.lt_or_ge s.size 2 with h' | h'
      · exact absurd (.inl h') h
      · exact h'
    have h2 : s.data.toList.head? = some 39 := Classical.byContradiction fun e => h (.inr (.inl e))
    have h3 : s.data.toList.getLast? = some 39 := Classical.byContradiction fun e => h (.inr (.inr e))
    exact ref3_inner_yes s w hz h1 h2 h3
end Go.Proofs.YtpbmjknhfgdnnaaGreatDoor
