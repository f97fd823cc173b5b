/- Layer 8: the walk of TreeShapes. -/
import Derived.Test.YtlakolcjgnmllaaTreG5
import Derived.Test.YtlakolcjgnmllaaTreOm
namespace Go.Proofs.Ytlakolcjgnmllaa
open Go.RowKit

/-- numbers of 16 bits: what is known of their cells -/
def Ut (v : Value) (l : List Nat) (w : World) : Prop :=
  (∃ a c, v = .slice a 0 c ∧ l = []) ∨
  ∃ g off cap, v = .slice (some ⟨g, off, none⟩) l.length cap ∧ l.length ≤ cap ∧ g < w.heap.size ∧ ∀ j, j < l.length → w.cell? ⟨g, off + j, none⟩ = some (Value.int .u16 (l.getD j 0 : Nat)) ∧ l.getD j 0 < 65536
theorem Ut.at {a : Option Addr} {n c : Nat} {l : List Nat} {w : World} (h : Ut (.slice a n c) l w) {j : Nat} (hj : j < l.length) : ∃ g off, a = some ⟨g, off, none⟩ ∧ g < w.heap.size ∧ w.cell? ⟨g, off + j, none⟩ = some (Value.int .u16 (l.getD j 0 : Nat)) ∧ l.getD j 0 < 65536 := by
  rcases h with ⟨a', c', e, rfl⟩ | ⟨g, off, cap, e, _, hg, hcell⟩
  · simp at hj
  · injection e with e1 e2 e3
    exact ⟨g, off, e1, hg, (hcell j hj).1, (hcell j hj).2⟩
theorem Ut.len {a : Option Addr} {n c : Nat} {l : List Nat} {w : World} (h : Ut (.slice a n c) l w) : n = l.length := by
  rcases h with ⟨a', c', e, rfl⟩ | ⟨g, off, cap, e, _, _, hcell⟩
  · injection e
  · injection e
/-- the key of a number -/
def skey (x : Nat) : Tm.K := [UInt8.ofNat (x / 256), UInt8.ofNat (x % 256)]
theorem lv_le {l : List Tm.E} {n L : Nat} (h : Lv l n) (h2 : (l.length = 0 → L = 0) ∧ (0 < l.length → ∃ k, L = 1 + k ∧ l.length ≤ 4 ^ k)) : n ≤ L := by
  rcases Nat.eq_zero_or_pos l.length with e | e
  · rw [h.1.2 e]; omega
  · obtain ⟨k, rfl, hk⟩ := h2.2 e
    exact h.2.1 k hk
set_option maxHeartbeats 4000000 in
set_option maxRecDepth 100000 in
theorem walk_shapes8 (ta : Option Addr) (tn tc : Nat) (ks : List Nat) (ua : Option Addr) (un uc : Nat) (gs : List Nat) (W : World) (hm : tn ≤ maxLen) (hm2 : un ≤ maxLen) (hy : Ut (.slice ta tn tc) ks W) (hz : Ut (.slice ua un uc) gs W) :
    Calls Try.prog 4 #[.slice ta tn tc, .slice ua un uc] W fun e w' => e = .returned (.bool true) ∧ Below W.heap.size W w' := by
  have htl := hy.len
  have hul := hz.len
  have HM : Hid ((tn : Int) ≤ 9223372036854775807) := by show _ ≤ _; unfold maxLen at hm; omega
  have HM2 : Hid ((un : Int) ≤ 9223372036854775807) := by show _ ≤ _; unfold maxLen at hm2; omega
  have HRD : Hid (∀ j wr, j < tn → Below W.heap.size W wr → ∃ (g off : Nat) (x : Nat), ta = some ⟨g, off, none⟩ ∧ wr.cell? ⟨g, off + j, none⟩ = some (.int .u16 (x : Int)) ∧ x < 65536) := fun j wr hj hb => by
    obtain ⟨g, off, e, hg, hc, hl⟩ := hy.at (j := j) (by omega)
    exact ⟨g, off, _, e, (hb.cell (p := ⟨g, off + j, none⟩) hg).trans hc, hl⟩
  have HRU : Hid (∀ j wr, j < un → Below W.heap.size W wr → ∃ (g off : Nat) (x : Nat), ua = some ⟨g, off, none⟩ ∧ wr.cell? ⟨g, off + j, none⟩ = some (.int .u16 (x : Int)) ∧ x < 65536) := fun j wr hj hb => by
    obtain ⟨g, off, e, hg, hc, hl⟩ := hz.at (j := j) (by omega)
    exact ⟨g, off, _, e, (hb.cell (p := ⟨g, off + j, none⟩) hg).trans hc, hl⟩
  -- the string of a number
  have HCV : Hid (∀ (w : World) (x : Nat), x < 65536 → (convert 49 9 (.slice (some ⟨w.heap.size, 0, none⟩) 2 2)).run Try.prog (w.alloc (.cells #[.int .u8 ((x : Int) / 256), .int .u8 ((x : Int) % 256)] 5)) = .ok (.string (bstr (skey x))) (w.alloc (.cells #[.int .u8 ((x : Int) / 256), .int .u8 ((x : Int) % 256)] 5))) := fun w x hx => lit_str8 w _ (skey x) 2 rfl (by
    have e1 : ((UInt8.ofNat (x / 256)).toNat : Int) = (x : Int) / 256 := by rw [UInt8.toNat_ofNat']; omega
    have e2 : ((UInt8.ofNat (x % 256)).toNat : Int) = (x : Int) % 256 := by rw [UInt8.toNat_ofNat']; omega
    show _ = [Value.int .u8 ((UInt8.ofNat (x / 256)).toNat : Int), Value.int .u8 ((UInt8.ofNat (x % 256)).toNat : Int)]
    rw [e1, e2])
  clear hy htl hm hz hul hm2
  go_enter Try.func4, Try.ntmps4
  go_wp2_with fail
  refine (walk_first8 W).mono ?_
  rintro e w1 ⟨rfl, hb1⟩
  have HB1 := Lib.hid hb1
  clear hb1
  by_cases hbig : 600 < tn
  case pos =>
    have hbI : (600 : Int) < (tn : Int) := by omega
    go_wp2
    go_ret
    exact ⟨rfl, HB1.out⟩
  have hbI : ¬ (600 : Int) < (tn : Int) := by omega
  have htn : tn ≤ 600 := by omega
  clear hbig
  by_cases hbig : 600 < un
  case pos =>
    have hbI : (600 : Int) < (un : Int) := by omega
    go_wp2
    go_ret
    exact ⟨rfl, HB1.out⟩
  have hbJ : ¬ (600 : Int) < (un : Int) := by omega
  have hun : un ≤ 600 := by omega
  clear hbig
  go_wp2_with fail
  refine tre_new.mono ?_
  rintro e w2 ⟨rfl, rfl⟩
  obtain ⟨a, ex, w4, ha, hw4, hp⟩ : ∃ a ex w4, w1.heap.size = a ∧ w1.alloc (.cells #[.pointer none] 60) = w4 ∧ P1 W ex a [] w4 := ⟨_, _, _, rfl, rfl, p1_new HB1.out⟩
  rw [ha, hw4]
  have HP := Lib.hid hp
  clear hp hw4 ha HB1
  go_wp2_with fail
  go_loopw [41, 6] (fun iv lv wr => ∃ (j n c : Nat) (x : Option Addr) (la : List Tm.E), j ≤ tn ∧ n ≤ 600 ∧ iv = .int .i64 (j : Int) ∧ lv = .slice x n c ∧ Hid (n = la.length ∧ n ≤ j) ∧ Hid (P1 W ex a la wr) ∧ Hid (Ps ex (.slice x n c) la wr)) (fun iv _ _ => tn - (ixOf iv).toNat)
  case atStart => exact ⟨0, 0, 0, none, [], Nat.zero_le _, Nat.zero_le _, rfl, rfl, ⟨rfl, Nat.le_refl _⟩, HP.out, Ps.nil _ _⟩
  case round =>
    clear HP
    obtain ⟨j, n, c, x, la, hj, hn, rfl, rfl, HN, HP, HL⟩ := hrel
    by_cases hlt : j < tn
    case pos =>
      obtain ⟨g, off, s, rfl, c0, hs⟩ := HRD.out j wr hlt HP.out.bel
      have hjI : (j : Int) < (tn : Int) := by omega
      have hcv := HCV.out wr s hs
      have hb1 := one_b8 wr (.cells #[.int .u8 ((s : Int) / 256), .int .u8 ((s : Int) % 256)] 5)
      have HP1 := Lib.hid (HP.out.below hb1)
      have HL1 := Lib.hid (HL.out.below hb1)
      have HLN : Hid (la.length ≤ 300000) := by show _ ≤ _; rw [← HN.out.1]; omega
      clear hb1
      go_wp2_with fail
      refine (p1_put HP1.out HLN.out).mono ?_
      rintro e w6 ⟨rfl, hp6, ho6⟩
      have HP6 := Lib.hid hp6
      have HL6 := Lib.hid (HL1.out.keep ho6)
      have HAS := Lib.hid HP1.out.A.asc
      clear hp6 ho6 HP1 HL1 HP HL hcv c0
      go_wp2_with fail
      refine (ref8_put HL6.out HAS.out (by omega) HP6.out.hex).mono ?_
      rintro e w7 ⟨r, rfl, hl7, hb7⟩
      have HP7 := Lib.hid (HP6.out.below hb7)
      obtain ⟨M, hM⟩ : ∃ M, M = Tm.ins la (skey s) (j : Int) := ⟨_, rfl⟩
      rw [← hM] at HP7 hl7
      have hml := ins_len1 (skey s) (j : Int) HAS.out
      rw [← hM] at hml
      obtain ⟨x7, c7, rfl⟩ := hl7.form
      obtain ⟨n7, hn7⟩ : ∃ n7, n7 = M.length := ⟨_, rfl⟩
      rw [← hn7] at hl7
      rw [← hn7]
      have HL7 := Lib.hid hl7
      have HN7 : Hid (n7 = M.length ∧ n7 ≤ j + 1) := ⟨hn7, by have := HN.out; omega⟩
      have hn600 : n7 ≤ 600 := by have := HN7.out.2; omega
      clear hl7 hb7 hM hml hn7 HP6 HL6 HAS HN HLN
      go_wp2_with fail
      refine (p1_levels HP7.out (by have := HN7.out; omega)).mono ?_
      rintro e w8 ⟨n8, rfl, hv8, hp8, hb8⟩
      have HP8 := Lib.hid hp8
      have HL8 := Lib.hid (HL7.out.below hb8)
      clear hp8 hb8 HP7 HL7
      go_wp2_with fail
      refine (ref8_levels n7 w8 (by omega)).mono ?_
      rintro e w9 ⟨L9, rfl, rfl, hL9⟩
      have hle : ¬ (L9 : Int) < (n8 : Int) := by
        have h := hL9.out
        rw [HN7.out.1] at h
        have := lv_le hv8.out h
        omega
      clear hv8 hL9
      go_wp2_with fail
      go_roundw
      case rel => exact ⟨j + 1, n7, c7, x7, M, by omega, hn600, by go_num, rfl, HN7.out, HP8.out, HL8.out⟩
      case measure => simp [ixOf]; omega
    case neg =>
      have hje : j = tn := by omega
      have hjI : ¬ (j : Int) < (tn : Int) := by omega
      clear HN hlt hj hje
      go_wp2_with fail
      go_loopw [74, 6] (fun iv lv wr => ∃ (j n c : Nat) (x : Option Addr) (la : List Tm.E), j ≤ un ∧ n ≤ 600 ∧ iv = .int .i64 (j : Int) ∧ lv = .slice x n c ∧ Hid (n = la.length) ∧ Hid (P1 W ex a la wr) ∧ Hid (Ps ex (.slice x n c) la wr)) (fun iv _ _ => un - (ixOf iv).toNat)
      case atStart => exact ⟨0, n, c, x, la, Nat.zero_le _, hn, rfl, rfl, HL.out.len, HP.out, HL.out⟩
      case round =>
        clear HP HL
        obtain ⟨j, n, c, x, la, hj, hn, rfl, rfl, HN, HP, HL⟩ := hrel
        by_cases hlt : j < un
        case pos =>
          obtain ⟨g, off, s, rfl, c0, hs⟩ := HRU.out j wr hlt HP.out.bel
          have hjI : (j : Int) < (un : Int) := by omega
          have hcv := HCV.out wr s hs
          have hb1 := one_b8 wr (.cells #[.int .u8 ((s : Int) / 256), .int .u8 ((s : Int) % 256)] 5)
          have HP1 := Lib.hid (HP.out.below hb1)
          have HL1 := Lib.hid (HL.out.below hb1)
          have HLN : Hid (la.length ≤ 300000) := by show _ ≤ _; rw [← HN.out]; omega
          clear hb1
          go_wp2_with fail
          refine (ref8_delete HL1.out (by omega) HP1.out.hex).mono ?_
          rintro e w6 ⟨r, rfl, hl6, hb6⟩
          obtain ⟨M, hM⟩ : ∃ M, M = Tm.del la (skey s) := ⟨_, rfl⟩
          have HP6 := Lib.hid (HP1.out.below hb6)
          have hml := del_len1 (l := la) (skey s)
          rw [← hM] at hl6 hml
          obtain ⟨x6, c6, rfl⟩ := hl6.form
          obtain ⟨n6, hn6⟩ : ∃ n6, n6 = M.length := ⟨_, rfl⟩
          rw [← hn6] at hl6
          rw [← hn6]
          have HL6 := Lib.hid hl6
          have HM6 := Lib.hid hM
          have hn600 : n6 ≤ 600 := by have := HN.out; omega
          have HN6 : Hid (n6 = M.length) := hn6
          clear hl6 hb6 hM hml hn6 HP1 HL1 HP HL hcv c0
          go_wp2_with fail
          refine (p1_delete HP6.out HLN.out).mono ?_
          rintro e w7 ⟨rfl, hp7, ho7⟩
          rw [← HM6.out] at hp7
          have HP7 := Lib.hid hp7
          have HL7 := Lib.hid (HL6.out.keep ho7)
          clear hp7 ho7 HP6 HL6 HLN HN HM6
          go_wp2_with fail
          refine (p1_levels HP7.out (by have := HN6.out; omega)).mono ?_
          rintro e w8 ⟨n8, rfl, hv8, hp8, hb8⟩
          have HP8 := Lib.hid hp8
          have HL8 := Lib.hid (HL7.out.below hb8)
          clear hp8 hb8 HP7 HL7
          go_wp2_with fail
          refine (ref8_levels n6 w8 (by omega)).mono ?_
          rintro e w9 ⟨L9, rfl, rfl, hL9⟩
          have hle : ¬ (L9 : Int) < (n8 : Int) := by
            have h := hL9.out
            rw [HN6.out] at h
            have := lv_le hv8.out h
            omega
          clear hv8 hL9
          go_wp2_with fail
          refine (p1_levels HP8.out (by have := HN6.out; omega)).mono ?_
          rintro e w10 ⟨n10, rfl, hv10, hp10, hb10⟩
          have HP10 := Lib.hid hp10
          have HL10 := Lib.hid (HL8.out.below hb10)
          clear hp10 hb10 HP8 HL8 hle
          rcases Nat.eq_zero_or_pos n6 with e0 | hpos
          · subst e0
            obtain rfl := hv10.out.1.2 HN6.out.symm
            clear hv10
            go_wp2_with fail
            go_roundw
            case rel => exact ⟨j + 1, 0, c6, x6, M, by omega, hn600, by go_num, rfl, HN6.out, HP10.out, HL10.out⟩
            case measure => simp [ixOf]; omega
          · have hn10 : ((n10 : Int) == 0) = false := by
              have := mt hv10.out.1.1 (by have := HN6.out; omega)
              simp; omega
            have hn6z : ((n6 : Int) == 0) = false := by simp; omega
            have hposI : (0 : Int) < (n6 : Int) := by omega
            by_cases h8 : n6 ≤ 8
            · have h8I : (n6 : Int) ≤ 8 := by omega
              clear hv10
              go_wp2_with fail
              refine (p1_levels HP10.out (by have := HN6.out; omega)).mono ?_
              rintro e w11 ⟨n11, rfl, hv11, hp11, hb11⟩
              have HP11 := Lib.hid hp11
              have HL11 := Lib.hid (HL10.out.below hb11)
              have h11 : ¬ (2 : Int) < (n11 : Int) := by have := hv11.out.2.2.1 (by rw [← HN6.out]; exact h8); omega
              clear hp11 hb11 hv11 HP10 HL10
              go_wp2_with fail
              go_roundw
              case rel => exact ⟨j + 1, n6, c6, x6, M, by omega, hn600, by go_num, rfl, HN6.out, HP11.out, HL11.out⟩
              case measure => simp [ixOf]; omega
            · have h8I : ¬ (n6 : Int) ≤ 8 := by omega
              clear hv10
              go_wp2_with fail
              go_roundw
              case rel => exact ⟨j + 1, n6, c6, x6, M, by omega, hn600, by go_num, rfl, HN6.out, HP10.out, HL10.out⟩
              case measure => simp [ixOf]; omega
        case neg =>
          have hje : j = un := by omega
          have hjI : ¬ (j : Int) < (un : Int) := by omega
          clear hlt hj hje
          have HLJ : Hid (∀ j wr, j < n → Below W.heap.size W wr → Ps ex (.slice x n c) la wr → ∃ (g off : Nat) (E : Tm.E), x = some ⟨g, off, none⟩ ∧ g < wr.heap.size ∧ wr.cell? ⟨g, off + j * 2, none⟩ = some (.string (bstr E.1)) ∧ wr.cell? ⟨g, off + j * 2 + 1, none⟩ = some (.int .i64 E.2) ∧ Hid (la[j]? = some E)) := fun j wr hj hb hl => by
            obtain ⟨g, off, e, -, hg, h1, h2⟩ := hl.at j (by have := HN.out; omega)
            exact ⟨g, off, la[j]'(by have := HN.out; omega), e, hg, h1, h2, List.getElem?_eq_getElem _⟩
          have HLN : Hid (la.length ≤ 300000) := by show _ ≤ _; rw [← HN.out]; omega
          have hn9 : (n : Int) ≤ 600 := by omega
          go_wp2_with fail
          go_loopw [128] (fun iv wr => ∃ (j : Nat), j ≤ n ∧ iv = .int .i64 (j : Int) ∧ Hid (P1 W ex a la wr) ∧ Hid (Ps ex (.slice x n c) la wr)) (fun iv _ => n - (ixOf iv).toNat)
          case atStart => exact ⟨0, Nat.zero_le _, rfl, HP.out, HL.out⟩
          case round =>
            clear HP HL
            obtain ⟨j, hj, rfl, HP, HL⟩ := hrel
            by_cases hlt : j < n
            case pos =>
              obtain ⟨g, off, E, rfl, hg, c0, c1, HE⟩ := HLJ.out j wr hlt HP.out.bel HL.out
              have hjI : (j : Int) < (n : Int) := by omega
              have hb1 := one_b8 wr (.cells #[.string (bstr E.1), .int .i64 E.2] 52)
              have hbx := heap_alloc_new wr (.cells #[.string (bstr E.1), .int .i64 E.2] 52)
              have HP1 := Lib.hid (HP.out.below hb1)
              have HL1 := Lib.hid (HL.out.below hb1)
              have HRK : Hid (Tm.rank la E.1 = j) := Tm.rank_at HP.out.A.asc HE.out
              have HBX := Lib.hid hbx
              clear hb1 hbx
              go_wp2_with fail
              refine (p1_at HP1.out HLN.out HE.out).mono ?_
              rintro e w6 ⟨rfl, hp6, hb6⟩
              have hbx6 := (hb6.block _ (by simp)).trans HBX.out
              have hx0 : w6.cell? ⟨wr.heap.size, 0, none⟩ = some (.string (bstr E.1)) := by rw [Lib.cell_of_heap hbx6]; rfl
              have hx1 : w6.cell? ⟨wr.heap.size, 1, none⟩ = some (.int .i64 E.2) := by rw [Lib.cell_of_heap hbx6]; rfl
              have hne := str_ne (bstr E.1)
              have hne2 : (E.2 != E.2) = false := by simp
              have HP6 := Lib.hid hp6
              have HL6 := Lib.hid (HL1.out.below hb6)
              clear hp6 hb6 hbx6 HBX HP1 HL1 c0 c1 HP HL
              go_wp2_with fail
              refine (p1_rank (k := E.1) HP6.out HLN.out).mono ?_
              rintro e w7 ⟨rfl, hp7, hb7⟩
              have HP7 := Lib.hid hp7
              have HL7 := Lib.hid (HL6.out.below hb7)
              rw [HRK.out]
              have hjj : ((j : Int) != (j : Int)) = false := by simp
              clear hp7 hb7 HP6 HL6 hx0 hx1 hne hne2 HRK
              go_wp2_with fail
              go_roundw
              case rel => exact ⟨j + 1, by omega, by go_num, HP7.out, HL7.out⟩
              case measure => simp [ixOf]; omega
            case neg =>
              have hje : j = n := by omega
              have hjI : ¬ (j : Int) < (n : Int) := by omega
              have hge : (la.length : Int) ≤ (n : Int) := by have := HN.out; omega
              have HGE := Lib.hid hge
              clear hlt hj hje HLJ HL hge
              go_wp2_with fail
              refine (p1_at_no HP.out (.inr HGE.out)).mono ?_
              rintro e w6 ⟨rfl, hp6, hb6⟩
              have HP6 := Lib.hid hp6
              clear hp6 hb6 HP
              go_wp2_with fail
              refine (p1_at_no HP6.out (.inl (by decide))).mono ?_
              rintro e w7 ⟨rfl, hp7, hb7⟩
              have HB7 := Lib.hid hp7.bel
              clear hp7 hb7 HP6
              go_wp2
              go_ret
              exact ⟨rfl, HB7.out⟩
end Go.Proofs.Ytlakolcjgnmllaa
