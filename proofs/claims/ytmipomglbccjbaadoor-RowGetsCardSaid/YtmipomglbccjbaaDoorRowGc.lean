/- Package row and the reference: filled, Right. -/
import Derived.Test.YtmipomglbccjbaaDoorRowGb
import Derived.Test.YtmipomglbccjbaaDoorValC1
import Derived.Test.YtmipomglbccjbaaDoorValFrame
import Derived.Lib.AppendZerosOnto
import Derived.Lib.SliceRun
import Derived.Lib.Walk
namespace Go.Proofs.YtmipomglbccjbaaDoor
open Go.RowKit

set_option maxHeartbeats 1000000 in
set_option maxRecDepth 100000 in
theorem row_filled (c : Vm.Cl) (w : World) (he : EnvV w) (hz : c.s.size ≤ maxLen) : Calls Tryd.prog 27 #[.agg #[.int .i64 c.k, .int .i64 c.n, .int .i64 c.sc, .string c.s]] w (Says (Rm.fillB c) w) := by
  have HE := Lib.hid (he.keep (one_r w (.cells #[.int .i64 c.k, .int .i64 c.n, .int .i64 c.sc, .string c.s] 36)))
  have HB := Lib.hid (one_r w (.cells #[.int .i64 c.k, .int .i64 c.n, .int .i64 c.sc, .string c.s] 36))
  obtain ⟨ck, cn, cc, cz⟩ := c
  dsimp only at HE HB hz ⊢
  by_cases h0 : ck = 0
  · subst h0
    have hf : Rm.fillB ⟨0, cn, cc, cz⟩ = false := by simp [Rm.fillB]
    rw [hf]
    clear hf
    go_enter Tryd.func27, Tryd.ntmps27
    go_wp2
    go_ret
    exact Says.mk rfl HB.out
  · have q : (ck != 0) = true := by simpa using h0
    obtain ⟨b, hb⟩ : ∃ b, b = Vm.rightB ⟨ck, cn, cc, cz⟩ := ⟨_, rfl⟩
    have hf : Rm.fillB ⟨ck, cn, cc, cz⟩ = b := by rw [hb]; simp [Rm.fillB, h0]
    have HR : Hid (Calls Tryd.prog 49 #[.agg #[.int .i64 ck, .int .i64 cn, .int .i64 cc, .string cz]] (w.alloc (.cells #[.int .i64 ck, .int .i64 cn, .int .i64 cc, .string cz] 36)) (Says b (w.alloc (.cells #[.int .i64 ck, .int .i64 cn, .int .i64 cc, .string cz] 36)))) := by
      rw [hb]; exact val_right ck cn cc cz _ HE.out hz
    rw [hf]
    clear hf hb h0 HE
    go_enter Tryd.func27, Tryd.ntmps27
    go_wp2_with fail
    refine HR.out.mono ?_
    rintro e w1 ⟨rfl, hb⟩
    have HB2 := Lib.hid (HB.out.trans (hb.mono HB.out.size))
    clear hb HB HR
    go_wp2
    go_ret
    exact Says.mk rfl HB2.out

theorem drop_at {α : Type} {l : List α} {j : Nat} (h : j < l.length) : l.drop j = l[j] :: l.drop (j + 1) := List.drop_eq_getElem_cons h
/-- what one turn of Right asks -/
theorem rgt_step {l : List Rm.C} {j : Nat} (h : j < l.length) (p : Int) : Rm.rgt p (l.drop j) = (decide (p < l[j].col) && Rm.fillB l[j].v && Rm.rgt l[j].col (l.drop (j + 1))) := by
  rw [drop_at h, Rm.rgt]

set_option maxHeartbeats 2000000 in
set_option maxRecDepth 100000 in
theorem row_right (a : Option Addr) (n cap : Nat) (l : List Rm.C) (w : World) (he : EnvV w) (hv : Rs (.slice a n cap) l w) (hl : n ≤ maxLen) (hi : ∀ c ∈ l, c.v.s.size ≤ maxLen) :
    Calls Tryd.prog 11 #[.slice a n cap] w (Says (Rm.right l) w) := by
  have hnl : n = l.length := by obtain ⟨b, d, e⟩ := hv.form; injection e
  have hn1 : n ≤ l.length := by omega
  have hn2 : l.length ≤ n := by omega
  unfold maxLen at hl
  obtain ⟨R, hR⟩ : ∃ R, R = Rm.right l := ⟨_, rfl⟩
  rw [← hR]
  have HR0 : Hid (R = Rm.rgt (-1) (l.drop 0)) := hR
  clear hnl hR
  have HV := Lib.hid hv
  have HI := Lib.hid hi
  have HE := Lib.hid he
  clear hv hi he
  go_enter Tryd.func11, Tryd.ntmps11
  go_wp2
  go_loopw [3, 8] (fun pv iv wr => ∃ (j : Nat) (p : Int), j ≤ n ∧ iv = .int .i64 (j : Int) ∧ pv = .int .i64 p ∧ Hid (R = Rm.rgt p (l.drop j)) ∧ Hid (Below w.heap.size w wr)) (fun _ iv _ => n - (Lib.intOf iv).toNat)
  case atStart => exact ⟨0, -1, by omega, rfl, rfl, HR0, Below.refl _ _⟩
  case round =>
    obtain ⟨j, p, hj, rfl, rfl, HR, HB⟩ := hrel
    have hwr := HB.out.size
    by_cases hlt : j < n
    · have hjl : j < l.length := by omega
      obtain ⟨g, off, ha, -, hg, hb⟩ := (HV.out.keep HB.out).at j hjl
      have hst := rgt_step hjl p
      have hci := HI.out l[j] (List.getElem_mem hjl)
      obtain ⟨c, hc⟩ : ∃ c, c = l[j] := ⟨_, rfl⟩
      rw [← hc] at hb hst hci
      subst ha
      obtain ⟨cl, ck, cn, cc, cz⟩ := c
      obtain ⟨c0, c1, c2, c3, c4⟩ := hb
      dsimp only at c0 c1 c2 c3 c4 hst hci
      have hba := one_r wr (.cells #[.int .i64 cl, .int .i64 ck, .int .i64 cn, .int .i64 cc, .string cz] 38)
      have HB2 := Lib.hid (HB.out.trans (hba.mono HB.out.size))
      have HST := Lib.hid hst
      have HE2 := Lib.hid (HE.out.keep (HB.out.trans (hba.mono HB.out.size)))
      clear hc hst hba
      by_cases hp : p < cl
      · have q : ¬ cl ≤ p := by omega
        obtain ⟨f, hf⟩ : ∃ f, f = Rm.fillB ⟨ck, cn, cc, cz⟩ := ⟨_, rfl⟩
        have HF : Hid (∀ W, EnvV W → Calls Tryd.prog 27 #[.agg #[.int .i64 ck, .int .i64 cn, .int .i64 cc, .string cz]] W (Says f W)) := fun W hW => by
          rw [hf]; exact row_filled ⟨ck, cn, cc, cz⟩ W hW hci
        have HR2 : Hid (R = (f && Rm.rgt cl (l.drop (j + 1)))) := by
          show _ = _
          rw [HR.out, HST.out, ← hf]; simp [hp]
        clear hf HST HR hp
        go_wp2_with fail
        refine (HF.out _ HE2.out).mono ?_
        rintro e w1 ⟨rfl, hb⟩
        have HB3 := Lib.hid (HB2.out.trans (hb.mono HB2.out.size))
        have h0 : w1.cell? ⟨wr.heap.size, 0, none⟩ = some (.int .i64 cl) := by rw [hb.cell (by simp)]; simp
        clear hb HB2 HF HE2
        cases f
        · go_wp2
          go_ret
          exact Says.mk (by rw [HR2.out]; rfl) HB3.out
        · go_wp2
          go_roundw
          case rel => exact ⟨j + 1, cl, by omega, by go_num, rfl, by rw [Bool.true_and] at HR2; exact HR2, HB3⟩
          case measure => simp [Lib.intOf]; omega
      · have q : cl ≤ p := by omega
        have HR2 : Hid (R = false) := by
          show _ = _
          rw [HR.out, HST.out]; simp [hp]
        clear HST HR hp
        go_wp2
        go_ret
        exact Says.mk HR2.out.symm HB2.out
    · have hjn : j = l.length := by omega
      have HF : Hid (R = true) := by
        show _ = _
        rw [HR.out, hjn, List.drop_length]; rfl
      clear hjn HR
      go_wp2
      go_ret
      exact Says.mk HF.out.symm HB.out

set_option maxHeartbeats 2000000 in
set_option maxRecDepth 100000 in
theorem ref_right11 (a : Option Addr) (n cap : Nat) (l : List Rm.C) (w : World) (hv : Rs (.slice a n cap) l w) (hl : n ≤ maxLen) (hi : ∀ c ∈ l, c.v.s.size ≤ maxLen) :
    Calls Tryd.prog 10 #[.slice a n cap] w (Says (Rm.right l) w) := by
  have hnl : n = l.length := by obtain ⟨b, d, e⟩ := hv.form; injection e
  have hn1 : n ≤ l.length := by omega
  have hn2 : l.length ≤ n := by omega
  unfold maxLen at hl
  obtain ⟨R, hR⟩ : ∃ R, R = Rm.right l := ⟨_, rfl⟩
  rw [← hR]
  have HR0 : Hid (R = Rm.rgt (-1) (l.drop 0)) := hR
  clear hnl hR
  have HV := Lib.hid hv
  have HI := Lib.hid hi
  clear hv hi
  go_enter Tryd.func10, Tryd.ntmps10
  go_wp2
  go_loopw [3, 8] (fun pv iv wr => ∃ (j : Nat) (p : Int), j ≤ n ∧ iv = .int .i64 (j : Int) ∧ pv = .int .i64 p ∧ Hid (R = Rm.rgt p (l.drop j)) ∧ Hid (Below w.heap.size w wr)) (fun _ iv _ => n - (Lib.intOf iv).toNat)
  case atStart => exact ⟨0, -1, by omega, rfl, rfl, HR0, Below.refl _ _⟩
  case round =>
    obtain ⟨j, p, hj, rfl, rfl, HR, HB⟩ := hrel
    have hwr := HB.out.size
    by_cases hlt : j < n
    · have hjl : j < l.length := by omega
      obtain ⟨g, off, ha, -, hg, hb⟩ := (HV.out.keep HB.out).at j hjl
      have hst := rgt_step hjl p
      have hci := HI.out l[j] (List.getElem_mem hjl)
      obtain ⟨c, hc⟩ : ∃ c, c = l[j] := ⟨_, rfl⟩
      rw [← hc] at hb hst hci
      subst ha
      obtain ⟨cl, ck, cn, cc, cz⟩ := c
      obtain ⟨c0, c1, c2, c3, c4⟩ := hb
      dsimp only at c0 c1 c2 c3 c4 hst hci
      have hba := one_r wr (.cells #[.int .i64 cl, .int .i64 ck, .int .i64 cn, .int .i64 cc, .string cz] 38)
      have HB2 := Lib.hid (HB.out.trans (hba.mono HB.out.size))
      have HST := Lib.hid hst
      clear hc hst hba
      by_cases hp : p < cl
      · have q : ¬ cl ≤ p := by omega
        by_cases hk : ck = 0
        · subst hk
          have HR2 : Hid (R = false) := by
            show _ = _
            rw [HR.out, HST.out]; simp [Rm.fillB]
          clear HST HR hp
          go_wp2
          go_ret
          exact Says.mk HR2.out.symm HB2.out
        have qk : (ck == 0) = false := by simpa using hk
        obtain ⟨f, hf⟩ : ∃ f, f = Vm.rightB ⟨ck, cn, cc, cz⟩ := ⟨_, rfl⟩
        have HF : Hid (∀ W, Calls Tryd.prog 26 #[.agg #[.int .i64 ck, .int .i64 cn, .int .i64 cc, .string cz]] W (Says f W)) := fun W => by
          rw [hf]; exact ref3_right ck cn cc cz W hci
        have HR2 : Hid (R = (f && Rm.rgt cl (l.drop (j + 1)))) := by
          show _ = _
          rw [HR.out, HST.out, hf]; simp [hp, Rm.fillB, hk]
        clear hf HST HR hp hk
        go_wp2_with fail
        refine (HF.out _).mono ?_
        rintro e w1 ⟨rfl, hb⟩
        have HB3 := Lib.hid (HB2.out.trans (hb.mono HB2.out.size))
        have h0 : w1.cell? ⟨wr.heap.size, 0, none⟩ = some (.int .i64 cl) := by rw [hb.cell (by simp)]; simp
        clear hb HB2 HF
        cases f
        · go_wp2
          go_ret
          exact Says.mk (by rw [HR2.out]; rfl) HB3.out
        · go_wp2
          go_roundw
          case rel => exact ⟨j + 1, cl, by omega, by go_num, rfl, by rw [Bool.true_and] at HR2; exact HR2, HB3⟩
          case measure => simp [Lib.intOf]; omega
      · have q : cl ≤ p := by omega
        have HR2 : Hid (R = false) := by
          show _ = _
          rw [HR.out, HST.out]; simp [hp]
        clear HST HR hp
        go_wp2
        go_ret
        exact Says.mk HR2.out.symm HB2.out
    · have hjn : j = l.length := by omega
      have HF : Hid (R = true) := by
        show _ = _
        rw [HR.out, hjn, List.drop_length]; rfl
      clear hjn HR
      go_wp2
      go_ret
      exact Says.mk HF.out.symm HB.out
end Go.Proofs.YtmipomglbccjbaaDoor
/- Package row and the reference: ints in memory; Keep. -/
namespace Go.Proofs.YtmipomglbccjbaaDoor
open Go.RowKit

/-- INTS in memory -/
def It (v : Value) (l : List Int) (w : World) : Prop :=
  (∃ a c, v = .slice a 0 c ∧ l = []) ∨
  ∃ g off cap, v = .slice (some ⟨g, off, none⟩) l.length cap ∧ l.length ≤ cap ∧ g < w.heap.size ∧ ∀ j, j < l.length → w.cell? ⟨g, off + j, none⟩ = some (Value.int .i64 (l.getD j 0))
theorem It.keep {v : Value} {l : List Int} {w w' : World} (h : It v l w) (hb : Below w.heap.size w w') : It v l w' := by
  rcases h with h | ⟨g, off, cap, rfl, hc, hg, hcell⟩
  · exact .inl h
  · exact .inr ⟨g, off, cap, rfl, hc, by have := hb.size; omega, fun j hj => (hb.cell (p := ⟨g, off + j, none⟩) hg).trans (hcell j hj)⟩
theorem It.form {v : Value} {l : List Int} {w : World} (h : It v l w) : ∃ a c, v = .slice a l.length c := by
  rcases h with ⟨a, c, rfl, rfl⟩ | ⟨g, off, cap, rfl, _⟩
  · exact ⟨_, _, rfl⟩
  · exact ⟨_, _, rfl⟩
theorem It.at {a : Option Addr} {n c : Nat} {l : List Int} {w : World} (h : It (.slice a n c) l w) (j : Nat) (hj : j < l.length) : ∃ g off, a = some ⟨g, off, none⟩ ∧ n ≤ c ∧ g < w.heap.size ∧ w.cell? ⟨g, off + j, none⟩ = some (Value.int .i64 l[j]) := by
  rcases h with ⟨_, _, _, rfl⟩ | ⟨g, off, cap, e, hc, hg, hcell⟩
  · simp at hj
  · injection e with e1 e2 e3
    refine ⟨g, off, e1, by omega, hg, ?_⟩
    rw [hcell j hj]; simp [List.getD, hj]

set_option maxHeartbeats 1000000 in
set_option maxRecDepth 100000 in
theorem ints_index (a : Option Addr) (n cap : Nat) (l : List Int) (x : Int) (w : World) (hv : It (.slice a n cap) l w) (hl : n ≤ maxLen) :
    Calls Tryd.prog 55 #[.slice a n cap, .int .i64 x] w fun e w' => ∃ i : Int, e = .returned (.int .i64 i) ∧ Hid (decide (0 ≤ i) = l.contains x) ∧ w = w' := by
  have hnl : n = l.length := by obtain ⟨b, d, e⟩ := hv.form; injection e
  have hn1 : n ≤ l.length := by omega
  have hn2 : l.length ≤ n := by omega
  unfold maxLen at hl
  clear hnl
  have HV := Lib.hid hv
  clear hv
  go_enter Tryd.func55, Tryd.ntmps55
  go_wp2
  go_loopw [8] (fun iv wr => ∃ j : Nat, j ≤ n ∧ iv = .int .i64 (j : Int) ∧ Hid (∀ i (h : i < l.length), i < j → l[i] ≠ x) ∧ w = wr) (fun iv _ => n - (Lib.intOf iv).toNat)
  case atStart => exact ⟨0, by omega, rfl, fun i h hi => by omega, rfl⟩
  case round =>
    obtain ⟨j, hj, rfl, HL, rfl⟩ := hrel
    by_cases hlt : j < n
    · have hjl : j < l.length := by omega
      obtain ⟨g, off, ha, -, hg, hb⟩ := HV.out.at j hjl
      obtain ⟨c, hc⟩ : ∃ c, c = l[j] := ⟨_, rfl⟩
      rw [← hc] at hb
      subst ha
      have HC := Lib.hid hc
      have HM : Hid (c = x → l.contains x = true) := fun e => by rw [List.contains_iff_mem, ← e, HC.out]; exact List.getElem_mem hjl
      clear hc
      by_cases hp : c = x
      · subst hp
        have HF : Hid (decide (0 ≤ (j : Int)) = l.contains c) := by
          show _ = _
          rw [HM.out rfl]; simp
        clear HL HC HM
        go_wp2
        go_ret
        exact ⟨_, rfl, HF, rfl⟩
      · have q : (x == c) = false := by rw [beq_eq_false_iff_ne]; exact fun e => hp e.symm
        have HL2 : Hid (∀ i (h : i < l.length), i < j + 1 → l[i] ≠ x) := fun i h hi => by
          rcases Nat.lt_or_ge i j with e | e
          · exact HL.out i h e
          · obtain rfl : i = j := by omega
            rw [← HC.out]; exact hp
        clear HL HC HM
        go_wp2
        go_roundw
        case rel => exact ⟨j + 1, by omega, by go_num, HL2, trivial⟩
        case measure => simp [Lib.intOf]; omega
    · have HF : Hid (decide (0 ≤ (-1 : Int)) = l.contains x) := by
        show _ = _
        have : l.contains x = false := by
          rw [Bool.eq_false_iff]; intro h
          rw [List.contains_iff_mem] at h
          obtain ⟨i, hi, e⟩ := List.getElem_of_mem h
          exact HL.out i hi (by omega) e
        rw [this]; rfl
      clear HL
      go_wp2
      go_ret
      exact ⟨_, rfl, HF, rfl⟩

theorem ints_contains (a : Option Addr) (n cap : Nat) (l : List Int) (x : Int) (w : World) (hv : It (.slice a n cap) l w) (hl : n ≤ maxLen) :
    Calls Tryd.prog 38 #[.slice a n cap, .int .i64 x] w fun e w' => e = .returned (.bool (l.contains x)) ∧ w = w' := by
  have HC := Lib.hid (ints_index a n cap l x w hv hl)
  clear hv hl
  obtain ⟨R, hR⟩ : ∃ R, R = l.contains x := ⟨_, rfl⟩
  rw [← hR] at HC ⊢
  clear hR
  go_enter Tryd.func38, Tryd.ntmps38
  go_wp2_with fail
  refine HC.out.mono ?_
  rintro e w1 ⟨i, rfl, HD, rfl⟩
  clear HC
  by_cases h0 : 0 ≤ i
  · have hd : R = true := by rw [← HD.out]; simpa using h0
    subst hd
    clear HD
    go_wp2
    go_ret
    exact ⟨rfl, rfl⟩
  · have hd : R = false := by rw [← HD.out]; simpa using h0
    subst hd
    have h1 : i < 0 := by omega
    have hd2 : decide (0 ≤ i) = false := by simpa using h1
    clear HD h0
    go_wp2
    go_ret
    exact ⟨rfl, rfl⟩

theorem info_of11 {o : Option TypeInfo} {x : Option Value} {y z : Nat} (h : o.map (fun i => (i.zero, i.size, i.bytes)) = some (x, y, z)) : ∃ i, o = some i ∧ i.zero = x ∧ i.size = y ∧ i.bytes = z := by
  cases o with
  | none => cases h
  | some i => simp at h; exact ⟨i, rfl, h.1, h.2.1, h.2.2⟩
theorem keep_take {ks : List Int} {l : List Rm.C} {j : Nat} (h : j < l.length) : Rm.keep ks (l.take (j + 1)) = Rm.keep ks (l.take j) ++ (if ks.contains l[j].col then [l[j]] else []) := by
  rw [← List.take_append_getElem h]
  unfold Rm.keep
  rw [List.filter_append]
  congr 1
  rw [List.filter_cons]; rfl
theorem keep_le (ks : List Int) (l : List Rm.C) (j : Nat) (h : j ≤ l.length) : (Rm.keep ks (l.take j)).length ≤ j := by
  unfold Rm.keep
  have := List.length_filter_le (fun c : Rm.C => ks.contains c.col) (l.take j)
  rw [List.length_take] at this; omega

set_option maxHeartbeats 4000000 in
set_option maxRecDepth 100000 in
theorem row_keep (a b : Option Addr) (n m cap cb : Nat) (l : List Rm.C) (ks : List Int) (w : World) (hv : Rs (.slice a n cap) l w) (hk : It (.slice b m cb) ks w) (hl : n ≤ 1000) (hm : m ≤ maxLen) :
    Calls Tryd.prog 16 #[.slice a n cap, .slice b m cb] w (RsA (Rm.keep ks l) w) := by
  obtain ⟨i0, hi0, hz0, hz1, hz2⟩ := info_of11 info5r
  have HI0 := Lib.hid hi0; have HZ0 := Lib.hid hz0; have HZ1 := Lib.hid hz1; have HZ2 := Lib.hid hz2
  have hnl : n = l.length := by obtain ⟨b, d, e⟩ := hv.form; injection e
  have hn1 : n ≤ l.length := by omega
  have hn2 : l.length ≤ n := by omega
  have HV := Lib.hid hv
  have HK := Lib.hid hk
  have HMM := Lib.hid hm
  clear hv hk hi0 hz0 hz1 hz2 hnl hm
  go_enter Tryd.func16, Tryd.ntmps16
  go_wp2
  go_loopw [5, 10] (fun pv iv wr => ∃ (j k : Nat) (aa : Option Addr) (cc : Nat) (os : List Rm.C), j ≤ n ∧ iv = .int .i64 (j : Int) ∧ pv = .slice aa k cc ∧ k ≤ j ∧ Hid (os = Rm.keep ks (l.take j)) ∧ Hid (wr.ownsRow w.heap.size 38 5 (.slice aa k cc) k (rcs os)) ∧ Hid (Below w.heap.size w wr)) (fun _ iv _ => n - (Lib.intOf iv).toNat)
  case atStart => exact ⟨0, 0, none, 0, [], by omega, rfl, rfl, by omega, by simp [Hid, Rm.keep], World.ownsRow_nil _ _ _ _, Below.refl _ _⟩
  case round =>
    obtain ⟨j, k, aa, cc, os, hj, rfl, rfl, hkj, HOS, HO, HB⟩ := hrel
    have hwr := HB.out.size
    by_cases hlt : j < n
    · have hjl : j < l.length := by omega
      obtain ⟨g, off, ha, -, hg, hb⟩ := (HV.out.keep HB.out).at j hjl
      have hst := keep_take (ks := ks) hjl
      obtain ⟨c, hc⟩ : ∃ c, c = l[j] := ⟨_, rfl⟩
      rw [← hc] at hb hst
      rw [← HOS.out] at hst
      have HST := Lib.hid hst
      clear hc hst HOS
      subst ha
      obtain ⟨W1, hW1⟩ : ∃ W1, W1 = wr.alloc (.cells #[.int .i64 c.col, .int .i64 c.v.k, .int .i64 c.v.n, .int .i64 c.v.sc, .string c.v.s] 38) := ⟨_, rfl⟩
      have HB1 : Hid (Below w.heap.size w W1) := by show Below _ _ _; rw [hW1]; exact HB.out.alloc hwr _
      have HO1 : Hid (W1.ownsRow w.heap.size 38 5 (.slice aa k cc) k (rcs os)) := by show World.ownsRow _ _ _ _ _ _ _; rw [hW1]; exact HO.out.alloc _
      obtain ⟨q, hq⟩ : ∃ q, q = wr.heap.size := ⟨_, rfl⟩
      have x0 : W1.cell? ⟨q, 0, none⟩ = some (.int .i64 c.col) := by rw [hW1, hq]; simp
      have x1 : W1.cell? ⟨q, 1, none⟩ = some (.int .i64 c.v.k) := by rw [hW1, hq]; simp
      have x2 : W1.cell? ⟨q, 2, none⟩ = some (.int .i64 c.v.n) := by rw [hW1, hq]; simp
      have x3 : W1.cell? ⟨q, 3, none⟩ = some (.int .i64 c.v.sc) := by rw [hW1, hq]; simp
      have x4 : W1.cell? ⟨q, 4, none⟩ = some (.string c.v.s) := by rw [hW1, hq]; simp
      obtain ⟨cl, ck, cn, cz, cs⟩ := c
      obtain ⟨c0, c1, c2, c3, c4⟩ := hb
      dsimp only at c0 c1 c2 c3 c4 x0 x1 x2 x3 x4 HST hW1
      have HW1 := Lib.hid hW1
      have HQ := Lib.hid hq
      clear hW1 hq HB HO
      have HK1 := Lib.hid (HK.out.keep HB1.out)
      have hs1 := HB1.out.size
      have HC := Lib.hid (ints_contains _ _ _ ks cl W1 HK1.out HMM.out)
      obtain ⟨R, hR⟩ : ∃ R, R = ks.contains cl := ⟨_, rfl⟩
      rw [← hR] at HC
      have HR : Hid (ks.contains cl = R) := hR.symm
      clear hR
      go_wp2_with (rw [← HW1.out, ← HQ.out])
      refine HC.out.mono ?_
      rintro e w1 ⟨rfl, rfl⟩
      clear HC
      cases R
      · have HF : Hid (Rm.keep ks (l.take (j + 1)) = os) := by
          show _ = _
          rw [HST.out, HR.out]; simp
        clear HST HR HK1
        go_wp2
        go_roundw
        case rel => exact ⟨j + 1, k, aa, cc, os, by omega, by go_num, rfl, by omega, HF.out.symm, HO1, HB1⟩
        case measure => simp [Lib.intOf]; omega
      · have HF : Hid (Rm.keep ks (l.take (j + 1)) = os ++ [⟨cl, ck, cn, cz, cs⟩]) := by
          show _ = _
          rw [HST.out, HR.out]; rfl
        clear HST HR HK1
        go_wp2_with (at_builtin; refine wpList_append_src _ rfl _ _ 22 22 rfl w.heap.size 38 i0 (.agg #[.int .i64 0, .int .i64 0, .int .i64 0, .int .i64 0, .string ⟨#[]⟩]) 5 48 Tryd.underlying22 HI0.out HZ0.out HZ1.out HZ2.out rfl (.slice aa k cc) k (rcs os) rfl (HO1.out.alloc _) _ 1 (rcs [⟨cl, ck, cn, cz, cs⟩]) rfl (lit_srcr W1 ⟨cl, ck, cn, cz, cs⟩) ?qa ?qb ?qc ?_)
        case qa => unfold maxLen; omega
        case qb => omega
        case qc => simp; omega
        intro v2 w2 hown hgrow hat
        rw [← rcs_append, ← HF.out] at hown
        obtain ⟨a2, c2, rfl⟩ := own_formr hown
        have HO3 := Lib.hid hown
        have HB3 := Lib.hid ((HB1.out.alloc hs1 (.cells #[.int .i64 cl, .int .i64 ck, .int .i64 cn, .int .i64 cz, .string cs] 38)).grown hgrow (by simp; omega) (fun i hi => (HO1.out.lt i hi).1))
        clear hown hgrow hat HB1 HO1
        go_wp2
        go_roundw
        case rel => exact ⟨j + 1, k + 1, a2, c2, _, by omega, by go_num, rfl, by omega, rfl, HO3, HB3⟩
        case measure => simp [Lib.intOf]; omega
    · have hjn : j = l.length := by omega
      have HF : Hid (os = Rm.keep ks l) := by
        show _ = _
        rw [HOS.out, hjn, List.take_length]
      clear hjn HOS
      go_wp2
      go_ret
      rw [← HF.out]
      exact ⟨aa, k, cc, rfl, own_lenr HO.out, Rs.of_own HO.out, HB.out⟩

set_option maxHeartbeats 4000000 in
set_option maxRecDepth 100000 in
theorem ref_keep11 (a b : Option Addr) (n m cap cb : Nat) (l : List Rm.C) (ks : List Int) (w : World) (hv : Rs (.slice a n cap) l w) (hk : It (.slice b m cb) ks w) (hl : n ≤ 1000) (hm : m ≤ maxLen) :
    Calls Tryd.prog 17 #[.slice a n cap, .slice b m cb] w (RsA (Rm.keep ks l) w) := by
  obtain ⟨i0, hi0, hz0, hz1, hz2⟩ := info_of11 info5r
  have HI0 := Lib.hid hi0; have HZ0 := Lib.hid hz0; have HZ1 := Lib.hid hz1; have HZ2 := Lib.hid hz2
  have hnl : n = l.length := by obtain ⟨b, d, e⟩ := hv.form; injection e
  have hn1 : n ≤ l.length := by omega
  have hn2 : l.length ≤ n := by omega
  have HV := Lib.hid hv
  have HK := Lib.hid hk
  have HMM := Lib.hid hm
  clear hv hk hi0 hz0 hz1 hz2 hnl hm
  go_enter Tryd.func17, Tryd.ntmps17
  go_wp2
  go_loopw [5, 13] (fun pv iv wr => ∃ (j k : Nat) (aa : Option Addr) (cc : Nat) (os : List Rm.C), j ≤ n ∧ iv = .int .i64 (j : Int) ∧ pv = .slice aa k cc ∧ k ≤ j ∧ Hid (os = Rm.keep ks (l.take j)) ∧ Hid (wr.ownsRow w.heap.size 38 5 (.slice aa k cc) k (rcs os)) ∧ Hid (Below w.heap.size w wr)) (fun _ iv _ => n - (Lib.intOf iv).toNat)
  case atStart => exact ⟨0, 0, none, 0, [], by omega, rfl, rfl, by omega, by simp [Hid, Rm.keep], World.ownsRow_nil _ _ _ _, Below.refl _ _⟩
  case round =>
    obtain ⟨j, k, aa, cc, os, hj, rfl, rfl, hkj, HOS, HO, HB⟩ := hrel
    have hwr := HB.out.size
    by_cases hlt : j < n
    · have hjl : j < l.length := by omega
      obtain ⟨g, off, ha, -, hg, hb⟩ := (HV.out.keep HB.out).at j hjl
      have hst := keep_take (ks := ks) hjl
      obtain ⟨c, hc⟩ : ∃ c, c = l[j] := ⟨_, rfl⟩
      rw [← hc] at hb hst
      rw [← HOS.out] at hst
      have HST := Lib.hid hst
      clear hc hst HOS
      subst ha
      obtain ⟨W1, hW1⟩ : ∃ W1, W1 = wr.alloc (.cells #[.int .i64 c.col, .int .i64 c.v.k, .int .i64 c.v.n, .int .i64 c.v.sc, .string c.v.s] 38) := ⟨_, rfl⟩
      have HB1 : Hid (Below w.heap.size w W1) := by show Below _ _ _; rw [hW1]; exact HB.out.alloc hwr _
      have HO1 : Hid (W1.ownsRow w.heap.size 38 5 (.slice aa k cc) k (rcs os)) := by show World.ownsRow _ _ _ _ _ _ _; rw [hW1]; exact HO.out.alloc _
      obtain ⟨q, hq⟩ : ∃ q, q = wr.heap.size := ⟨_, rfl⟩
      have x0 : W1.cell? ⟨q, 0, none⟩ = some (.int .i64 c.col) := by rw [hW1, hq]; simp
      have x1 : W1.cell? ⟨q, 1, none⟩ = some (.int .i64 c.v.k) := by rw [hW1, hq]; simp
      have x2 : W1.cell? ⟨q, 2, none⟩ = some (.int .i64 c.v.n) := by rw [hW1, hq]; simp
      have x3 : W1.cell? ⟨q, 3, none⟩ = some (.int .i64 c.v.sc) := by rw [hW1, hq]; simp
      have x4 : W1.cell? ⟨q, 4, none⟩ = some (.string c.v.s) := by rw [hW1, hq]; simp
      obtain ⟨cl, ck, cn, cz, cs⟩ := c
      obtain ⟨c0, c1, c2, c3, c4⟩ := hb
      dsimp only at c0 c1 c2 c3 c4 x0 x1 x2 x3 x4 HST hW1
      have HW1 := Lib.hid hW1
      have HQ := Lib.hid hq
      clear hW1 hq HB HO
      have HK1 := Lib.hid (HK.out.keep HB1.out)
      have hs1 := HB1.out.size
      have hmn : m = ks.length := by obtain ⟨b, d, e⟩ := HK.out.form; injection e
      have hm1 : m ≤ ks.length := by omega
      have hm2 : ks.length ≤ m := by omega
      have hmm : m ≤ 9223372036854775807 := by have := HMM.out; unfold maxLen at this; omega
      clear hmn
      go_upto_region 5 with (fail)
      rw [← HW1.out, ← HQ.out]
      go_wp2_with fail
      go_loopw [8, 19] (fun rv iv wx => ∃ (i : Nat) (R : Bool), i ≤ m ∧ iv = .int .i64 (i : Int) ∧ rv = .bool R ∧ Hid ((ks.take i).contains cl = R) ∧ W1 = wx) (fun _ iv _ => m - (Lib.intOf iv).toNat)
      case atStart => exact ⟨0, false, by omega, rfl, rfl, by simp [Hid], rfl⟩
      case round =>
        obtain ⟨i, R, hi, rfl, rfl, HR, rfl⟩ := hrel
        by_cases hli : i < m
        · have hil : i < ks.length := by omega
          obtain ⟨g', off', hb', -, hg', hx⟩ := HK1.out.at i hil
          have hst2 : (ks.take (i + 1)).contains cl = (R || ks[i] == cl) := by
            rw [← List.take_append_getElem hil, ← HR.out, Bool.eq_iff_iff]
            rw [Bool.or_eq_true, List.contains_iff_mem, List.contains_iff_mem, List.mem_append, List.mem_singleton, beq_iff_eq]
            exact ⟨fun h => h.imp id Eq.symm, fun h => h.imp id Eq.symm⟩
          generalize ks[i] = x at *
          subst hb'
          have HST2 := Lib.hid hst2
          clear hst2 HR HST
          cases R
          · by_cases hp : x = cl
            · subst hp
              go_wp2
              go_roundw
              case rel => exact ⟨i + 1, true, by omega, by go_num, rfl, by simpa [Hid] using HST2.out, trivial⟩
              case measure => simp [Lib.intOf]; omega
            · have q : (x == cl) = false := by simpa using hp
              go_wp2
              go_roundw
              case rel => exact ⟨i + 1, false, by omega, by go_num, rfl, by rw [q] at HST2; exact HST2, trivial⟩
              case measure => simp [Lib.intOf]; omega
          · go_wp2
            go_roundw
            case rel => exact ⟨i + 1, true, by omega, by go_num, rfl, by simpa [Hid] using HST2.out, trivial⟩
            case measure => simp [Lib.intOf]; omega
        · have hin : i = ks.length := by omega
          rw [hin, List.take_length] at HR
          clear hin
          cases R
          · have HF : Hid (Rm.keep ks (l.take (j + 1)) = os) := by
              show _ = _
              rw [HST.out, HR.out]; simp
            clear HST HR HK1
            go_wp2
            go_roundw
            case rel => exact ⟨j + 1, k, aa, cc, os, by omega, by go_num, rfl, by omega, HF.out.symm, HO1, HB1⟩
            case measure => simp [Lib.intOf]; omega
          · have HF : Hid (Rm.keep ks (l.take (j + 1)) = os ++ [⟨cl, ck, cn, cz, cs⟩]) := by
              show _ = _
              rw [HST.out, HR.out]; rfl
            clear HST HR HK1
            go_wp2_with (at_builtin; refine wpList_append_src _ rfl _ _ 22 22 rfl w.heap.size 38 i0 (.agg #[.int .i64 0, .int .i64 0, .int .i64 0, .int .i64 0, .string ⟨#[]⟩]) 5 48 Tryd.underlying22 HI0.out HZ0.out HZ1.out HZ2.out rfl (.slice aa k cc) k (rcs os) rfl (HO1.out.alloc _) _ 1 (rcs [⟨cl, ck, cn, cz, cs⟩]) rfl (lit_srcr W1 ⟨cl, ck, cn, cz, cs⟩) ?qa ?qb ?qc ?_)
            case qa => unfold maxLen; omega
            case qb => omega
            case qc => simp; omega
            intro v2 w2 hown hgrow hat
            rw [← rcs_append, ← HF.out] at hown
            obtain ⟨a2, c2, rfl⟩ := own_formr hown
            have HO3 := Lib.hid hown
            have HB3 := Lib.hid ((HB1.out.alloc hs1 (.cells #[.int .i64 cl, .int .i64 ck, .int .i64 cn, .int .i64 cz, .string cs] 38)).grown hgrow (by simp; omega) (fun i hi => (HO1.out.lt i hi).1))
            clear hown hgrow hat HB1 HO1
            go_wp2
            go_roundw
            case rel => exact ⟨j + 1, k + 1, a2, c2, _, by omega, by go_num, rfl, by omega, rfl, HO3, HB3⟩
            case measure => simp [Lib.intOf]; omega
    · have hjn : j = l.length := by omega
      have HF : Hid (os = Rm.keep ks l) := by
        show _ = _
        rw [HOS.out, hjn, List.take_length]
      clear hjn HOS
      go_wp2
      go_ret
      rw [← HF.out]
      exact ⟨aa, k, cc, rfl, own_lenr HO.out, Rs.of_own HO.out, HB.out⟩
end Go.Proofs.YtmipomglbccjbaaDoor
/- Package row: slices.Grow, Concat, Clone over rows; Set. -/
namespace Go.Proofs.YtmipomglbccjbaaDoor
open Go.RowKit

theorem below_dr11 (w : World) : Below w.heap.size w w.drew := ⟨rfl, rfl, rfl, Nat.le_refl _, fun _ _ => rfl⟩
abbrev zero5 : Value := .agg #[.int .i64 0, .int .i64 0, .int .i64 0, .int .i64 0, .string ⟨#[]⟩]
set_option maxHeartbeats 2000000 in
set_option maxRecDepth 100000 in
theorem row_grow (n : Nat) (w : World) (hn : n ≤ 10000) : Calls Tryd.prog 56 #[.slice none 0 0, .int .i64 (n : Int)] w fun e w' => ∃ a c, e = .returned (.slice a 0 c) ∧ w'.ownsRow w.heap.size 38 5 (.slice a 0 c) 0 [] ∧ Below w.heap.size w w' := by
  obtain ⟨i0, hi0, hz0, hz1, hz2⟩ := info_of11 info5r
  have h1 : ¬ ((n : Int) < 0) := by omega
  rcases Nat.eq_zero_or_pos n with h0 | h0
  · subst h0
    go_enter Tryd.func56, Tryd.ntmps56
    go_wp2
    go_ret
    exact ⟨none, 0, rfl, World.ownsRow_nil _ _ _ _, Below.refl _ _⟩
  · have h4 : (0 : Int) < (n : Int) := by omega
    have hrz : ∀ ty, (Builtin.append_ #[22, 3] ty #[.slice none 0 0, .int .i64 (n : Int)]).run Tryd.prog w =
        .ok (.slice (some ⟨w.heap.size, 0, none⟩) n (grownCap w n 0 38)) (w.drew.alloc (.cells (([] : List Value).toArray ++ Builtin.zeroCells (zero5).cells n ++ Builtin.zeroCells (zero5).cells (grownCap w n 0 38 - n)) 38)) := fun ty => by
      have h := Lib.run_append_grow_zeros w 22 3 ty 38 i0 zero5 .i64 .i64 Tryd.underlying22 Tryd.underlying3 hi0 hz0 none 0 0 [] (run_firstCells_none w.drew i0.size 0 0 0) n (by omega) (by omega) (by omega) (by omega) (by rw [hz2]; omega) (by rw [hz2, Nat.zero_add]; exact growslice_fits h0 (by omega))
      rw [Nat.zero_add] at h
      exact h
    have hGn : n ≤ grownCap w n 0 38 := grownCap_ge w _ _ _
    have hGm : grownCap w n 0 38 ≤ maxLen := grownCap_le_maxLen w n 0 38 (by unfold maxLen; omega)
    obtain ⟨G, hG⟩ : ∃ G, G = grownCap w n 0 38 := ⟨_, rfl⟩
    rw [← hG] at hrz hGn hGm
    have hG63 : G ≤ 9223372036854775807 := by unfold maxLen at hGm; omega
    have HGM := Lib.hid hGm
    have HOW : Hid (∀ cs : Array Value, cs.size = G * 5 → (w.drew.alloc (.cells cs 38)).ownsRow w.heap.size 38 5 (.slice (some ⟨w.heap.size, 0, none⟩) 0 G) 0 []) := fun cs hcs => ⟨rfl, .inr ⟨w.heap.size, G, cs, rfl, Nat.le_refl _, heap_alloc_new w.drew _, Nat.zero_le _, HGM.out, hcs, by simp⟩⟩
    obtain ⟨ZC, hZC⟩ : ∃ ZC, ZC = (([] : List Value).toArray ++ Builtin.zeroCells (zero5).cells n ++ Builtin.zeroCells (zero5).cells (G - n)) := ⟨_, rfl⟩
    rw [← hZC] at hrz
    have HSZ : Hid (ZC.size = G * 5) := by
      show _ = _
      rw [hZC, Array.size_append, Array.size_append, size_zeroCells, size_zeroCells]
      have : (zero5).cells.size = 5 := rfl
      rw [this]
      simp
      omega
    have hnG : (n : Int) ≤ (G : Int) := by omega
    clear hG hGm hi0 hz0 hz1 hz2 hZC
    go_enter Tryd.func56, Tryd.ntmps56
    go_wp2_with (at_builtin; refine Lib.wpList_append_run _ rfl _ _ _ _ rfl _ _ rfl rfl _ _ (hrz _) ?_)
    all_goals
      go_ret
      exact ⟨_, _, rfl, HOW.out _ HSZ.out, (below_dr11 w).trans ((one_r w.drew _).mono (Nat.le_refl _))⟩
/-- the rows that are put together -/
abbrev RL := Option Addr × Nat × Nat × List Rm.C
def Rss (g off : Nat) (L : List RL) (W : World) : Prop :=
  g < W.heap.size ∧ ∀ j, j < L.length → ∃ x, L[j]? = some x ∧ W.cell? ⟨g, off + j, none⟩ = some (.slice x.1 x.2.1 x.2.2.1) ∧ Rs (.slice x.1 x.2.1 x.2.2.1) x.2.2.2 W ∧ x.2.1 ≤ 1000
def sumr (L : List RL) (j : Nat) : Nat := ((L.take j).map (fun x => x.2.1)).sum
def catr (L : List RL) (j : Nat) : List Rm.C := ((L.take j).map (fun x => x.2.2.2)).flatten
set_option maxHeartbeats 4000000 in
set_option maxRecDepth 100000 in
theorem row_concat {g off c m : Nat} {L : List RL} {W : World} (hL : L.length = m) (h3 : m ≤ 3) (h : Rss g off L W) :
    Calls Tryd.prog 41 #[.slice (some ⟨g, off, none⟩) m c] W (RsA (L.map (fun x => x.2.2.2)).flatten W) := by
  obtain ⟨i0, hi0, hz0, hz1, hz2⟩ := info_of11 info5r
  have HI0 := Lib.hid hi0; have HZ0 := Lib.hid hz0; have HZ1 := Lib.hid hz1; have HZ2 := Lib.hid hz2
  have HLL := Lib.hid hL
  obtain ⟨hg, hj⟩ := h
  have HJ : Hid (∀ j, j < m → ∃ x, L[j]? = some x ∧ W.cell? ⟨g, off + j, none⟩ = some (.slice x.1 x.2.1 x.2.2.1) ∧ Rs (.slice x.1 x.2.1 x.2.2.1) x.2.2.2 W ∧ x.2.1 ≤ 1000) := fun j hjm => hj j (by omega)
  have HST : Hid (∀ j x, L[j]? = some x → sumr L (j + 1) = sumr L j + x.2.1 ∧ catr L (j + 1) = catr L j ++ x.2.2.2) := fun j x hx => by
    unfold sumr catr
    rw [List.take_add_one, hx]
    simp
  clear hi0 hz0 hz1 hz2 hj hL
  go_enter Tryd.func41, Tryd.ntmps41
  go_wp2_with fail
  go_loopw [3, 5, 11] (fun sv _ iv wr => ∃ j s : Nat, j ≤ m ∧ iv = .int .i64 (j : Int) ∧ sv = .int .i64 (s : Int) ∧ s ≤ 1000 * j ∧ Hid (s = sumr L j) ∧ W = wr) (fun _ _ iv _ => m - (Lib.intOf iv).toNat)
  case atStart => exact ⟨0, 0, by omega, rfl, rfl, by omega, rfl, rfl⟩
  case round =>
    obtain ⟨j, s, hj3, rfl, rfl, hsb, HSS, rfl⟩ := hrel
    by_cases hlt : j < m
    · obtain ⟨⟨xa, xn, xc, xv⟩, hx, hcell, hrv, hxb⟩ := HJ.out j hlt
      dsimp only at hcell hrv hxb
      have hjI : (j : Int) < (m : Int) := by omega
      obtain ⟨s2, hs2⟩ : ∃ s2, s2 = s + xn := ⟨_, rfl⟩
      have hs2i : (s : Int) + (xn : Int) = (s2 : Int) := by omega
      have hs2b : s2 ≤ 1000 * (j + 1) := by omega
      have HSS2 : Hid (s2 = sumr L (j + 1)) := by show _ = _; rw [(HST.out j _ hx).1, hs2, HSS.out]
      clear hs2 hx hrv
      go_wp2
      go_roundw
      case rel => exact ⟨j + 1, s2, by omega, by go_num, rfl, hs2b, HSS2, trivial⟩
      case measure => simp [Lib.intOf]; omega
    · have hj3' : j = m := by omega
      have hjI : ¬ (j : Int) < (m : Int) := by omega
      have hs3 : s ≤ 3000 := by omega
      clear hlt hsb
      go_wp2_with fail
      refine (row_grow s W (by omega)).mono ?_
      rintro e w1 ⟨ga, gc, rfl, hown, hb1⟩
      have HB1 := Lib.hid hb1
      have HO1 := Lib.hid hown
      clear hb1 hown
      go_wp2_with fail
      go_loopw [6, 8, 27] (fun v _ iv wr => ∃ (j n : Nat) (a : Option Addr) (c : Nat) (xs : List Rm.C), j ≤ m ∧ iv = .int .i64 (j : Int) ∧ v = .slice a n c ∧ n ≤ 1000 * j ∧ Hid (xs = catr L j) ∧ Hid (wr.ownsRow W.heap.size 38 5 (.slice a n c) n (rcs xs)) ∧ Hid (Below W.heap.size W wr)) (fun _ _ iv _ => m - (Lib.intOf iv).toNat)
      case atStart => exact ⟨0, 0, ga, gc, [], by omega, rfl, rfl, by omega, rfl, HO1.out, HB1.out⟩
      case round =>
        clear HO1 HB1
        obtain ⟨k, n, a, c2, xs, hk3, rfl, rfl, hnb, HN, HO, HB⟩ := hrel
        by_cases hlt : k < m
        · obtain ⟨⟨xa, xn, xc, xv⟩, hx, hcell, hrv, hxb⟩ := HJ.out k hlt
          dsimp only at hcell hrv hxb
          have hkI : (k : Int) < (m : Int) := by omega
          have hcell2 := (HB.out.cell (p := ⟨g, off + k, none⟩) hg).trans hcell
          have hxl : xn = xv.length := by obtain ⟨b, d, e⟩ := hrv.form; injection e
          have HSRC : Hid (Src Tryd.prog 5 22 (.slice xa xn xc) xn (rcs xv) wr) := by
            have := (hrv.keep HB.out).src
            rwa [← hxl] at this
          have HN2 : Hid (catr L (k + 1) = xs ++ xv) := by show _ = _; rw [(HST.out k _ hx).2, HN.out]
          have hwr := HB.out.size
          have hgr : g < wr.heap.size := by omega
          clear hx hrv hcell hxl
          go_wp2_with (at_builtin; refine wpList_append_src _ rfl _ _ 22 22 rfl W.heap.size 38 i0 zero5 5 48 Tryd.underlying22 HI0.out HZ0.out HZ1.out HZ2.out rfl (.slice a n c2) n (rcs xs) rfl HO.out _ xn (rcs xv) rfl HSRC.out ?qa ?qb ?qc ?_)
          case qa => unfold maxLen; omega
          case qb => omega
          case qc => exact hwr
          intro v2 w2 hown2 hgrow2 hv2
          have hb2 : Below W.heap.size W w2 := HB.out.grown hgrow2 hwr (fun k e => (HO.out.lt k e).1)
          rw [← rcs_append] at hown2
          obtain ⟨a2, c3, rfl⟩ := own_formr hown2
          have HO2 := Lib.hid hown2; have HB2 := Lib.hid hb2
          clear hown2 hgrow2 hv2 hb2
          go_wp2
          go_roundw
          case rel => exact ⟨k + 1, n + xn, a2, c3, _, by omega, by go_num, rfl, by omega, HN2.out.symm, HO2.out, HB2.out⟩
          case measure => simp [Lib.intOf]; omega
        · have hk3' : k = m := by omega
          have hkI : ¬ (k : Int) < (m : Int) := by omega
          have HF : Hid (xs = (L.map (fun x => x.2.2.2)).flatten) := by
            show _ = _
            rw [HN.out, hk3']
            unfold catr
            rw [List.take_of_length_le (by have := HLL.out; omega)]
          clear hlt hnb HN
          go_wp2
          go_ret
          rw [← HF.out]
          exact ⟨_, _, _, rfl, own_lenr HO.out, Rs.of_own HO.out, HB.out⟩
set_option maxHeartbeats 1000000 in
set_option maxRecDepth 100000 in
theorem row_clone (a : Option Addr) (n c : Nat) (l : List Rm.C) (w : World) (h : Rs (.slice a n c) l w) (hbig : n ≤ 1000) :
    Calls Tryd.prog 39 #[.slice a n c] w (RsA l w) := by
  have hn : n = l.length := by obtain ⟨b, d, e⟩ := h.form; injection e
  cases a with
  | none =>
    obtain rfl : l = [] := by
      rcases h with ⟨_, _, e, e2⟩ | ⟨g, off, cap, e, _⟩
      · exact e2
      · injection e with e _ _; cases e
    obtain rfl : n = 0 := hn
    have hnil : ∀ (wx : World), (binOp .eql 22 (.slice none 0 c) (.slice none 0 0)).run Tryd.prog wx = .ok (.bool true) wx := fun wx => Lib.run_eql_slice_nil wx _ _ _ 0 c 0 0 Tryd.underlying22
    go_enter Tryd.func39, Tryd.ntmps39
    go_wp2
    go_ret
    exact ⟨_, _, _, rfl, rfl, .inl ⟨_, _, rfl, rfl⟩, Below.refl _ _⟩
  | some a =>
    obtain ⟨i0, hi0, hz0, hz1, hz2⟩ := info_of11 info5r
    have hnil : ∀ (wx : World), (binOp .eql 22 (.slice (some a) n c) (.slice none 0 0)).run Tryd.prog wx = .ok (.bool false) wx := fun wx => Lib.run_eql_slice_nil wx _ _ _ n c 0 0 Tryd.underlying22
    have hsrc := (h.keep (one_r w (.cells #[] 38))).src
    rw [← hn] at hsrc
    have HS := Lib.hid hsrc
    have HN := Lib.hid hn
    have HI0 := Lib.hid hi0; have HZ0 := Lib.hid hz0; have HZ1 := Lib.hid hz1; have HZ2 := Lib.hid hz2
    clear h hsrc hn hi0 hz0 hz1 hz2
    go_enter Tryd.func39, Tryd.ntmps39
    go_wp2_with (at_builtin; refine wpList_append_src _ rfl _ _ 22 22 rfl w.heap.size 38 i0 zero5 5 48 Tryd.underlying22 HI0.out HZ0.out HZ1.out HZ2.out rfl _ 0 [] rfl (World.ownsRow_made w #[] 0 (Nat.le_refl _) (Nat.zero_le _) rfl) _ n (rcs l) rfl HS.out ?ca ?cb ?cc ?_)
    case ca => unfold maxLen; omega
    case cb => omega
    case cc => simp
    intro v' w1 hown hgrow _
    have hB : Below w.heap.size w w1 := ((Below.refl _ w).alloc (Nat.le_refl _) _).grown hgrow (by simp) (fun k hk => by simp [Value.ownBlock] at hk; omega)
    obtain ⟨a2, c2, rfl⟩ := own_formr hown
    have HO := Lib.hid hown; have HB := Lib.hid hB
    clear hown hgrow hB
    go_wp2
    go_ret
    exact ⟨a2, n, c2, rfl, HN.out, Rs.of_own HO.out, HB.out⟩
end Go.Proofs.YtmipomglbccjbaaDoor
