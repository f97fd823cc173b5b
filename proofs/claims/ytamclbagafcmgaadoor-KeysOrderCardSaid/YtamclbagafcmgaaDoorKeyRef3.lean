/- The reference of layer 5: One whole, Put, Same. -/
import Derived.Test.YtamclbagafcmgaaDoorKeyRef2
import Derived.Test.YtamclbagafcmgaaDoorKeyVs
import Derived.BigQuiet
namespace Go.Proofs.YtamclbagafcmgaaDoor
open Go.RowKit

theorem ref5_one (c : Vm.Cl) (w : World) (hn : i64 c.n) (hz : c.s.size ≤ maxLen) : Calls Tryd.prog 25 #[.agg #[.int .i64 c.k, .int .i64 c.n, .int .i64 c.sc, .string c.s]] w (Str (Vm.one (Vm.plain c)) w) := by
  have HA : Hid (∀ W, Calls Tryd.prog 11 #[.agg #[.int .i64 c.k, .int .i64 c.n, .int .i64 c.sc, .string c.s]] W (Val (Vm.plain c) W)) := fun W => ref3_plain c.k c.n c.sc c.s W hz
  have hr := Vm.plain_right c
  have hi := Vm.plain_i64 hn
  clear hn hz
  revert HA hr hi
  generalize Vm.plain c = p
  intro HA hr hi
  rcases Vm.right_cases hr with rfl | ⟨n, hb, rfl⟩ | ⟨n, rfl⟩ | ⟨n, u, hu, rfl⟩ | ⟨u, hl, hv, rfl⟩ | ⟨u, hl, rfl⟩
  · exact one_0 _ _ _ _ w HA
  · exact one_1 _ _ _ _ n (UInt8.ofNat n.toNat) (Vm.small_u8 (by omega) (by omega)) hb w HA
  · exact one_2 _ _ _ _ n hi w HA
  · have h6 := scB_true hu
    exact one_3 _ _ _ _ n u (UInt8.ofNat u.toNat) (Vm.small_u8 (by omega) (by omega)) hi w HA
  · exact one_4 _ _ _ _ u w _ HA rfl (by omega)
  · exact one_5 _ _ _ _ u w _ HA rfl (by omega)

theorem put_len : ∀ cs : List Vm.Cl, (Vm.put cs).length ≤ 403 * cs.length
  | [] => Nat.le_refl _
  | c :: r => by
    have h1 := Vm.one_len (Vm.plain_right c)
    have h2 := put_len r
    rw [Vm.put, List.length_append, List.length_cons]; omega
theorem put_take (cs : List Vm.Cl) (j : Nat) (hj : j < cs.length) : Vm.put (cs.take (j + 1)) = Vm.put (cs.take j) ++ Vm.one (Vm.plain cs[j]) := by
  rw [← List.take_append_getElem hj, Vm.put_append, Vm.put, Vm.put, List.append_nil]

set_option maxHeartbeats 1000000 in
set_option maxRecDepth 100000 in
theorem ref5_put (a : Option Addr) (n cap : Nat) (cs : List Vm.Cl) (w : World) (hv : Vs (.slice a n cap) cs w) (hl : cs.length ≤ 1000) (hi : ∀ c ∈ cs, i64 c.n ∧ c.s.size ≤ maxLen) :
    Calls Tryd.prog 13 #[.slice a n cap] w (Str (Vm.put cs) w) := by
  have hnl : n = cs.length := by obtain ⟨b, d, e⟩ := hv.form; injection e
  have hn1 : n ≤ cs.length := by omega
  have hn2 : cs.length ≤ n := by omega
  clear hnl
  have HV := Lib.hid hv
  have HI := Lib.hid hi
  clear hv hi
  go_enter Tryd.func13, Tryd.ntmps13
  go_wp2
  go_loopw [3, 8] (fun sv iv wr => ∃ (j : Nat) (S : ByteArray), j ≤ n ∧ iv = .int .i64 (j : Int) ∧ sv = .string S ∧ Hid (S = bstr (Vm.put (cs.take j))) ∧ S.size ≤ 403 * j ∧ Hid (Below w.heap.size w wr)) (fun _ iv _ => n - (Lib.intOf iv).toNat)
  case atStart => exact ⟨0, ⟨#[]⟩, by omega, rfl, rfl, rfl, by decide, Below.refl _ _⟩
  case round =>
    obtain ⟨j, S, hj, rfl, rfl, HS, hsz, HB⟩ := hrel
    by_cases hlt : j < n
    · have hjl : j < cs.length := by omega
      obtain ⟨g, off, ha, -, hg, hb⟩ := (HV.out.keep HB.out).at j hjl
      obtain ⟨c, hc⟩ : ∃ c, c = cs[j] := ⟨_, rfl⟩
      rw [← hc] at hb
      have hci := HI.out c (by rw [hc]; exact List.getElem_mem hjl)
      obtain ⟨T, hT⟩ : ∃ T, T = bstr (Vm.one (Vm.plain c)) := ⟨_, rfl⟩
      have HO : Hid (∀ W, Calls Tryd.prog 25 #[.agg #[.int .i64 c.k, .int .i64 c.n, .int .i64 c.sc, .string c.s]] W fun e w' => e = .returned (.string T) ∧ Below W.heap.size W w') := by
        rw [hT]; exact fun W => ref5_one c W hci.1 hci.2
      have HP : Hid (S ++ T = bstr (Vm.put (cs.take (j + 1)))) := by
        show _ = _
        rw [put_take cs j hjl, ← hc, HS.out, hT, bstr_append]
      have hol : T.size ≤ 403 := by rw [hT, bstr_size]; exact Vm.one_len (Vm.plain_right c)
      have hsz2 : (S ++ T).size = S.size + T.size := ByteArray.size_append
      clear hc hci hT HS
      subst ha
      obtain ⟨ck, cn, cc, cz⟩ := c
      obtain ⟨c0, c1, c2, c3⟩ := hb
      dsimp only at c0 c1 c2 c3 HO
      have hwr := HB.out.size
      go_wp2_with fail
      refine (HO.out _).mono ?_
      rintro e w1 ⟨rfl, hb⟩
      have HB2 := Lib.hid ((HB.out.alloc HB.out.size _).trans (hb.mono (by simp; omega)))
      clear hb HB c0 c1 c2 c3
      go_wp2
      go_roundw
      case rel => exact ⟨j + 1, _, by omega, by go_num, rfl, HP, by rw [hsz2]; omega, HB2⟩
      case measure => simp [Lib.intOf]; omega
    · have hjn : j = cs.length := by omega
      have HF : Hid (S = bstr (Vm.put cs)) := by show _ = _; rw [HS.out, hjn, List.take_length]
      clear HS hjn
      go_wp2
      go_ret
      exact ⟨ret_str HF.out, HB.out⟩

theorem val_neq5 (k n sc : Int) (s : ByteArray) (k' n' sc' : Int) (s' : ByteArray) (w : World) :
    (binOp .neq 29 (.agg #[.int .i64 k, .int .i64 n, .int .i64 sc, .string s]) (.agg #[.int .i64 k', .int .i64 n', .int .i64 sc', .string s'])).run Tryd.prog w = .ok (.bool (!eqB k n sc s k' n' sc' s')) w := by
  rw [run_neq_struct, val_eqlIn]; rfl
theorem take_eq_succ {a b : List Vm.Cl} {j : Nat} (ha : j < a.length) (hb : j < b.length) (h : a.take j = b.take j) (e : a[j] = b[j]) : a.take (j + 1) = b.take (j + 1) := by
  rw [← List.take_append_getElem ha, ← List.take_append_getElem hb, h, e]

set_option maxHeartbeats 1000000 in
set_option maxRecDepth 100000 in
theorem ref5_same (a b : Option Addr) (n m ca cb : Nat) (xs ys : List Vm.Cl) (w : World) (ha : Vs (.slice a n ca) xs w) (hb : Vs (.slice b m cb) ys w) (hl : xs.length ≤ maxLen) (hk : ys.length ≤ maxLen) :
    Calls Tryd.prog 14 #[.slice a n ca, .slice b m cb] w (Says (decide (xs = ys)) w) := by
  have hn : n = xs.length := by obtain ⟨_, _, e⟩ := ha.form; injection e
  have hm : m = ys.length := by obtain ⟨_, _, e⟩ := hb.form; injection e
  have hn1 : n ≤ xs.length := by omega
  have hn2 : xs.length ≤ n := by omega
  have hm1 : m ≤ ys.length := by omega
  have hm2 : ys.length ≤ m := by omega
  unfold maxLen at hl hk
  clear hn hm
  have HA := Lib.hid ha; have HB := Lib.hid hb
  clear ha hb
  by_cases hnm : n = m
  · have q : ((n : Int) != (m : Int)) = false := by simp; omega
    subst hnm
    obtain ⟨b0, hb0⟩ : ∃ b0, b0 = decide (xs = ys) := ⟨_, rfl⟩
    rw [← hb0]
    have HR := Lib.hid hb0
    clear hb0
    go_enter Tryd.func14, Tryd.ntmps14
    go_wp2
    go_loopw [13] (fun iv wr => ∃ j : Nat, j ≤ n ∧ iv = .int .i64 (j : Int) ∧ Hid (xs.take j = ys.take j) ∧ Hid (Below w.heap.size w wr)) (fun iv _ => n - (Lib.intOf iv).toNat)
    case atStart => exact ⟨0, by omega, rfl, rfl, Below.refl _ _⟩
    case round =>
      obtain ⟨j, hj, rfl, HT, HW⟩ := hrel
      by_cases hlt : j < n
      · have hjx : j < xs.length := by omega
        have hjy : j < ys.length := by omega
        obtain ⟨g, off, ha, -, hg, hcx⟩ := (HA.out.keep HW.out).at j hjx
        obtain ⟨g', off', hb, -, hg', hcy⟩ := (HB.out.keep HW.out).at j hjy
        subst ha; subst hb
        have heq := val_neq5 xs[j].k xs[j].n xs[j].sc xs[j].s ys[j].k ys[j].n ys[j].sc ys[j].s
        obtain ⟨c0, c1, c2, c3⟩ := hcx
        obtain ⟨d0, d1, d2, d3⟩ := hcy
        by_cases he : xs[j] = ys[j]
        · have h1 : (!eqB xs[j].k xs[j].n xs[j].sc xs[j].s ys[j].k ys[j].n ys[j].sc ys[j].s) = false := by rw [eqB_val]; simp [he]
          simp only [h1] at heq
          have HT2 := Lib.hid (take_eq_succ hjx hjy HT.out he)
          clear h1 he HT
          generalize xs[j] = x at *
          generalize ys[j] = y at *
          obtain ⟨xk, xn, xc, xz⟩ := x
          obtain ⟨yk, yn, yc', yz⟩ := y
          dsimp only at c0 c1 c2 c3 d0 d1 d2 d3 heq
          go_wp2_with fail
          go_quiet (fail)
          have HW2 := Lib.hid (below_n HW.out nq)
          clear HW c0 c1 c2 c3 d0 d1 d2 d3
          go_wp2
          go_roundw
          case rel => exact ⟨j + 1, by omega, by go_num, HT2, HW2⟩
          case measure => simp [Lib.intOf]; omega
        · have h1 : (!eqB xs[j].k xs[j].n xs[j].sc xs[j].s ys[j].k ys[j].n ys[j].sc ys[j].s) = true := by rw [eqB_val]; simp [he]
          simp only [h1] at heq
          have HF : Hid (b0 = false) := by
            show _ = _
            rw [HR.out, decide_eq_false_iff_not]
            intro e; subst e; exact he rfl
          clear h1 he HT HR
          generalize xs[j] = x at *
          generalize ys[j] = y at *
          obtain ⟨xk, xn, xc, xz⟩ := x
          obtain ⟨yk, yn, yc', yz⟩ := y
          dsimp only at c0 c1 c2 c3 d0 d1 d2 d3 heq
          go_wp2_with fail
          go_quiet (fail)
          have HW2 := Lib.hid (below_n HW.out nq)
          clear HW c0 c1 c2 c3 d0 d1 d2 d3
          go_wp2
          go_ret
          exact Says.mk HF.out.symm HW2.out
      · have HF : Hid (b0 = true) := by
          show _ = _
          have h := HT.out
          rw [show j = xs.length by omega, List.take_length, show xs.length = ys.length by omega, List.take_length] at h
          rw [HR.out, decide_eq_true_eq]; exact h
        clear HT HR
        go_wp2
        go_ret
        exact Says.mk HF.out.symm HW.out
  · have q : ((n : Int) != (m : Int)) = true := by simp; omega
    have hd : decide (xs = ys) = false := by rw [decide_eq_false_iff_not]; intro e; subst e; omega
    rw [hd]
    clear hnm hd
    go_enter Tryd.func14, Tryd.ntmps14
    go_wp2
    go_ret
    exact Says.mk rfl (Below.refl _ _)
end Go.Proofs.YtamclbagafcmgaaDoor
