/- The reference of layer 2: Times on digits. -/
import Derived.Test.YtgkjgaelclfffaaDoorDecRef4
namespace Go.Proofs.YtgkjgaelclfffaaDoor
open Go.RowKit

theorem nd_mul_le (X A B : Nat) (h : X ≤ A * B) : Dm.nd X ≤ Dm.nd A + Dm.nd B := by
  refine Dm.nd_le _ _ ?_
  have h1 := (Dm.nd_spec A).1
  have h2 := (Dm.nd_spec B).1
  rw [Nat.pow_add]
  have hp : 0 < 10 ^ Dm.nd A := Nat.pow_pos (by omega)
  rcases Nat.eq_zero_or_pos B with hb | hb
  · subst hb
    simp at h
    subst h
    exact Nat.mul_pos hp (Nat.pow_pos (by omega))
  · have : A * B < 10 ^ Dm.nd A * B := Nat.mul_lt_mul_of_pos_right h1 hb
    have : 10 ^ Dm.nd A * B ≤ 10 ^ Dm.nd A * 10 ^ Dm.nd B := Nat.mul_le_mul_left _ (by omega)
    omega

/-- what Times has after i digits and j rounds of the next -/
def tv (A B i j : Nat) : Nat := B * (A % 10 ^ i) + j * (B * 10 ^ i)
theorem tv_start (A B : Nat) : tv A B 0 0 = 0 := by simp [tv, Nat.mod_one]
theorem tv_next (A B i : Nat) : tv A B i (A / 10 ^ i % 10) = tv A B (i + 1) 0 := by
  unfold tv
  rw [Dm.mod_step, Nat.mul_add, Nat.zero_mul, Nat.add_zero]
  congr 1
  rw [Nat.mul_comm, Nat.mul_assoc]
theorem tv_step (A B i j : Nat) : tv A B i (j + 1) = tv A B i j + B * 10 ^ i := by
  unfold tv; rw [Nat.add_mul, Nat.one_mul, Nat.add_assoc]
theorem tv_le (A B i j : Nat) (h : j ≤ A / 10 ^ i % 10) : tv A B i j ≤ A * B := by
  unfold tv
  have h1 : A % 10 ^ i + 10 ^ i * (A / 10 ^ i % 10) ≤ A := by rw [← Dm.mod_step]; exact Nat.mod_le _ _
  have h2 : j * (B * 10 ^ i) ≤ (A / 10 ^ i % 10) * (B * 10 ^ i) := Nat.mul_le_mul_right _ h
  have h3 : B * (A % 10 ^ i) + (A / 10 ^ i % 10) * (B * 10 ^ i) = B * (A % 10 ^ i + 10 ^ i * (A / 10 ^ i % 10)) := by
    rw [Nat.mul_add]; congr 1; rw [Nat.mul_comm, Nat.mul_assoc]
  have h4 : B * (A % 10 ^ i + 10 ^ i * (A / 10 ^ i % 10)) ≤ B * A := Nat.mul_le_mul_left _ h1
  rw [Nat.mul_comm A B]
  omega
theorem tv_end (A B : Nat) : tv A B (Dm.nd A) 0 = A * B := by
  unfold tv; rw [Nat.mod_eq_of_lt (Dm.nd_spec A).1, Nat.zero_mul, Nat.add_zero, Nat.mul_comm]

set_option maxHeartbeats 4000000 in
set_option maxRecDepth 100000 in
theorem ref_times (a0 a1 : Option Addr) (c0 c1 A B : Nat) (w : World) (h0 : IntC (.slice a0 (Dm.nd A) c0) (Dm.dg A) w) (h1 : IntC (.slice a1 (Dm.nd B) c1) (Dm.dg B) w) (hA : Dm.nd A ≤ 200) (hB : Dm.nd B ≤ 200) :
    Calls Tryd.prog 56 #[.slice a0 (Dm.nd A) c0, .slice a1 (Dm.nd B) c1] w (Made (Dm.dg (A * B)) w) := by
  have hd0 : ∀ j, j < Dm.nd A → (Dm.dg A).getD j 0 = ((A / 10 ^ j % 10 : Nat) : Int) := fun j hj => Dm.dg_get A j hj
  have hgA : ∀ j, j < Dm.nd A → B * 10 ^ j ≤ A * B := fun j hj => by
    rcases (Dm.nd_spec A).2 with e | e
    · rw [e, Dm.nd_zero] at hj; omega
    · have : 10 ^ j ≤ A := Nat.le_trans (Nat.pow_le_pow_right (by omega) (by omega)) e.2
      rw [Nat.mul_comm A B]; exact Nat.mul_le_mul_left _ this
  have hnd : ∀ X, X ≤ A * B → Dm.nd X ≤ 400 := fun X hX => by have := nd_mul_le X A B hX; omega
  have hend := tv_end A B
  have H0 := Lib.hid h0; have H1 := Lib.hid h1; have HD0 := Lib.hid hd0; have HGA := Lib.hid hgA; have HND := Lib.hid hnd; have HEND := Lib.hid hend
  clear h0 h1 hd0 hgA hnd hend
  generalize Dm.nd A = nA at *
  go_enter Tryd.func56, Tryd.ntmps56
  go_wp2
  go_loopw [5, 11] (fun o iv wr => ∃ (i : Nat) (oa : Option Addr) (n oc : Nat), o = .slice oa n oc ∧ iv = .int .i64 (i : Int) ∧ i ≤ nA ∧ Hid (n = Dm.nd (tv A B i 0)) ∧ Hid (IntC (.slice oa n oc) (Dm.dg (tv A B i 0)) wr) ∧ Hid (Below w.heap.size w wr)) (fun _ iv _ => nA - (intOf iv).toNat)
  case atStart => exact ⟨0, none, 0, 0, rfl, rfl, by omega, by show _ = _; rw [tv_start, Dm.nd_zero], by show IntC _ _ _; rw [tv_start, Dm.dg_zero]; exact .inl ⟨_, _, rfl, rfl⟩, Below.refl _ _⟩
  case round =>
    obtain ⟨i, oa, n, oc, rfl, rfl, hi, HN, HI, HB⟩ := hrel
    by_cases hlt : i < nA
    · obtain ⟨g0, o0, rfl, hg0, hcell0⟩ := (H0.out.keep HB.out).at i hlt
      rw [HD0.out i hlt] at hcell0
      have hle := tv_le A B i
      have hnx := tv_next A B i
      have hst := tv_step A B i
      have hd9 : A / 10 ^ i % 10 ≤ 9 := Nat.le_of_lt_succ (Nat.mod_lt _ (by omega))
      generalize A / 10 ^ i % 10 = d at *
      have HLE := Lib.hid hle; have HNX := Lib.hid hnx; have HST := Lib.hid hst
      clear hle hnx hst
      go_wp2
      go_loopw [5, 8] (fun o jv wx => ∃ (j : Nat) (pa : Option Addr) (n pc : Nat), o = .slice pa n pc ∧ jv = .int .i64 (j : Int) ∧ j ≤ d ∧ Hid (n = Dm.nd (tv A B i j)) ∧ Hid (IntC (.slice pa n pc) (Dm.dg (tv A B i j)) wx) ∧ Hid (Below w.heap.size w wx)) (fun _ jv _ => d - (intOf jv).toNat)
      case atStart => exact ⟨0, oa, n, oc, rfl, rfl, by omega, HN, HI, HB⟩
      case round =>
        obtain ⟨j, pa, pn, pc, rfl, rfl, hj, HPN, HPI, HPB⟩ := hrel
        by_cases hjd : j < d
        · have q1 : decide (j < d) = true := by simp; omega
          have q2 : decide ((j : Int) < (d : Int)) = true := by simp; omega
          have hnB : Dm.nd B ≤ 1000 := by omega
          have H1' := Lib.hid (H1.out.keep HPB.out)
          go_wp2_with fail
          refine (ref_shift a1 c1 B i _ H1'.out hnB (by omega)).mono ?_
          rintro e w1 ⟨sa, sc, rfl, hsi, hsb⟩
          have HSI := Lib.hid hsi
          have hk1 := HPI.out.keep hsb
          rw [HPN.out] at hk1
          have HK1 := Lib.hid hk1
          have HSB := Lib.hid hsb
          clear hsi hk1 hsb H1'
          rw [HPN.out]
          rw [Dm.dg_length] at HSI ⊢
          go_wp2_with fail
          refine (ref_plus pa sa pc sc (tv A B i j) (B * 10 ^ i) _ HK1.out HSI.out (by have := HND.out _ (HLE.out j (by omega)); omega) (by have := HND.out _ (HGA.out i hlt); omega)).mono ?_
          rintro e w2 ⟨ta, tc, rfl, hti, htb⟩
          rw [← HST.out j] at hti ⊢
          have HTI := Lib.hid hti
          have HTB := Lib.hid ((HPB.out.trans (HSB.out.mono HPB.out.size)).trans (htb.mono (by have := HSB.out.size; have := HPB.out.size; omega)))
          clear hti htb
          rw [Dm.dg_length] at HTI ⊢
          go_wp2
          go_roundw
          case rel => exact ⟨j + 1, ta, _, tc, rfl, by go_num, by omega, rfl, HTI, HTB⟩
          case measure => simp [intOf]; omega
        · obtain rfl : j = d := by omega
          rw [HNX.out] at HPN HPI
          go_wp2
          go_roundw
          case rel => exact ⟨i + 1, pa, pn, pc, rfl, by go_num, by omega, HPN, HPI, HPB⟩
          case measure => simp [intOf]; omega
    · obtain rfl : i = nA := by omega
      rw [HEND.out] at HN HI
      have HL : Hid ((Dm.dg (A * B)).length = n) := by show (Dm.dg (A * B)).length = n; rw [HN.out]; rfl
      go_wp2
      go_ret
      exact ⟨oa, oc, by rw [HL.out]; rfl, by rw [HL.out]; exact HI.out, HB.out⟩

end Go.Proofs.YtgkjgaelclfffaaDoor
