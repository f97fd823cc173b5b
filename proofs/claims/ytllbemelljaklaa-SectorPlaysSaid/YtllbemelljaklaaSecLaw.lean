/- Layer 6 in plain words: what the laws without the reference say of a device (SectorTears, SectorAlone). -/
import Derived.Test.YtllbemelljaklaaSecMath
namespace Go.Proofs.Ytllbemelljaklaa.Sm

theorem write_free {d : Dv} {i : Int} {b : List UInt8} (hl : d.left = -1) (h0 : 0 ≤ i) (h1 : i < (d.kept.length : Int)) (h2 : b.length ≤ 64) :
    write d i b = (⟨d.kept, d.ws ++ [⟨i.toNat, full b⟩], -1, d.calls + 1⟩, 0) := by
  have hc : check d i b.length = 0 := by
    unfold check; rw [if_neg (by omega), if_neg (by omega)]
  unfold write
  rw [if_pos hc]
  unfold count
  simp [hl]
theorem flush_free {d : Dv} (hl : d.left = -1) (hk : 0 < d.kept.length) : flush d = (⟨apply d.kept d.ws, [], -1, d.calls + 1⟩, 0) := by
  have hc : check d 0 0 = 0 := by
    unfold check; rw [if_neg (by omega), if_neg (by omega)]
  unfold flush
  rw [if_pos hc]
  unfold count
  simp [hl]
theorem read_free {d : Dv} {i : Int} (hl : d.left = -1) (h0 : 0 ≤ i) (h1 : i < (d.kept.length : Int)) : read d i = (last (d.kept.getD i.toNat []) i.toNat d.ws, 0) := by
  have hc : check d i 0 = 0 := by
    unfold check; rw [if_neg (by omega), if_neg (by omega)]
  unfold read
  rw [if_pos hc]
theorem last_64 {d : Dv} (h : Ok d) {i : Nat} (hi : i < d.kept.length) : (last (d.kept.getD i []) i d.ws).length = 64 := by
  rw [← apply_at d.ws d.kept i (fun x hx => (h.w x hx).1)]
  exact getD_64 (apply_64 _ _ h.k fun x hx => (h.w x hx).2) (by rw [apply_len]; exact hi)

/-! ### SectorAlone -/
/-- both devices after some writes to other sectors -/
structure Al (b : List UInt8) (d : Dv) (n : Nat) : Prop where
  ok : Ok d
  len : d.kept.length = 5
  left : d.left = -1
  ws : d.ws.length = n
  calls : d.calls = n
  four : last (d.kept.getD 4 []) 4 d.ws = full b
theorem al_start (b : List UInt8) (h : b.length ≤ 64) : write (new 5) 4 b = (⟨List.replicate 5 (full []), [⟨4, full b⟩], -1, 1⟩, 0) ∧ Al b (write (new 5) 4 b).1 1 := by
  have e : write (new 5) 4 b = (⟨List.replicate 5 (full []), [⟨4, full b⟩], -1, 1⟩, 0) := write_free rfl (by decide) (by show (4 : Int) < ((List.replicate 5 (full [])).length : Int); rw [List.length_replicate]; decide) h
  refine ⟨e, ok_write (ok_new 5) 4 b, ?_, ?_, ?_, ?_, ?_⟩ <;> rw [e] <;> rfl
theorem al_step {b o : List UInt8} {d : Dv} {n : Nat} (h : Al b d n) (i : Nat) (hi : i < 4) (ho : o.length ≤ 64) : write d (i : Int) o = (⟨d.kept, d.ws ++ [⟨i, full o⟩], -1, d.calls + 1⟩, 0) ∧ Al b (write d (i : Int) o).1 (n + 1) := by
  have e : write d (i : Int) o = (⟨d.kept, d.ws ++ [⟨i, full o⟩], -1, d.calls + 1⟩, 0) := write_free h.left (by omega) (by rw [h.len]; omega) ho
  refine ⟨e, ok_write h.ok _ _, ?_, ?_, ?_, ?_, ?_⟩ <;> rw [e]
  · exact h.len
  · show (d.ws ++ [_]).length = n + 1; rw [List.length_append, h.ws]; rfl
  · show d.calls + 1 = ((n + 1 : Nat) : Int); rw [h.calls]; omega
  · show last (d.kept.getD 4 []) 4 (d.ws ++ [⟨i, full o⟩]) = full b
    rw [last_app, if_neg (by show i ≠ 4; omega)]; exact h.four
theorem al_read {b : List UInt8} {d : Dv} {n : Nat} (h : Al b d n) : read d 4 = (full b, 0) := by
  rw [read_free h.left (by omega) (by rw [h.len]; omega)]
  exact congrArg (·, 0) h.four
theorem al_end {b : List UInt8} {d : Dv} {n : Nat} (h : Al b d n) (ts : List Int) (hl : n ≤ ts.length) (ht : ∀ t ∈ ts, t = 64) (k : Nat) (hk : k < 5) :
    read (crash d ts) (k : Int) = read (flush d).1 (k : Int) ∧ (flush d).1.calls = n + 1 ∧ (flush d).2 = 0 := by
  have e := flush_free h.left (show 0 < d.kept.length by rw [h.len]; omega)
  refine ⟨?_, by rw [e]; show d.calls + 1 = _; rw [h.calls], by rw [e]⟩
  have hc : crash d ts = ⟨apply d.kept d.ws, [], -1, d.calls⟩ := by
    unfold crash
    rw [torn_all d.ws d.kept ts h.ok.k h.ok.w (by rw [h.ws]; exact hl) ht]
  have hla : (apply d.kept d.ws).length = 5 := by rw [apply_len]; exact h.len
  rw [hc, e, read_free rfl (by omega) (by show (k : Int) < ((apply d.kept d.ws).length : Int); rw [hla]; omega), read_free rfl (by omega) (by show (k : Int) < ((apply d.kept d.ws).length : Int); rw [hla]; omega)]

/-! ### SectorTears -/
/-- a device, and what stood at each place of sector 0 since it was kept -/
structure Tr (b : List UInt8) (d : Dv) (may : List (List UInt8)) : Prop where
  ok : Ok d
  len : d.kept.length = 4
  left : d.left = -1
  three : d.kept.getD 3 [] = full b
  w3 : ∀ x ∈ d.ws, x.i ≠ 3
  m64 : may.length = 64
  k0 : ∀ k, k < 64 → (d.kept.getD 0 []).getD k 0 = 0 ∨ (d.kept.getD 0 []).getD k 0 ∈ may.getD k []
  w0 : ∀ k, k < 64 → ∀ x ∈ d.ws, x.i = 0 → x.b.getD k 0 ∈ may.getD k []
def more (may : List (List UInt8)) (x : List UInt8) : List (List UInt8) := List.zipWith (fun m c => m ++ [c]) may x
theorem more_len {may : List (List UInt8)} {x : List UInt8} (h : may.length = 64) (hx : x.length = 64) : (more may x).length = 64 := by
  unfold more; rw [List.length_zipWith]; omega
theorem more_at {may : List (List UInt8)} {x : List UInt8} (h : may.length = 64) (hx : x.length = 64) {k : Nat} (hk : k < 64) : (more may x).getD k [] = may.getD k [] ++ [x.getD k 0] := by
  unfold more
  rw [List.getD, List.getElem?_eq_getElem (by rw [List.length_zipWith]; omega), List.getElem_zipWith]
  simp [List.getD, show k < may.length by omega, show k < x.length by omega]
theorem full_zero (k : Nat) : (full []).getD k 0 = 0 := by
  show (List.replicate 64 (0 : UInt8)).getD k 0 = 0
  rw [List.getD, List.getElem?_replicate]
  split <;> rfl
theorem tr_start (b : List UInt8) (h : b.length ≤ 64) :
    write (new 4) 3 b = (⟨List.replicate 4 (full []), [⟨3, full b⟩], -1, 1⟩, 0) ∧ flush (write (new 4) 3 b).1 = (⟨(List.replicate 4 (full [])).set 3 (full b), [], -1, 2⟩, 0) ∧ Tr b (flush (write (new 4) 3 b).1).1 (List.replicate 64 []) := by
  have e : write (new 4) 3 b = (⟨List.replicate 4 (full []), [⟨3, full b⟩], -1, 1⟩, 0) := write_free rfl (by decide) (by show (3 : Int) < ((List.replicate 4 (full [])).length : Int); rw [List.length_replicate]; decide) h
  have f : flush (write (new 4) 3 b).1 = (⟨(List.replicate 4 (full [])).set 3 (full b), [], -1, 2⟩, 0) := by
    rw [e]; exact flush_free rfl (by show 0 < (List.replicate 4 (full [])).length; simp)
  refine ⟨e, f, ok_flush (ok_write (ok_new 4) 3 b), ?_, ?_, ?_, ?_, by simp, ?_, ?_⟩
  · rw [f]; show ((List.replicate 4 (full [])).set 3 (full b)).length = 4; simp
  · rw [f]
  · rw [f]; rfl
  · rw [f]; intro x hx; cases hx
  · intro k _; rw [f]; left
    show (full []).getD k 0 = 0
    exact full_zero k
  · intro k _ x hx; rw [f] at hx; cases hx
theorem tr_write {b o : List UInt8} {d : Dv} {may : List (List UInt8)} (h : Tr b d may) (i : Nat) (hi : i < 3) (ho : o.length ≤ 64) :
    write d (i : Int) o = (⟨d.kept, d.ws ++ [⟨i, full o⟩], -1, d.calls + 1⟩, 0) ∧ (read (write d (i : Int) o).1 0).1.length = 64 ∧ (read (write d (i : Int) o).1 0).2 = 0 ∧ Tr b (write d (i : Int) o).1 (more may (read (write d (i : Int) o).1 0).1) := by
  have e : write d (i : Int) o = (⟨d.kept, d.ws ++ [⟨i, full o⟩], -1, d.calls + 1⟩, 0) := write_free h.left (by omega) (by rw [h.len]; omega) ho
  have hok := ok_write h.ok (i : Int) o
  have hr : read (write d (i : Int) o).1 0 = (last (d.kept.getD 0 []) 0 (d.ws ++ [⟨i, full o⟩]), 0) := by
    rw [e]; exact read_free rfl (by decide) (by show (0 : Int) < (d.kept.length : Int); rw [h.len]; decide)
  have hx : (read (write d (i : Int) o).1 0).1.length = 64 := by
    rw [hr]
    have := last_64 (i := 0) hok (by rw [e]; show 0 < d.kept.length; rw [h.len]; decide)
    rw [e] at this; exact this
  refine ⟨e, hx, by rw [hr], hok, by rw [e]; exact h.len, by rw [e], by rw [e]; exact h.three, ?_, more_len h.m64 hx, ?_, ?_⟩
  · rw [e]; intro x hm
    rcases List.mem_append.1 hm with hm | hm
    · exact h.w3 x hm
    · rw [List.mem_singleton.1 hm]; show i ≠ 3; omega
  · intro k hk
    rw [more_at h.m64 hx hk, e]
    rcases h.k0 k hk with h1 | h1
    · exact .inl h1
    · exact .inr (List.mem_append.2 (.inl h1))
  · intro k hk x hm hxi
    rw [more_at h.m64 hx hk]
    rw [e] at hm
    rcases List.mem_append.1 hm with hm | hm
    · exact List.mem_append.2 (.inl (h.w0 k hk x hm hxi))
    · have hxe := List.mem_singleton.1 hm
      subst hxe
      refine List.mem_append.2 (.inr ?_)
      rw [hr, last_app, if_pos hxi]
      exact List.mem_singleton.2 rfl
theorem tr_flush {b : List UInt8} {d : Dv} {may : List (List UInt8)} (h : Tr b d may) :
    flush d = (⟨apply d.kept d.ws, [], -1, d.calls + 1⟩, 0) ∧ (read (flush d).1 0).1.length = 64 ∧ (read (flush d).1 0).2 = 0 ∧ Tr b (flush d).1 ((read (flush d).1 0).1.map fun c => [c]) := by
  have e := flush_free h.left (show 0 < d.kept.length by rw [h.len]; decide)
  have hok := ok_flush h.ok
  have hla : (apply d.kept d.ws).length = 4 := by rw [apply_len]; exact h.len
  have hr : read (flush d).1 0 = ((apply d.kept d.ws).getD 0 [], 0) := by
    rw [e]; exact read_free rfl (by decide) (by show (0 : Int) < ((apply d.kept d.ws).length : Int); rw [hla]; decide)
  have hx : (read (flush d).1 0).1.length = 64 := by
    rw [hr]; exact getD_64 (apply_64 _ _ h.ok.k fun x hx => (h.ok.w x hx).2) (by rw [hla]; decide)
  refine ⟨e, hx, by rw [hr], hok, by rw [e]; exact hla, by rw [e], ?_, (by rw [e]; intro x hm; cases hm), (by rw [List.length_map]; exact hx), ?_, (by rw [e]; intro k _ x hm; cases hm)⟩
  · rw [e]
    show (apply d.kept d.ws).getD 3 [] = full b
    rw [apply_at _ _ _ (fun x hm => (h.ok.w x hm).1), last_none 3 d.ws _ h.w3]; exact h.three
  · intro k hk
    right
    have hk2 : k < (read (flush d).1 0).1.length := by omega
    have e2 : ((read (flush d).1 0).1.map fun c => [c]).getD k [] = [(read (flush d).1 0).1.getD k 0] := by
      simp [List.getD, hk2]
    rw [e2, hr, e]
    exact List.mem_singleton.2 rfl
theorem tr_end {b : List UInt8} {d : Dv} {may : List (List UInt8)} (h : Tr b d may) (ts : List Int) :
    read (crash d ts) 3 = (full b, 0) ∧ (read (crash d ts) 0).2 = 0 ∧ (read (crash d ts) 0).1.length = 64 ∧ ∀ k, k < 64 → (read (crash d ts) 0).1.getD k 0 = 0 ∨ (read (crash d ts) 0).1.getD k 0 ∈ may.getD k [] := by
  have hla : (torn d.kept d.ws ts).length = 4 := by rw [torn_len]; exact h.len
  have r0 : read (crash d ts) 0 = ((torn d.kept d.ws ts).getD 0 [], 0) := read_free rfl (by decide) (by show (0 : Int) < ((torn d.kept d.ws ts).length : Int); rw [hla]; decide)
  have r3 : read (crash d ts) 3 = ((torn d.kept d.ws ts).getD 3 [], 0) := read_free rfl (by decide) (by show (3 : Int) < ((torn d.kept d.ws ts).length : Int); rw [hla]; decide)
  refine ⟨?_, by rw [r0], ?_, ?_⟩
  · rw [r3, torn_other 3 d.ws d.kept ts fun x hx => ⟨(h.ok.w x hx).1, h.w3 x hx⟩, h.three]
  · rw [r0]; exact getD_64 (torn_64 _ _ _ h.ok.k h.ok.w) (by rw [hla]; decide)
  · intro k hk
    rw [r0]
    rcases torn_byte 0 k hk d.ws d.kept ts h.ok.k h.ok.w (by rw [h.len]; decide) with h1 | ⟨x, hx, hxi, h1⟩
    · rw [h1]; exact h.k0 k hk
    · right; rw [h1]; exact h.w0 k hk x hx hxi
end Go.Proofs.Ytllbemelljaklaa.Sm
