/- Package sector: Write. -/
import Derived.Test.YtofbignggadkiaaSecC5a
import Derived.Deep.RegionLaw
import Derived.BigRegion
import Derived.Deep.CutBlock
import Derived.Deep.DeepCutAuto
namespace Go.Proofs.Ytofbignggadkiaa
open Go.RowKit

theorem fill_all (D Z : Array Value) (hD : D.size = 65) (hZ : Z.size = 65) : Array.foldl (fun (cs : Array Value) (x : Value × Nat) => cs.setIfInBounds x.2 x.1) Z D.zipIdx 0 65 = D := by
  have h := fill_arr 0 D Z (by omega)
  have e : D.zipIdx.size = 65 := by simp [hD]
  simp only [Nat.zero_add] at h
  rw [e] at h
  rw [h]
  apply Array.ext'
  rw [List.drop_eq_nil_of_le (by rw [Array.length_toList]; omega)]
  simp
theorem splice_full (l : List UInt8) : splice z64.toList 0 (yc l) = yc (Sm.full l) := by
  unfold splice Sm.full yc z64
  rw [List.take_zero, List.nil_append, Nat.zero_add, List.length_map, List.map_append, List.map_replicate, Array.toList_replicate, List.drop_replicate]
  rfl
theorem own_cells {w : World} {B : Nat} {e : TypeId} {size n : Nat} {v : Value} {xs : List Value} {b o : Nat} {vs : List Value} (h : w.ownsRow B e size v n xs) (hne : v.ownBlock ≠ some b) : (w.setCells b o vs).ownsRow B e size v n xs := by
  obtain ⟨h1, h2⟩ := h
  refine ⟨h1, ?_⟩
  rcases h2 with h2 | ⟨g, cap, cur, hv, hB, hg, rest⟩
  · exact .inl h2
  · exact .inr ⟨g, cap, cur, hv, hB, by rw [heap_setCells b g (fun e => hne (by rw [hv, ← e]; rfl))]; exact hg, rest⟩
section
variable {g kb nb : Nat} {wa : Option Addr} {wc : Nat} {lim : Bool} {lf : Int} {nw : List (List UInt8)} {d : Sm.Dv} {w : World}
theorem Dk.own_ne (h : Dk g kb nb wa wc lim lf nw d w) : (Value.slice wa d.ws.length wc).ownBlock ≠ some g ∧ (Value.slice wa d.ws.length wc).ownBlock ≠ some kb ∧ (Value.slice wa d.ws.length wc).ownBlock ≠ some nb := by
  cases wa with
  | none => exact ⟨(fun e => by cases e), (fun e => by cases e), (fun e => by cases e)⟩
  | some a => exact ⟨fun e => by injection e with e; exact (h.ew a rfl).1 e, fun e => by injection e with e; exact (h.ew a rfl).2.1 e, fun e => by injection e with e; exact (h.ew a rfl).2.2 e⟩
/-- a sector of what is newest is written -/
theorem Dk.setNew (h : Dk g kb nb wa wc lim lf nw d w) (n : Nat) (hn : n < d.kept.length) (s : List UInt8) (hs : s.length = 64) : Dk g kb nb wa wc lim lf (nw.set n s) d (w.setCells nb (n * 64) (yc s)) := by
  have hb := heap_setCells nb g h.e2 (yc s) (n * 64) w
  have hc : ∀ o, (w.setCells nb (n * 64) (yc s)).cell? ⟨g, o, none⟩ = w.cell? ⟨g, o, none⟩ := fun o => by simp [World.cell?, hb]
  have ho : Only (fun k => k = nb) w (w.setCells nb (n * 64) (yc s)) := Only.setCells (p := fun k => k = nb) (Only.refl _ w) (.inl rfl) _ _
  exact ⟨(hc 0).trans h.c0, (hc 1).trans h.c1, (hc 2).trans h.c2, (hc 3).trans h.c3, (hc 4).trans h.c4, (hc 5).trans h.c5, fun o => by rw [World.frozen?_setCells]; exact h.fz o, by rw [size_setCells]; exact h.lt,
    h.kr.keepO ho h.e3, h.nr.set h.n64 n (by rw [h.nl]; exact hn) s hs, by rw [List.length_set]; exact h.nl, (fun t ht => by
      rcases List.mem_or_eq_of_mem_set ht with ht | rfl
      · exact h.n64 t ht
      · exact hs), own_cells h.ws h.own_ne.2.2, h.ok, h.l0, h.l1, h.e1, h.e2, h.e3, h.ew, h.po⟩
/-- the beginning of a durable sector is written -/
theorem Dk.setKept (h : Dk g kb nb wa wc lim lf nw d w) (n : Nat) (hn : n < d.kept.length) (s : List UInt8) (hs : s.length ≤ 64) : Dk g kb nb wa wc lim lf nw { d with kept := d.kept.set n (s ++ (d.kept.getD n []).drop s.length) } (w.setCells kb (n * 64) (yc s)) := by
  have hb := heap_setCells kb g h.e1 (yc s) (n * 64) w
  have hc : ∀ o, (w.setCells kb (n * 64) (yc s)).cell? ⟨g, o, none⟩ = w.cell? ⟨g, o, none⟩ := fun o => by simp [World.cell?, hb]
  have ho : Only (fun k => k = kb) w (w.setCells kb (n * 64) (yc s)) := Only.setCells (p := fun k => k = kb) (Only.refl _ w) (.inl rfl) _ _
  have hl : (d.kept.set n (s ++ (d.kept.getD n []).drop s.length)).length = d.kept.length := List.length_set ..
  have hlen : (s ++ (d.kept.getD n []).drop s.length).length = 64 := by rw [List.length_append, List.length_drop, Sm.getD_64 h.ok.k hn]; omega
  refine ⟨?_, ?_, (hc 2).trans h.c2, (hc 3).trans h.c3, (hc 4).trans h.c4, (hc 5).trans h.c5, fun o => by rw [World.frozen?_setCells]; exact h.fz o, by rw [size_setCells]; exact h.lt,
    h.kr.part h.ok.k n hn s hs, h.nr.keepO ho (fun e => h.e3 e.symm), by show nw.length = _; rw [hl]; exact h.nl, h.n64, own_cells h.ws h.own_ne.2.1, ⟨fun t ht => ?_, fun x hx => ?_⟩, h.l0, h.l1, h.e1, h.e2, h.e3, h.ew, by show 0 < (d.kept.set n _).length; rw [hl]; exact h.po⟩
  · show _ = some (Value.slice _ (d.kept.set n _).length (d.kept.set n _).length)
    rw [hl]; exact (hc 0).trans h.c0
  · show _ = some (Value.slice _ (d.kept.set n _).length (d.kept.set n _).length)
    rw [hl]; exact (hc 1).trans h.c1
  · rcases List.mem_or_eq_of_mem_set ht with ht | rfl
    · exact h.ok.k t ht
    · exact hlen
  · show x.i < (d.kept.set n _).length ∧ _
    rw [hl]; exact h.ok.w x hx
/-- a new list of what waits -/
theorem Dk.setWs (h : Dk g kb nb wa wc lim lf nw d w) {wa' : Option Addr} {n' wc' : Nat} (ws' : List Sm.Wr) (hn : n' = ws'.length) (ho : w.ownsRow 0 89 65 (.slice wa' n' wc') n' (kcs ws')) (hne : ∀ a, wa' = some a → a.block ≠ g ∧ a.block ≠ kb ∧ a.block ≠ nb) (hok : ∀ x ∈ ws', x.i < d.kept.length ∧ x.b.length = 64) :
    Dk g kb nb wa' wc' lim lf nw { d with ws := ws' } (w.setCell ⟨g, 2, none⟩ (.slice wa' n' wc')) := by
  subst hn
  have hO : Only (fun k => k = g) w (w.setCell ⟨g, 2, none⟩ (.slice wa' ws'.length wc')) := Only.setCell (p := fun k => k = g) (Only.refl _ w) (q := ⟨g, 2, none⟩) (.inl rfl) _
  exact ⟨(cell_keep _ _ _ _ _ (by decide)).trans h.c0, (cell_keep _ _ _ _ _ (by decide)).trans h.c1, World.cell?_setCell_same _ _ _ h.c2, (cell_keep _ _ _ _ _ (by decide)).trans h.c3, (cell_keep _ _ _ _ _ (by decide)).trans h.c4, (cell_keep _ _ _ _ _ (by decide)).trans h.c5,
    fun o => by have := h.fz o; simpa using this, by have := h.lt; simpa using this, h.kr.keepO hO (fun e => h.e1 e.symm), h.nr.keepO hO (fun e => h.e2 e.symm), h.nl, h.n64,
    own_set ho _ (fun e => by
      cases wa' with
      | none => cases e
      | some a => injection e with e; exact (hne a rfl).1 e), ⟨h.ok.k, hok⟩, h.l0, h.l1, h.e1, h.e2, h.e3, hne, h.po⟩
/-- a new list of what waits, in a world that differs elsewhere -/
theorem Dk.newWs (h : Dk g kb nb wa wc lim lf nw d w) {w4 : World} {p : Nat → Prop} (hO : Only p w w4) (pg : ¬ p g) (pk : ¬ p kb) (pn : ¬ p nb) {wa' : Option Addr} {n' wc' : Nat} (ws' : List Sm.Wr) (hn : n' = ws'.length) (ho : w4.ownsRow 0 89 65 (.slice wa' n' wc') n' (kcs ws')) (hne : ∀ a, wa' = some a → a.block ≠ g ∧ a.block ≠ kb ∧ a.block ≠ nb) (hok : ∀ x ∈ ws', x.i < d.kept.length ∧ x.b.length = 64) :
    Dk g kb nb wa' wc' lim lf nw { d with ws := ws' } (w4.setCell ⟨g, 2, none⟩ (.slice wa' n' wc')) := by
  subst hn
  have hb := hO.block g h.lt pg
  have hc : ∀ o, w4.cell? ⟨g, o, none⟩ = w.cell? ⟨g, o, none⟩ := fun o => by simp [World.cell?, hb]
  have hf : ∀ o, w4.frozen? ⟨g, o, none⟩ = w.frozen? ⟨g, o, none⟩ := fun o => by simp [World.frozen?, hb]
  have hO2 : Only (fun k => k = g) w4 (w4.setCell ⟨g, 2, none⟩ (.slice wa' ws'.length wc')) := Only.setCell (p := fun k => k = g) (Only.refl _ w4) (q := ⟨g, 2, none⟩) (.inl rfl) _
  have hs := hO.size
  exact ⟨(cell_keep _ _ _ _ _ (by decide)).trans ((hc 0).trans h.c0), (cell_keep _ _ _ _ _ (by decide)).trans ((hc 1).trans h.c1), World.cell?_setCell_same _ _ _ ((hc 2).trans h.c2), (cell_keep _ _ _ _ _ (by decide)).trans ((hc 3).trans h.c3), (cell_keep _ _ _ _ _ (by decide)).trans ((hc 4).trans h.c4), (cell_keep _ _ _ _ _ (by decide)).trans ((hc 5).trans h.c5),
    fun o => by have := (hf o).trans (h.fz o); simpa using this, by have := h.lt; simp; omega, (h.kr.keepO hO pk).keepO hO2 (fun e => h.e1 e.symm), (h.nr.keepO hO pn).keepO hO2 (fun e => h.e2 e.symm), h.nl, h.n64,
    own_set ho _ (fun e => by
      cases wa' with
      | none => cases e
      | some a => injection e with e; exact (hne a rfl).1 e), ⟨h.ok.k, hok⟩, h.l0, h.l1, h.e1, h.e2, h.e3, hne, h.po⟩
/-- behind an append to what waits -/
theorem dk_app (h : Dk g kb nb wa wc lim lf nw d w) {h0 : Nat} {ob : Obj} (hG : w.heap[h0]? = some ob) (hne : ∀ a, wa = some a → a.block ≠ h0) (x : Sm.Wr) (hx : x.i < d.kept.length ∧ x.b.length = 64) (o : Obj) {v2 : Value} {w4 : World} (hown : w4.ownsRow 0 89 65 v2 (d.ws.length + 1) (kcs d.ws ++ kcs [x])) (hg : ((w.alloc o).drew).grownBy w4 (Value.slice wa d.ws.length wc).ownBlock)
    (hat : v2.ownBlock = (Value.slice wa d.ws.length wc).ownBlock ∨ v2.ownBlock = some ((w.alloc o).drew).heap.size) :
    ∃ a3 c3, v2 = .slice a3 (d.ws.length + 1) c3 ∧ w4.cell? ⟨g, 2, none⟩ = some (.slice wa d.ws.length wc) ∧ (∀ o, w4.frozen? ⟨g, o, none⟩ = false) ∧ g < w4.heap.size ∧ w4.heap[h0]? = some ob ∧
      Hid (Dk g kb nb a3 c3 lim lf nw { d with ws := d.ws ++ [x] } (w4.setCell ⟨g, 2, none⟩ (.slice a3 (d.ws.length + 1) c3))) ∧ Hid (Only (Kf g kb nb wa) w (w4.setCell ⟨g, 2, none⟩ (.slice a3 (d.ws.length + 1) c3))) ∧ Hid (∀ k, Kf g kb nb a3 k → Kf g kb nb wa k ∨ w.heap.size ≤ k) := by
  obtain ⟨a3, c3, rfl⟩ := own_slice hown (by omega)
  have hO : Only (fun k => ∃ a, wa = some a ∧ a.block = k) w w4 := Only.grown (Only.drew (Only.alloc (Only.refl _ w) o)) hg (fun k e => by
    cases wa with
    | none => cases e
    | some a => injection e with e; exact .inl ⟨a, rfl, e⟩)
  have hs := hO.size
  have hb := hO.block g h.lt (fun ⟨a, e, e2⟩ => (h.ew a e).1 e2)
  have hA : ∀ y, a3 = some y → (∃ a, wa = some a ∧ a.block = y.block) ∨ w.heap.size < y.block := by
    intro y e
    subst e
    rcases hat with hat | hat
    · cases wa with
      | none => cases hat
      | some a => injection hat with hat; exact .inl ⟨a, rfl, hat.symm⟩
    · injection hat with hat
      right
      have : ((w.alloc o).drew).heap.size = w.heap.size + 1 := by show (w.alloc o).heap.size = _; simp
      omega
  have hN : ∀ y, a3 = some y → y.block ≠ g ∧ y.block ≠ kb ∧ y.block ≠ nb := by
    intro y e
    rcases hA y e with ⟨a, e2, e3⟩ | h2
    · rw [← e3]; exact h.ew a e2
    · have := h.lt; have := h.kr.lt; have := h.nr.lt
      exact ⟨by omega, by omega, by omega⟩
  rw [← kcs_append] at hown
  refine ⟨a3, c3, rfl, by rw [← h.c2]; simp [World.cell?, hb], fun o => by rw [← h.fz o]; simp [World.frozen?, hb], by have := h.lt; omega, ?_, ?_, ?_, ?_⟩
  · rw [hO.block h0 (heap_lt hG) (fun ⟨a, e, e2⟩ => hne a e e2)]; exact hG
  · refine h.newWs hO (fun ⟨a, e, e2⟩ => (h.ew a e).1 e2) (fun ⟨a, e, e2⟩ => (h.ew a e).2.1 e2) (fun ⟨a, e, e2⟩ => (h.ew a e).2.2 e2) (d.ws ++ [x]) (by simp) hown hN (fun y hy => ?_)
    rcases List.mem_append.1 hy with hy | hy
    · exact h.ok.w y hy
    · rw [List.mem_singleton.1 hy]; exact hx
  · exact (hO.mono (fun k _ ⟨a, e, e2⟩ => .inr (.inr (.inr ⟨a, e, e2⟩)))).setCell (q := ⟨g, 2, none⟩) (.inl (.inl rfl)) _
  · intro k hk
    rcases hk with hk | hk | hk | ⟨y, e, rfl⟩
    · exact .inl (.inl hk)
    · exact .inl (.inr (.inl hk))
    · exact .inl (.inr (.inr (.inl hk)))
    · rcases hA y e with ⟨a, e2, e3⟩ | h2
      · exact .inl (.inr (.inr (.inr ⟨a, e2, e3⟩)))
      · exact .inr (by omega)
theorem Dk.below (h : Dk g kb nb wa wc lim lf nw d w) {w' : World} (hb : Below w.heap.size w w') : Dk g kb nb wa wc lim lf nw d w' :=
  h.keepO (only_of hb) (fun k hk hp => by have := h.f_lt k hk; omega)
theorem Nv.write (h : Dk g kb nb wa wc lim lf nw d w) (hv : Nv nw d) (n : Nat) (hn : n < d.kept.length) (s : List UInt8) : Nv (nw.set n s) { d with ws := d.ws ++ [⟨n, s⟩] } := by
  intro i hi
  show _ = Sm.last (d.kept.getD i []) i (d.ws ++ [⟨n, s⟩])
  rw [Sm.last_app, Sm.getD_set _ _ _ _ (by rw [h.nl]; exact hn)]
  by_cases e : n = i
  · rw [if_pos e, if_pos e]
  · rw [if_neg e, if_neg e]; exact hv i hi
end
set_option maxHeartbeats 4000000 in
set_option maxRecDepth 100000 in
theorem sec_write (g kb nb : Nat) (wa : Option Addr) (wc : Nat) (lim : Bool) (lf : Int) (nw : List (List UInt8)) (d : Sm.Dv) (i : Int) (a : Option Addr) (m c : Nat) (l : List UInt8) (w : World) (h : Dk g kb nb wa wc lim lf nw d w) (hv : Nv nw d) (hlim : Lim d) (hy : Yt (.slice a m c) l w) (hl : l.length ≤ 1000) :
    Calls Try.prog 20 #[.pointer (some ⟨g, 0, none⟩), .int .i64 i, .slice a m c] w fun e w' => e = .returned (.int .i64 (Sm.write d i l).2) ∧ Only (Kf g kb nb wa) w w' ∧ ∃ wa' wc' lf' nw', Dk g kb nb wa' wc' lim lf' nw' (Sm.write d i l).1 w' ∧ Nv nw' (Sm.write d i l).1 ∧ (∀ k, Kf g kb nb wa' k → Kf g kb nb wa k ∨ w.heap.size ≤ k) := by
  have hm : m = l.length := by obtain ⟨_, _, e⟩ := hy.form; injection e
  subst hm
  have HF := Lib.hid (sec_fault g kb nb wa wc lim lf nw d i l.length w h)
  have H := Lib.hid h
  have HV := Lib.hid hv
  clear hv
  by_cases hc : Sm.check d i l.length = 0
  case neg =>
    have HR : Hid (Sm.write d i l = (d, Sm.check d i l.length)) := by show _ = _; unfold Sm.write; rw [if_neg hc]
    have q : (Sm.check d i l.length != 0) = true := by simpa using hc
    rw [HR.out]
    clear HR h hc hy hlim
    generalize Sm.check d i l.length = E at *
    generalize l.length = m at *
    go_enter Try.func20, Try.ntmps20
    go_wp2_with fail
    refine HF.out.mono ?_
    rintro e w1 ⟨rfl, rfl⟩
    go_wp2
    go_ret
    exact ⟨rfl, Only.refl _ _, wa, wc, lf, nw, H.out, HV.out, fun _ e => .inl e⟩
  obtain ⟨i0, i1, i2, i3⟩ := Sm.check_0 hc
  obtain ⟨n, rfl⟩ : ∃ n : Nat, i = (n : Int) := ⟨i.toNat, by omega⟩
  have hn : n < d.kept.length := by omega
  have HR : Hid (Sm.write d (n : Int) l = (Sm.count { d with ws := d.ws ++ [⟨n, Sm.full l⟩] }, 0)) := by
    show _ = _; unfold Sm.write; rw [if_pos hc]; rfl
  rw [hc] at HF
  rw [HR.out]
  obtain ⟨K, hK⟩ : ∃ K, K = d.kept.length := ⟨_, rfl⟩
  obtain ⟨M, hM⟩ : ∃ M, M = d.ws.length := ⟨_, rfl⟩
  obtain ⟨m, hm⟩ : ∃ m, m = l.length := ⟨_, rfl⟩
  have HY := Lib.hid hy
  rw [← hm] at HF HY ⊢
  have hni : (n : Int) < (K : Int) := by omega
  obtain ⟨cs, hcs⟩ : ∃ cs, cs = yc (Sm.full l) := ⟨_, rfl⟩
  obtain ⟨cl, hcl⟩ : ∃ cl, cl = yc l := ⟨_, rfl⟩
  obtain ⟨z, Z, hz, hZ, hZs⟩ : ∃ (z : Value) (Z : Array Value), (∀ w, (zeroValue 87).run Try.prog w = .ok z w) ∧ z.cells = Z ∧ Z = z64 := ⟨_, z64, (zero_of_info infoBz).1, rfl, rfl⟩
  have HZ := Lib.hid hz; have HZ1 := Lib.hid hZ; have HZS := Lib.hid hZs
  have HCL := Lib.hid hcl; have HCS := Lib.hid hcs; have HM := Lib.hid hM; have HMM := Lib.hid hm; have HKK := Lib.hid hK
  have HI2 := Lib.hid i2
  clear HR h hc hy hz hZ hZs hcl hcs hM hm hK i0 i1 i2
  go_enter Try.func20, Try.ntmps20
  go_wp2_with fail
  refine HF.out.mono ?_
  rintro e w1 ⟨rfl, rfl⟩
  clear HF
  have hcz : ((w.alloc (.cells Z 87)).heap[w.heap.size]? = some (.cells (Z.toList).toArray 87 (0, 0))) := by rw [heap_alloc_new]
  have HCZ := Lib.hid hcz
  have HSR : Hid (0 < cl.length → ∃ ad, a = some ad ∧ ∀ j v, cl[j]? = some v → (w.alloc (.cells Z 87)).cell? (ad.add j) = some v) := fun h0 => by
    rw [HCL.out, yc_length] at h0
    have hy2 := HY.out.keep ((Below.refl _ w).alloc (Nat.le_refl _) (.cells Z 87))
    rcases hy2 with ⟨_, _, _, e⟩ | ⟨b, off, cap, e, hcp, hg, hcell⟩
    · rw [e] at h0; simp at h0
    · injection e with e1 e2 e3
      refine ⟨⟨b, off, none⟩, e1, fun j v hv => ?_⟩
      rw [HCL.out, yc_get] at hv
      have hj : j < l.length := by
        have := (List.getElem?_eq_some_iff.1 (by rw [← yc_get] at hv; exact hv)).1
        rwa [yc_length] at this
      rw [add_pl, hcell j hj]
      simpa [List.getD, hj] using hv
  clear hcz
  go_wp2_with (first
    | (with_reducible refine wpList_alloc_of ?_ 87 ?_ z Z ?_ ?_ ?_
       · rfl
       · rfl
       · exact HZ.out
       · exact HZ1.out)
    | (with_reducible refine wpList_copy_splice ?_ (.tmp 17) (.tmp 18) 39 39 ?_ 5 Try.underlying39 ?_ (some ⟨w.heap.size, 0, none⟩) a 64 64 m c ?_ ?_ w.heap.size 0 Z.toList 87 HCZ.out cl ?_ ?_ ?_ ?_ w.heap.size w ?_ (Nat.le_refl _) ?_
       · rfl
       · rfl
       · kernel_rfl
       · rfl
       · rfl
       · rw [HCL.out, yc_length, ← HMM.out]; have := HI2.out; have := HMM.out; exact (Nat.min_eq_left (by omega)).symm
       · exact fun h0 => ⟨rfl, HSR.out h0⟩
       · rw [HZS.out, HCL.out, yc_length]; have := HI2.out; simp [z64]; omega
       · rw [HCL.out]; exact yc_one l
       · exact (Below.refl _ _).alloc (Nat.le_refl _) _))
  intro w2 HG2 hB2
  have hspl : splice Z.toList 0 cl = cs := by rw [HZS.out, HCL.out, HCS.out]; exact splice_full l
  rw [hspl] at HG2
  have HB2 := Lib.hid hB2
  have HD2 := Lib.hid (H.out.below hB2)
  have HL64 : Hid ((Sm.full l).length = 64) := Sm.full_len HI2.out
  have hrg : ∀ (W : World), W.heap[w.heap.size]? = some (.cells cs.toArray 87 (0, 0)) → W.rangeAt w.heap.size 0 cs := fun W hW j v hv => by
    rw [Lib.cell_of_heap hW, Nat.zero_add]; simpa using hv
  have hl64 : cs.length = 64 := by rw [HCS.out, yc_length]; exact HL64.out
  have hu := Try.underlying87
  have hi : (Try.prog.info? 87).map (·.size) = some cs.length := by rw [hl64]; exact infoB2
  have h1c : ∀ v ∈ cs, v.oneCell' = true := by rw [HCS.out]; exact yc_one _
  have hg2 : g < w.heap.size := H.out.lt
  have hnb2 : nb < w.heap.size := H.out.nr.lt
  have hth : w2.drew.there nb (n * 64) 64 := by rw [World.there_drew]; exact HD2.out.nr.th n (by rw [HD2.out.nl]; exact hn)
  have h10 : w2.drew.cell? ⟨g, 1, none⟩ = some (.slice (some ⟨nb, 0, none⟩) K K) := by rw [HKK.out]; exact HD2.out.c1
  have S0 := Lib.hid (show w2.drew.cell? ⟨g, 1, none⟩ = some (.slice (some ⟨nb, 0, none⟩) K K) ∧ w2.drew.rangeAt w.heap.size 0 cs ∧ w2.drew.there nb (n * 64) 64 from ⟨h10, hrg _ HG2.out, hth⟩)
  have S1 := Lib.hid (show (w2.drew.setCells nb (n * 64) cs).cell? ⟨g, 1, none⟩ = some (.slice (some ⟨nb, 0, none⟩) K K) ∧ (w2.drew.setCells nb (n * 64) cs).rangeAt w.heap.size 0 cs ∧ (w2.drew.setCells nb (n * 64) cs).there nb (n * 64) 64 from
    ⟨by rw [World.cell?_setCells_out _ _ _ _ _ (fun e _ => absurd e H.out.e2)]; exact h10, hrg _ (by rw [heap_setCells _ _ (by omega)]; exact HG2.out), World.there_setCells hth _ _ _⟩)
  clear hB2 hspl hrg hth h10
  go_upto_region 6 with (fail)
  go_region_held3 (fun w' => w'.cell? ⟨g, 1, none⟩ = some (.slice (some ⟨nb, 0, none⟩) K K) ∧ w'.rangeAt w.heap.size 0 cs ∧ w'.there nb (n * 64) 64) (first | exact S0.out | exact S1.out) (fail)
  clear S0 S1 HCZ HSR HY HCL h1c
  obtain ⟨w3, hw3⟩ : ∃ w3, w3 = w2.drew.setCells nb (n * 64) cs := ⟨_, rfl⟩
  have HD3 : Hid (Dk g kb nb wa wc lim lf (nw.set n (Sm.full l)) d w3) := by
    show Dk _ _ _ _ _ _ _ _ _ _
    rw [hw3, HCS.out]
    exact (HD2.out.below (show Below w2.heap.size w2 w2.drew from below_drew0 _)).setNew n hn _ HL64.out
  have HO3 : Hid (Only (Kf g kb nb wa) w w3) := by
    show Only _ _ _
    rw [hw3]
    exact (Only.drew (⟨HB2.out.os, HB2.out.tape, HB2.out.output, HB2.out.size, fun k hk _ => HB2.out.block k hk⟩ : Only (Kf g kb nb wa) w w2)).setCells (.inl (.inr (.inr (.inl rfl)))) _ _
  have HG3 : Hid (w3.heap[w.heap.size]? = some (.cells cs.toArray 87 (0, 0))) := by
    show _ = _
    rw [hw3, heap_setCells _ _ (by omega)]; exact HG2.out
  rw [← hw3]
  clear hw3 HD2 HB2 HG2
  obtain ⟨D, hDD⟩ : ∃ D : Array Value, D = #[.int .i64 (n : Int)] ++ cs.toArray := ⟨_, rfl⟩
  have hCs : cs.toArray.size = 64 := by simpa using hl64
  obtain ⟨A, hA⟩ : ∃ A : Array Value, A = #[.int .i64 0] ++ Array.replicate 64 (.int .u8 0) := ⟨_, rfl⟩
  have hzv : ∀ W, (zeroValue 89).run Try.prog W = .ok (.agg A) W := by
    obtain ⟨i0, hi0, hz0, _, _⟩ := info_of infoW
    rw [hA]
    exact (zero_of_info (n := 65) (by kernel_rfl)).1
  have hA65 : A.size = 65 := by rw [hA]; rfl
  have hA0 : (A = #[]) = False := by simp [hA]
  have hA1 : (A.size < 65) = False := by simp [hA65]
  have hfd : List.foldl (fun (cs : Array Value) (x : Value × Nat) => cs.setIfInBounds (1 + x.2) x.1) (A.setIfInBounds 0 (.int .i64 (n : Int))) cs.zipIdx = D := by
    rw [fill_list 1 cs 0 _ (by rw [Array.size_setIfInBounds]; omega), hDD, hA, hl64]
    apply Array.ext'
    rw [List.drop_eq_nil_of_le (by simp)]
    simp
  clear hA hA65
  have hDs : D.size = 65 := by rw [hDD]; simp [hl64]
  have hfe : ∀ Z : Array Value, Z.size = 65 → Array.foldl (fun (cs : Array Value) (x : Value × Nat) => cs.setIfInBounds x.2 x.1) Z D.zipIdx 0 65 = D := fun Z hZ => fill_all D Z hDs hZ
  have hbs : ∀ W, (Instr.buildSlice 69 1 #[(0, .agg D)]).run Try.prog W = .ok (.slice (some ⟨W.heap.size, 0, none⟩) 1 1) (W.alloc (.cells D 89)) := fun W => by rw [hDD]; exact run_row1 n _ hCs W
  have HDK : Hid (D.toList = kcs [⟨n, Sm.full l⟩]) := by
    show _ = _
    rw [hDD, HCS.out, kcs, kcs]; simp
  have hrg : ∀ (W : World), W.heap[w.heap.size]? = some (.cells cs.toArray 87 (0, 0)) → W.rangeAt w.heap.size 0 cs := fun W hW j v hv => by
    rw [Lib.cell_of_heap hW, Nat.zero_add]; simpa using hv
  have S0 := Lib.hid (show w3.drew.rangeAt w.heap.size 0 cs from hrg _ HG3.out)
  have hh3 : w.heap.size < w3.heap.size := heap_lt HG3.out
  have S1 := Lib.hid (show (w3.drew.alloc (.cells D 89)).rangeAt w.heap.size 0 cs from hrg _ (by rw [Below.heap_alloc _ _ _ (by simpa using hh3)]; exact HG3.out))
  have HRG := Lib.hid hrg
  have c2 := HD3.out.c2; have fz := HD3.out.fz; have lt3 := HD3.out.lt
  rw [← HM.out] at c2
  have c2a : (w3.drew.alloc (.cells D 89)).cell? ⟨g, 2, none⟩ = some (.slice wa M wc) := by rw [World.cell?_alloc_lt _ _ _ (by simpa using lt3)]; exact c2
  obtain ⟨j0, hj0, hz0, hz1, hz2⟩ := info_of infoW
  have HI0 := Lib.hid hj0; have HZ0 := Lib.hid hz0; have HZ1 := Lib.hid hz1; have HZ2 := Lib.hid hz2
  clear hj0 hz0 hz1 hz2 hDD hrg
  have hwne : ∀ b, wa = some b → b.block ≠ w.heap.size := fun b e => by have := (H.out.ws.lt b.block (by rw [e]; rfl)).2; omega
  have HAPP : Hid (∀ (v2 : Value) (w4 : World), w4.ownsRow 0 89 65 v2 (M + 1) (kcs d.ws ++ kcs [⟨n, Sm.full l⟩]) → ((w3.alloc (.cells D 89)).drew).grownBy w4 (Value.slice wa M wc).ownBlock → (v2.ownBlock = (Value.slice wa M wc).ownBlock ∨ v2.ownBlock = some ((w3.alloc (.cells D 89)).drew).heap.size) →
      ∃ a3 c3, v2 = .slice a3 (M + 1) c3 ∧ w4.cell? ⟨g, 2, none⟩ = some (.slice wa M wc) ∧ (∀ o, w4.frozen? ⟨g, o, none⟩ = false) ∧ g < w4.heap.size ∧ w4.heap[w.heap.size]? = some (.cells cs.toArray 87 (0, 0)) ∧
      Hid (Dk g kb nb a3 c3 lim lf (nw.set n (Sm.full l)) { d with ws := d.ws ++ [⟨n, Sm.full l⟩] } (w4.setCell ⟨g, 2, none⟩ (.slice a3 (M + 1) c3))) ∧ Hid (Only (Kf g kb nb wa) w3 (w4.setCell ⟨g, 2, none⟩ (.slice a3 (M + 1) c3))) ∧ Hid (∀ k, Kf g kb nb a3 k → Kf g kb nb wa k ∨ w3.heap.size ≤ k)) := by
    rw [HM.out]
    exact fun v2 w4 h1 h2 h3 => dk_app HD3.out HG3.out hwne ⟨n, Sm.full l⟩ ⟨hn, HL64.out⟩ _ h1 h2 h3
  have HOWN : Hid (((w3.alloc (.cells D 89)).drew).ownsRow 0 89 65 (.slice wa M wc) M (kcs d.ws)) := by
    rw [HM.out]; exact own_drew (HD3.out.ws.alloc _)
  have HSRC : Hid (Src Try.prog 65 69 (.slice (some ⟨w3.heap.size, 0, none⟩) 1 1) 1 (kcs [⟨n, Sm.full l⟩]) ((w3.alloc (.cells D 89)).drew)) := by
    refine Src.ofSlice _ Try.underlying69 ⟨w3.heap.size, 0, none⟩ 1 1 _ (by rw [kcs_length _ (fun x hx => by rw [List.mem_singleton.1 hx]; exact HL64.out)]; rfl) (fun j u hj => ?_) (kcs_one _)
    rw [← HDK.out] at hj
    rw [add_pl, Nat.zero_add, World.cell?_drew, Lib.cell_of_heap (heap_alloc_new w3 _)]
    simpa using hj
  have hM1 : M + 1 ≤ maxLen := by have := HM.out; have := hlim.w; unfold maxLen; omega
  have hM2 : (M + 1) * 72 ≤ 140737488355328 := by have := HM.out; have := hlim.w; omega
  have HLIM := Lib.hid hlim
  clear hwne hlim
  go_upto_region 7 with (fail)
  refine wp_region_noPanic ?_
  refine wp_region_held_drew (S := fun w' => w'.rangeAt w.heap.size 0 cs) (by kernel_rfl) S0.out (fun _ => ?_)
  refine wpAnyH_take (i := 0) (v := ?v1) rfl (by kernel_rfl) (by kernel_rfl) (by kernel_rfl) (fun _ _ _ h => h) (Or.inl ⟨by rfl, ?hy1⟩) S0.out ?rest1
  case hy1 => (intro w' hSw; go_simp; with_reducible rfl)
  try simp only [Act.put, List.setIfInBounds_toArray]
  refine wpAnyH_take (i := 1) (v := ?v2) rfl (by kernel_rfl) (by kernel_rfl) (by kernel_rfl) (fun _ _ _ h => h) (Or.inl ⟨by rfl, ?hy2⟩) S0.out ?rest2
  case hy2 => (intro w' hSw; go_simp; with_reducible rfl)
  try simp only [Act.put]
  refine wpAnyH_take (i := 2) (v := ?v3) rfl (by kernel_rfl) (by kernel_rfl) (by kernel_rfl) (fun _ _ _ h => h) (Or.inl ⟨by rfl, ?hy3⟩) S0.out ?rest3
  case hy3 => (intro w' hSw; go_simp; with_reducible rfl)
  try simp only [Act.put]
  refine wpAnyH_take (i := 3) (v := ?v4) rfl (by kernel_rfl) (by kernel_rfl) (by kernel_rfl) (fun _ _ _ h => h) (Or.inl ⟨by rfl, ?hy4⟩) S0.out ?rest4
  case hy4 => (intro w' hSw; go_simp; with_reducible rfl)
  try simp only [Act.put]
  refine wpAnyH_take (i := 5) (v := ?v5) rfl (by kernel_rfl) (by kernel_rfl) (by kernel_rfl) (fun _ _ _ h => h) (Or.inl ⟨by rfl, ?hy5⟩) S0.out ?rest5
  case hy5 => (intro w' hSw; go_simp; with_reducible rfl)
  try simp only [Act.put]
  refine wpAnyH_take (i := 6) (v := .agg cs.toArray) rfl (by kernel_rfl) (by kernel_rfl) (by kernel_rfl) (fun _ _ _ h => h) (yieldsIf_load_mid (by rfl) 87 (.tmp 8) rfl w.heap.size 0 rfl cs (.array 64 5) (fun _ h => h) hu rfl hi) S0.out ?resta
  try simp only [Act.put]
  refine wpAnyH_take (i := 7) (v := ?v6) rfl (by kernel_rfl) (by kernel_rfl) (by kernel_rfl) (fun _ _ _ h => h) (Or.inl ⟨by rfl, ?hy6⟩) S0.out ?rest6
  case hy6 => (intro w' hSw; go_simp; with_reducible rfl)
  try simp only [Act.put]
  refine wpAnyH_ready (rs := [4, 8]) (by kernel_rfl) (by simp) ?_
  refine AllReadyH.cons rfl (fun K hK => ?_) ?other
  go_simp
  refine hK.out _ _ S0.out (fun _ => ?_)
  clear hK K
  try simp only [Act.put]
  refine wpAnyH_ready (rs := [8]) (by kernel_rfl) (by simp) ?_
  refine AllReadyH.cons rfl (fun K hK => ?_) AllReadyH.nil
  go_simp
  refine hK.out _ _ S1.out (fun _ => ?_)
  clear hK K
  try simp only [Act.put]
  refine wpAnyH_ready (rs := [9]) (by kernel_rfl) (by simp) ?_
  refine AllReadyH.cons rfl (fun K hK => ?_) AllReadyH.nil
  refine step_append_src _ rfl (.tmp 31) (.tmp 35) 69 69 rfl 0 89 j0 _ 65 72 Try.underlying69 HI0.out HZ0.out HZ1.out HZ2.out rfl (.slice wa M wc) M (kcs d.ws) rfl HOWN.out _ 1 (kcs [⟨n, Sm.full l⟩]) rfl HSRC.out hM1 hM2 (Nat.zero_le _) ?_
  intro v2 w4 hown hgrow hat
  obtain ⟨a3, c3, rfl, k2, kf, kl, kh, HDK4, HO4, HA4⟩ := HAPP.out v2 w4 hown hgrow hat
  have S4 := Lib.hid (HRG.out w4 kh)
  have S5 := Lib.hid (HRG.out (w4.setCell ⟨g, 2, none⟩ (.slice a3 (M + 1) c3)) (by rw [Below.heap_setCell _ _ _ _ (by show w.heap.size ≠ g; omega)]; exact kh))
  clear hown hgrow hat
  refine hK.out _ _ S4.out (fun _ => ?_)
  clear hK K
  try simp only [Act.put, List.setIfInBounds_toArray]
  refine wpAnyH_take (i := 10) (v := ?v7) rfl (by kernel_rfl) (by kernel_rfl) (by kernel_rfl) (fun _ _ _ h => h) (Or.inl ⟨by rfl, ?hy7⟩) S4.out ?rest7
  case hy7 => (intro w' hSw; go_simp; with_reducible rfl)
  try simp only [Act.put]
  refine wpAnyH_take (i := 11) (v := ?v8) rfl (by kernel_rfl) (by kernel_rfl) (by kernel_rfl) (fun _ _ _ h => h) (Or.inl ⟨by rfl, ?hy8⟩) S4.out ?rest8
  case hy8 => (intro w' hSw; go_simp; with_reducible rfl)
  try simp only [Act.put]
  refine wpAnyH_ready (rs := [12]) (by kernel_rfl) (by simp) ?_
  refine AllReadyH.cons rfl (fun K hK => ?_) AllReadyH.nil
  go_simp
  refine hK.out _ _ S5.out (fun _ => ?_)
  clear hK K
  try simp only [Act.put]
  refine wpAnyH_done (by kernel_rfl) ?_ _
  rotate_left
  refine AllReadyH.cons rfl (fun K hK => ?_) AllReadyH.nil
  go_simp
  refine hK.out _ _ S1.out (fun _ => ?_)
  clear hK K
  try simp only [Act.put]
  refine wpAnyH_ready (rs := [4]) (by kernel_rfl) (by simp) ?_
  refine AllReadyH.cons rfl (fun K hK => ?_) AllReadyH.nil
  go_simp
  refine hK.out _ _ S1.out (fun _ => ?_)
  clear hK K
  try simp only [Act.put]
  refine wpAnyH_ready (rs := [9]) (by kernel_rfl) (by simp) ?_
  refine AllReadyH.cons rfl (fun K hK => ?_) AllReadyH.nil
  refine step_append_src _ rfl (.tmp 31) (.tmp 35) 69 69 rfl 0 89 j0 _ 65 72 Try.underlying69 HI0.out HZ0.out HZ1.out HZ2.out rfl (.slice wa M wc) M (kcs d.ws) rfl HOWN.out _ 1 (kcs [⟨n, Sm.full l⟩]) rfl HSRC.out hM1 hM2 (Nat.zero_le _) ?_
  intro v2 w4 hown hgrow hat
  obtain ⟨a3, c3, rfl, k2, kf, kl, kh, HDK4, HO4, HA4⟩ := HAPP.out v2 w4 hown hgrow hat
  have S4 := Lib.hid (HRG.out w4 kh)
  have S5 := Lib.hid (HRG.out (w4.setCell ⟨g, 2, none⟩ (.slice a3 (M + 1) c3)) (by rw [Below.heap_setCell _ _ _ _ (by show w.heap.size ≠ g; omega)]; exact kh))
  clear hown hgrow hat
  refine hK.out _ _ S4.out (fun _ => ?_)
  clear hK K
  try simp only [Act.put, List.setIfInBounds_toArray]
  refine wpAnyH_take (i := 10) (v := ?v9) rfl (by kernel_rfl) (by kernel_rfl) (by kernel_rfl) (fun _ _ _ h => h) (Or.inl ⟨by rfl, ?hy9⟩) S4.out ?rest9
  case hy9 => (intro w' hSw; go_simp; with_reducible rfl)
  try simp only [Act.put]
  refine wpAnyH_take (i := 11) (v := ?v10) rfl (by kernel_rfl) (by kernel_rfl) (by kernel_rfl) (fun _ _ _ h => h) (Or.inl ⟨by rfl, ?hy10⟩) S4.out ?rest10
  case hy10 => (intro w' hSw; go_simp; with_reducible rfl)
  try simp only [Act.put]
  refine wpAnyH_ready (rs := [12]) (by kernel_rfl) (by simp) ?_
  refine AllReadyH.cons rfl (fun K hK => ?_) AllReadyH.nil
  go_simp
  refine hK.out _ _ S5.out (fun _ => ?_)
  clear hK K
  try simp only [Act.put]
  refine wpAnyH_done (by kernel_rfl) ?_ _
  all_goals
    refine NoPanic.normal ?_
    have HN := Lib.hid (sec_count g kb nb a3 c3 lim lf _ _ _ HDK4.out ⟨HLIM.out.c0, HLIM.out.c1⟩ i3 HLIM.out.l1)
    clear HAPP HOWN HSRC S0 S1 S4 S5 c2 c2a fz k2 kf kl kh hfd hfe hzv hA0 hA1 hDs hCs HG3
    go_wp2_with fail
    refine HN.out.mono ?_
    rintro e w5 ⟨rfl, ⟨lf', hd5⟩, ho5⟩
    have HRW := HO3.out.trans (HO4.out.trans (ho5.mono fun k _ e => .inl e))
    go_wp2
    go_ret
    exact ⟨rfl, HRW, a3, c3, lf', _, hd5, Nv.write H.out HV.out n hn _, fun k hk => by
      rcases HA4.out k hk with h | h
      · exact .inl h
      · have := HO3.out.size; exact .inr (by omega)⟩
end Go.Proofs.Ytofbignggadkiaa
