/- Package tree: with. -/
import Derived.Test.YtdchapcpimhjaaaTreC8
namespace Go.Proofs.Ytdchapcpimhjaaa
open Go.RowKit

/-- a row of one, in memory -/
theorem rv_cell {ex : Nat → Prop} {W : World} {g : Nat} {v : Value} {ty : TypeId} (h : W.heap[g]? = some (.cells #[v] ty (0, 0))) (hx : ¬ ex g) : Rv ex (some ⟨g, 0, none⟩) 1 1 [v] W :=
  ⟨rfl, fun _ => ⟨g, 0, rfl, Nat.le_refl _, heap_lt h, hx, fun j hj => by
    obtain rfl : j = 0 := by omega
    rw [Lib.cell_of_heap h]; rfl⟩⟩
theorem al2 (w : World) (A B : Obj) : ((w.alloc A).alloc B).heap[w.heap.size]? = some A := by
  have := heap_alloc_new w A
  have hl : w.heap.size < (w.alloc A).heap.size := by simp
  rw [← this]
  exact ((one_b8 (w.alloc A) B).block _ hl)
theorem al3 (w : World) (A B : Obj) : ((w.alloc A).alloc B).heap[w.heap.size + 1]? = some B := by
  have := heap_alloc_new (w.alloc A) B
  rw [show (w.alloc A).heap.size = w.heap.size + 1 by simp] at this
  exact this
theorem bl_dr {B : Nat} {a w : World} (h : Below B a w) : Below B a w.drew := ⟨h.os, h.tape, h.output, h.size, h.block⟩
theorem bl_al1 {B : Nat} {a w : World} (h : Below B a w) (hB : B ≤ w.heap.size) (A : Obj) : Below B a (w.alloc A).drew := bl_dr (h.alloc hB A)
theorem bl_al12 {B : Nat} {a w : World} (h : Below B a w) (hB : B ≤ w.heap.size) (A C : Obj) : Below B a ((w.alloc A).alloc C).drew := bl_dr ((h.alloc hB A).alloc (by simp; omega) C)
set_option maxHeartbeats 4000000 in
set_option maxRecDepth 100000 in
theorem tre_withL {ex : Nat → Prop} {p : Nat} {l : List Tm.E} {k : Tm.K} {v : Int} {W : World} (ht : Tn ex 0 p (.leaf l) W) (hc : l.length ≤ 8) (ha : Tm.Asc l) (hex : ∀ k, W.heap.size ≤ k → ¬ ex k) :
    Calls Try.prog 59 #[ptr p, .string (bstr k), .int .i64 v] W fun e w' => ∃ a n c, e = .returned (.slice a n c) ∧ Hid (Hs ex 0 (Tm.wi 0 (.leaf l) k v) a n c w') ∧ Below W.heap.size W w' := by
  have HKID := Lib.hid (fun W' (hb : Below W.heap.size W W') => tre_hasKids (ht.below hb))
  have hak := Tm.keys_asc 0 (.leaf l) trivial ha
  have HF0 := fun W' (hb : Below W.heap.size W W') => tre_find k (ht.below hb) (show l.length ≤ 100 by omega) hak
  have hfl := Tm.fnd_le (l.map (·.1)) k
  rw [List.length_map] at hfl
  obtain ⟨l', el, hxp, ka, kc, va, vc, ba, bc, hn, hk, hv, hcp⟩ := ht
  injection el with el
  subst el
  obtain ⟨n, hnn⟩ : ∃ n, n = l.length := ⟨_, rfl⟩
  obtain ⟨f, hf⟩ : ∃ f, f = Tm.fnd (l.map (·.1)) k := ⟨_, rfl⟩
  obtain ⟨o, ho⟩ : ∃ o, o = Tm.fok (l.map (·.1)) k := ⟨_, rfl⟩
  obtain ⟨j, hj⟩ : ∃ j, j = if o = true then f + 1 else f := ⟨_, rfl⟩
  have hjn : j ≤ l.length := by
    rw [hj]
    split
    · rename_i h
      rw [ho] at h
      unfold Tm.fok at h
      have h2 := of_decide_eq_true h
      have := (List.getElem?_eq_some_iff.1 h2).1
      rw [List.length_map, ← hf] at this
      omega
    · rw [hf]; exact hfl
  have hfj : f ≤ j := by rw [hj]; split <;> omega
  have hjf : j ≤ f + 1 := by rw [hj]; split <;> omega
  have hwo : Tm.wi 0 (.leaf l) k v = Tm.hv (.leaf (Tm.spl l f j [(k, v)])) := by rw [hj, hf, ho]; rfl
  rw [hwo]
  rw [← hnn] at hn hk hv hc hcp hfl hjn
  rw [← hf] at hfl
  have HF : Hid (∀ W', Below W.heap.size W W' → Calls Try.prog 63 #[.pointer (some ⟨p, 0, none⟩), .string (bstr k)] W' fun e w' => e = .returned (.tuple #[.int .i64 (f : Int), .bool o]) ∧ Below W'.heap.size W' w') := fun W' hb => by
    have h := HF0 W' hb
    rw [show Tm.keys 0 (.leaf l) = l.map (·.1) from rfl, ← ho, ← hf] at h
    exact h
  have p0 : W.cell? ⟨p, 0, none⟩ = some (.slice ka n kc) := by rw [Lib.cell_of_heap hn]; rfl
  have p1 : W.cell? ⟨p, 1, none⟩ = some (.slice va n vc) := by rw [Lib.cell_of_heap hn]; rfl
  have hpl : p < W.heap.size := heap_lt hn
  have hex1 : ∀ W', Below W.heap.size W W' → ∀ k, W'.heap.size ≤ k → ¬ ex k := fun W' hb k hk => hex k (by have := hb.size; omega)
  have HK1 : Hid (∀ w g, Below W.heap.size W w → W.heap.size ≤ g → w.heap[g]? = some (.cells #[.string (bstr k)] 9 (0, 0)) → Calls Try.prog 69 #[.slice ka n kc, .int .i64 (f : Int), .int .i64 (j : Int), .slice (some ⟨g, 0, none⟩) 1 1] w fun e w' => ∃ a N, e = .returned (.slice a N N) ∧ Hid (N = (Tm.spl (l.map (·.1)) f j [k]).length ∧ Rv ex a N N (sk (Tm.spl (l.map (·.1)) f j [k])) w' ∧ Fm a N N) ∧ Below w.heap.size w w' ∧ Below W.heap.size W w') := fun w g hb hg hcell => by
    refine (tre_splK (es := [k]) f j (hk.below hb) hcp.2.1 (rv_cell hcell (hex g hg)) hfj hjn (by omega) (by omega) hcp.1.1 (hex1 w hb)).mono ?_
    rintro e w' ⟨a, N, rfl, hh, hb'⟩
    exact ⟨a, N, rfl, hh, hb', hb.trans (hb'.mono hb.size)⟩
  have HV1 : Hid (∀ w g, Below W.heap.size W w → W.heap.size ≤ g → w.heap[g]? = some (.cells #[.int .i64 v] 3 (0, 0)) → Calls Try.prog 70 #[.slice va n vc, .int .i64 (f : Int), .int .i64 (j : Int), .slice (some ⟨g, 0, none⟩) 1 1] w fun e w' => ∃ a N, e = .returned (.slice a N N) ∧ Hid (N = (Tm.spl (l.map (·.2)) f j [v]).length ∧ Rv ex a N N (iv (Tm.spl (l.map (·.2)) f j [v])) w' ∧ Fm a N N) ∧ Below w.heap.size w w' ∧ Below W.heap.size W w') := fun w g hb hg hcell => by
    refine (tre_splV (es := [v]) f j (hv.below hb) hcp.2.2 (rv_cell hcell (hex g hg)) hfj hjn (by omega) (by omega) hcp.1.2.1 (hex1 w hb)).mono ?_
    rintro e w' ⟨a, N, rfl, hh, hb'⟩
    exact ⟨a, N, rfl, hh, hb', hb.trans (hb'.mono hb.size)⟩
  have hsl := Tm.spl_len l (a := f) (b := j) [(k, v)] hfj (by omega)
  rw [List.length_singleton] at hsl
  have HLF : Hid (∀ (w : World) (a1 b1 : Option Addr) (N1 M1 : Nat), Below W.heap.size W w → (N1 = (Tm.spl (l.map (·.1)) f j [k]).length ∧ Rv ex a1 N1 N1 (sk (Tm.spl (l.map (·.1)) f j [k])) w ∧ Fm a1 N1 N1) → (M1 = (Tm.spl (l.map (·.2)) f j [v]).length ∧ Rv ex b1 M1 M1 (iv (Tm.spl (l.map (·.2)) f j [v])) w ∧ Fm b1 M1 M1) → Calls Try.prog 68 #[.slice a1 N1 N1, .slice b1 M1 M1] w fun e w' => ∃ z, e = .returned (.pointer (some ⟨z, 0, none⟩)) ∧ Hid (Tn ex 0 z (.leaf (Tm.spl l f j [(k, v)])) w') ∧ Below w.heap.size w w') := fun w a1 b1 N1 M1 hb h1 h2 =>
    tre_leafH (map_spl _ _ [(k, v)] _ _).symm (map_spl _ _ [(k, v)] _ _).symm (by omega) h1 h2 (hex1 w hb)
  have HHV : Hid (∀ (w : World) (z : Nat), Below W.heap.size W w → Tn ex 0 z (.leaf (Tm.spl l f j [(k, v)])) w → Calls Try.prog 67 #[.pointer (some ⟨z, 0, none⟩)] w fun e w' => ∃ a n c, e = .returned (.slice a n c) ∧ Hid (Hs ex 0 (Tm.hv (.leaf (Tm.spl l f j [(k, v)]))) a n c w') ∧ Below w.heap.size w w') := fun w z hb hz =>
    tre_halves hz trivial (show (Tm.spl l f j [(k, v)]).length ≤ 11 by omega) (show (Tm.spl l f j [(k, v)]).length ≤ 1000000 by omega) (hex1 w hb)
  have HKID2 : Hid (∀ W', Below W.heap.size W W' → Calls Try.prog 61 #[.pointer (some ⟨p, 0, none⟩)] W' fun e w' => e = .returned (.bool false) ∧ W' = w') := HKID.out
  have SB : Hid (∀ w', Below W.heap.size W w' → w'.cell? ⟨p, 0, none⟩ = some (.slice ka n kc) ∧ w'.cell? ⟨p, 1, none⟩ = some (.slice va n vc)) := fun w' hb => ⟨(hb.cell (p := ⟨p, 0, none⟩) hpl).trans p0, (hb.cell (p := ⟨p, 1, none⟩) hpl).trans p1⟩
  have hji : o = true → IntKind.i64.wrap ((f : Int) + 1) = (j : Int) := fun h => by rw [IntWalk.i64_in _ (by omega), hj, if_pos h]; omega
  have hjo : o = false → f = j := fun h => by rw [hj, h]; rfl
  have hjf8 : f ≤ 100 := by omega
  clear HKID HF0 hak hn hk hv hcp hex hex1 p1 p0 hnn hxp hwo ho hf hj hfl hsl ha hjn hfj
  generalize bstr k = S at *
  unfold ptr
  clear hc hjf
  go_enter Try.func59, Try.ntmps59
  go_wp2_with fail
  refine (HKID2.out W (Below.refl _ W)).mono ?_
  rintro e w0 ⟨rfl, rfl⟩
  go_wp2_with fail
  refine (HF.out W (Below.refl _ W)).mono ?_
  rintro e w1 ⟨rfl, hb1⟩
  have HB1 := Lib.hid hb1
  have HB0 : Hid (Below W.heap.size W w1.drew) := hb1.trans ((below_dr8 w1).mono hb1.size)
  have hw1 : W.heap.size ≤ w1.heap.size := hb1.size
  clear hb1
  rcases o with _ | _
  case' false => obtain rfl := hjo rfl
  case' true => replace hji := hji rfl
  all_goals clear hjo
  all_goals go_upto_region 8 with (fail)
  all_goals have T1 := Lib.hid True.intro
  all_goals
    go_region_held3 (fun w' => w'.cell? ⟨p, 0, none⟩ = some (.slice ka n kc) ∧ w'.cell? ⟨p, 1, none⟩ = some (.slice va n vc))
      (first | exact SB.out _ HB0.out | exact SB.out _ (by assumption) | exact SB.out _ (bl_al1 HB1.out HB1.out.size _) | exact SB.out _ (bl_al12 HB1.out HB1.out.size _ _) | exact SB.out _ (B2.alloc B2.size _))
      (first
        | (go_at_call 69; refine (HK1.out _ _ (by first | exact bl_al1 HB1.out HB1.out.size _ | exact bl_al12 HB1.out HB1.out.size _ _) (by omega) (by first | exact heap_alloc_new w1 _ | exact al2 w1 _ _ | exact al3 w1 _ _)).mono ?_; rintro e w2 ⟨a2, N2, rfl, hr2, hb2, B2⟩)
        | (go_at_call 70; refine (HV1.out _ _ (by first | assumption | exact B2.alloc B2.size _) (by first | omega | exact B2.size) (by first | exact heap_alloc_new w2 _ | exact (hb2.block _ (by simp)).trans (al3 w1 _ _) | exact (hb2.block _ (by simp; omega)).trans (al2 w1 _ _))).mono ?_; rintro e w3 ⟨a3, N3, rfl, hr3, hb3, B3⟩)
        | (go_at_call 68; refine (HLF.out _ _ _ _ _ B3 ⟨hr2.out.1, by first | exact hr2.out.2.1.below hb3 | exact (hr2.out.2.1.below (one_b8 _ _)).below hb3, hr2.out.2.2⟩ hr3.out).mono ?_; rintro e w4 ⟨z, rfl, ht4, hb4⟩; have B4 := B3.trans (hb4.mono B3.size))
        | (go_at_call 67; refine (HHV.out _ _ B4 ht4.out).mono ?_; rintro e w5 ⟨a5, n5, c5, rfl, hr5, hb5⟩; have B5 := B4.trans (hb5.mono B4.size)))
  all_goals
    have HB5 := Lib.hid B5
    clear hr2 hr3 hb2 hb3 hb4 hb5 B2 B3 B4 B5 HK1 HV1 HLF HHV SB ht4
    go_wp2
    go_ret
    exact ⟨_, _, _, rfl, hr5, HB5.out⟩
end Go.Proofs.Ytdchapcpimhjaaa
