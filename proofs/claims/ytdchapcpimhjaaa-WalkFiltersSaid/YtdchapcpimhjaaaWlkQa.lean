/- Layer 9: the reference's Between and Prefix. -/
import Derived.Test.YtdchapcpimhjaaaTreE3
import Derived.Test.YtdchapcpimhjaaaWlkBa
namespace Go.Proofs.Ytdchapcpimhjaaa
open Go.RowKit

/-- between two keys -/
def fB (k kt : Tm.K) (e : Tm.E) : Bool := !Tm.lt e.1 k && (kt.isEmpty || Tm.lt e.1 kt)
set_option maxHeartbeats 1000000 in
set_option maxRecDepth 100000 in
theorem ref9_Between {ex : Nat → Prop} {l : List Tm.E} {k kt : Tm.K} {a : Option Addr} {n c : Nat} {W : World} (h : Ps ex (.slice a n c) l W) (hn : n ≤ 10000) (hex : ∀ k, W.heap.size ≤ k → ¬ ex k) :
    Calls Try.prog 11 #[.slice a n c, .string (bstr k), .string (bstr kt)] W fun e w' => ∃ v, e = .returned v ∧ Ps ex v (l.filter (fB k kt)) w' ∧ Below W.heap.size W w' := by
  obtain ⟨i0, hi0, hz0, hz1, hz2⟩ := info_of8 info2p
  have HI0 := Lib.hid hi0; have HZ0 := Lib.hid hz0; have HZ1 := Lib.hid hz1; have HZ2 := Lib.hid hz2
  clear hi0 hz0 hz1 hz2
  have hnl := h.len
  obtain ⟨S, hS⟩ : ∃ S, S = bstr k := ⟨_, rfl⟩
  obtain ⟨T, hT⟩ : ∃ T, T = bstr kt := ⟨_, rfl⟩
  have HC : Hid (∀ (X : ByteArray) (e : Tm.E), X = bstr e.1 → Op.bytesLess X.toList S.toList = Tm.lt e.1 k ∧ Op.bytesLess X.toList T.toList = Tm.lt e.1 kt ∧ (T.toList == ([] : List UInt8)) = kt.isEmpty) := fun X e h => by
    rw [h, hS, hT, bstr_lt8, bstr_lt8, bstr_toList]
    exact ⟨rfl, rfl, by cases kt <;> rfl⟩
  rw [← hS, ← hT]
  have HJ : Hid (∀ j, j < n → ∃ (g off : Nat) (X : ByteArray) (x : Int) (e : Tm.E), a = some ⟨g, off, none⟩ ∧ g < W.heap.size ∧ W.cell? ⟨g, off + j * 2, none⟩ = some (.string X) ∧ W.cell? ⟨g, off + j * 2 + 1, none⟩ = some (.int .i64 x) ∧ Hid (l.take (j + 1) = l.take j ++ [e]) ∧ Hid (X = bstr e.1 ∧ x = e.2)) := fun j hj => by
    obtain ⟨g, off, e, -, hg, h1, h2⟩ := h.at j (by omega)
    exact ⟨g, off, _, _, l[j]'(by omega), e, hg, h1, h2, by show _ = _; rw [List.take_add_one, List.getElem?_eq_getElem (show j < l.length by omega)]; rfl, rfl, rfl⟩
  have HNL : Hid (l.take n = l) := List.take_of_length_le (by omega)
  have HEX := Lib.hid hex
  clear h hS hT hnl hex
  go_enter Try.func11, Try.ntmps11
  go_wp2
  go_loopw [7, 12] (fun v iv wr => ∃ (j m : Nat) (b : Option Addr) (d : Nat), j ≤ n ∧ m ≤ j ∧ iv = .int .i64 (j : Int) ∧ v = .slice b m d ∧ Hid (wr.ownsRow W.heap.size 50 2 (.slice b m d) m (pcs ((l.take j).filter (fB k kt)))) ∧ Hid (Below W.heap.size W wr)) (fun _ iv _ => n - (ixOf iv).toNat)
  case atStart => exact ⟨0, 0, none, 0, Nat.zero_le _, Nat.le_refl _, rfl, rfl, World.ownsRow_nil _ _ _ _, Below.refl _ _⟩
  case round =>
    obtain ⟨j, m, b, d, hj, hm, rfl, rfl, HO, HB⟩ := hrel
    by_cases hlt : j < n
    · obtain ⟨g, off, X, x, e, rfl, hg, c0, c1, HDR, HX⟩ := HJ.out j hlt
      have hjI : (j : Int) < (n : Int) := by omega
      have w0 := (HB.out.cell (p := ⟨g, off + j * 2, none⟩) hg).trans c0
      have w1 := (HB.out.cell (p := ⟨g, off + j * 2 + 1, none⟩) hg).trans c1
      have hgr : g < wr.heap.size := by have := HB.out.size; omega
      clear c0 c1
      obtain ⟨wr1, hw1⟩ : ∃ wr1, wr1 = wr.alloc (.cells #[.string X, .int .i64 x] 50) := ⟨_, rfl⟩
      have HA : Hid (Below W.heap.size W wr1) := by show Below _ _ _; rw [hw1]; exact HB.out.trans ((one_b8 _ _).mono HB.out.size)
      have HO1 : Hid (wr1.ownsRow W.heap.size 50 2 (.slice b m d) m (pcs ((l.take j).filter (fB k kt)))) := by show World.ownsRow _ _ _ _ _ _ _; rw [hw1]; exact HO.out.alloc _
      have HF1 : Hid ((l.take (j + 1)).filter (fB k kt) = (l.take j).filter (fB k kt) ++ [e].filter (fB k kt)) := by show _ = _; rw [HDR.out, List.filter_append]
      by_cases h1 : Tm.lt e.1 k = true
      case pos =>
        have hv : fB k kt e = false := by simp [fB, h1]
        have hXS := (HC.out X e HX.out.1).1
        rw [h1] at hXS
        clear h1
        have HO2 : Hid (wr1.ownsRow W.heap.size 50 2 (.slice b m d) m (pcs ((l.take (j + 1)).filter (fB k kt)))) := by
          rw [HF1.out, show [e].filter (fB k kt) = [] by simp [hv], List.append_nil]; exact HO1.out
        have HW1 := Lib.hid hw1
        clear hw1 HO HO1 HX HDR HJ HNL HB HF1 hv HC
        go_wp2_with fail
        rw [← HW1.out]
        refine ⟨⟨j + 1, m, b, d, by omega, by omega, by go_num, rfl, HO2, HA⟩, ?_⟩
        simp [ixOf]; omega
      case neg =>
        by_cases h2 : kt.isEmpty = true
        case pos =>
          have hv : fB k kt e = true := by simp [fB, h1, h2]
          have hXS := (HC.out X e HX.out.1).1
          have hTE := (HC.out X e HX.out.1).2.2
          rw [show Tm.lt e.1 k = false by simpa using h1] at hXS
          rw [h2] at hTE
          clear h1 h2
          have HF2 : Hid (pcs ((l.take (j + 1)).filter (fB k kt)) = pcs ((l.take j).filter (fB k kt)) ++ pcs [e]) := by
            show _ = _
            rw [HF1.out, show [e].filter (fB k kt) = [e] by simp [hv], pcs_append]
          obtain ⟨wr2, hw2⟩ : ∃ wr2, wr2 = (wr.alloc (.cells #[.string X, .int .i64 x] 50)).alloc (.cells #[.string X, .int .i64 x] 50) := ⟨_, rfl⟩
          have HA2 : Hid (Below W.heap.size W wr2) := by show Below _ _ _; rw [hw2, ← hw1]; exact HA.out.trans ((one_b8 _ _).mono HA.out.size)
          have HO3 : Hid (wr2.ownsRow W.heap.size 50 2 (.slice b m d) m (pcs ((l.take j).filter (fB k kt)))) := by show World.ownsRow _ _ _ _ _ _ _; rw [hw2, ← hw1]; exact HO1.out.alloc _
          have HSRC : Hid (Src Try.prog 2 25 (.slice (some ⟨wr.heap.size + 1, 0, none⟩) 1 1) 1 (pcs [e]) wr2) := by
            show Src _ _ _ _ _ _ _
            rw [hw2]
            exact lit_srcp _ X x e HX.out.1 HX.out.2 _ (by simp)
          have hsz2 : W.heap.size ≤ wr2.heap.size := HA2.out.size
          have HW2 := Lib.hid hw2
          clear hw1 hw2 HO HO1 HX HDR HJ HNL HB HF1 hv HC HA
          go_wp2_with (at_builtin; rw [← HW2.out]; refine wpList_append_src _ rfl (.tmp 30) (.tmp 32) 25 25 rfl W.heap.size 50 i0 _ 2 24 Try.underlying25 HI0.out HZ0.out HZ1.out HZ2.out rfl (.slice b m d) m (pcs ((l.take j).filter (fB k kt))) rfl HO3.out _ 1 (pcs [e]) rfl HSRC.out ?qa ?qb ?qc ?_)
          case qa => unfold maxLen; omega
          case qb => omega
          case qc => exact hsz2
          intro v2 w2 hown2 hgrow2 hv2
          have hb2 : Below W.heap.size W w2 := HA2.out.grown hgrow2 hsz2 (fun k e => (HO3.out.lt k e).1)
          rw [← HF2.out] at hown2
          obtain ⟨a2, c3, rfl⟩ := own_formp hown2
          have HO4 := Lib.hid hown2; have HB4 := Lib.hid hb2
          clear hown2 hgrow2 hv2 hb2
          go_wp2
          go_roundw
          case rel => exact ⟨j + 1, m + 1, a2, c3, by omega, by omega, by go_num, rfl, HO4.out, HB4.out⟩
          case measure => simp [ixOf]; omega
        case neg =>
          by_cases h3 : Tm.lt e.1 kt = true
          case pos =>
            have hv : fB k kt e = true := by simp [fB, h1, h2, h3]
            have hXS := (HC.out X e HX.out.1).1
            have hXT := (HC.out X e HX.out.1).2.1
            have hTE := (HC.out X e HX.out.1).2.2
            rw [show Tm.lt e.1 k = false by simpa using h1] at hXS
            rw [show kt.isEmpty = false by simpa using h2] at hTE
            rw [h3] at hXT
            clear h1 h2 h3
            have HF2 : Hid (pcs ((l.take (j + 1)).filter (fB k kt)) = pcs ((l.take j).filter (fB k kt)) ++ pcs [e]) := by
              show _ = _
              rw [HF1.out, show [e].filter (fB k kt) = [e] by simp [hv], pcs_append]
            obtain ⟨wr2, hw2⟩ : ∃ wr2, wr2 = (wr.alloc (.cells #[.string X, .int .i64 x] 50)).alloc (.cells #[.string X, .int .i64 x] 50) := ⟨_, rfl⟩
            have HA2 : Hid (Below W.heap.size W wr2) := by show Below _ _ _; rw [hw2, ← hw1]; exact HA.out.trans ((one_b8 _ _).mono HA.out.size)
            have HO3 : Hid (wr2.ownsRow W.heap.size 50 2 (.slice b m d) m (pcs ((l.take j).filter (fB k kt)))) := by show World.ownsRow _ _ _ _ _ _ _; rw [hw2, ← hw1]; exact HO1.out.alloc _
            have HSRC : Hid (Src Try.prog 2 25 (.slice (some ⟨wr.heap.size + 1, 0, none⟩) 1 1) 1 (pcs [e]) wr2) := by
              show Src _ _ _ _ _ _ _
              rw [hw2]
              exact lit_srcp _ X x e HX.out.1 HX.out.2 _ (by simp)
            have hsz2 : W.heap.size ≤ wr2.heap.size := HA2.out.size
            have HW2 := Lib.hid hw2
            clear hw1 hw2 HO HO1 HX HDR HJ HNL HB HF1 hv HC HA
            go_wp2_with (at_builtin; rw [← HW2.out]; refine wpList_append_src _ rfl (.tmp 30) (.tmp 32) 25 25 rfl W.heap.size 50 i0 _ 2 24 Try.underlying25 HI0.out HZ0.out HZ1.out HZ2.out rfl (.slice b m d) m (pcs ((l.take j).filter (fB k kt))) rfl HO3.out _ 1 (pcs [e]) rfl HSRC.out ?qa ?qb ?qc ?_)
            case qa => unfold maxLen; omega
            case qb => omega
            case qc => exact hsz2
            intro v2 w2 hown2 hgrow2 hv2
            have hb2 : Below W.heap.size W w2 := HA2.out.grown hgrow2 hsz2 (fun k e => (HO3.out.lt k e).1)
            rw [← HF2.out] at hown2
            obtain ⟨a2, c3, rfl⟩ := own_formp hown2
            have HO4 := Lib.hid hown2; have HB4 := Lib.hid hb2
            clear hown2 hgrow2 hv2 hb2
            go_wp2
            go_roundw
            case rel => exact ⟨j + 1, m + 1, a2, c3, by omega, by omega, by go_num, rfl, HO4.out, HB4.out⟩
            case measure => simp [ixOf]; omega
          case neg =>
            have hv : fB k kt e = false := by simp [fB, h1, h2, h3]
            have hXS := (HC.out X e HX.out.1).1
            have hXT := (HC.out X e HX.out.1).2.1
            have hTE := (HC.out X e HX.out.1).2.2
            rw [show Tm.lt e.1 k = false by simpa using h1] at hXS
            rw [show kt.isEmpty = false by simpa using h2] at hTE
            rw [show Tm.lt e.1 kt = false by simpa using h3] at hXT
            clear h1 h2 h3
            have HO2 : Hid (wr1.ownsRow W.heap.size 50 2 (.slice b m d) m (pcs ((l.take (j + 1)).filter (fB k kt)))) := by
              rw [HF1.out, show [e].filter (fB k kt) = [] by simp [hv], List.append_nil]; exact HO1.out
            have HW1 := Lib.hid hw1
            clear hw1 HO HO1 HX HDR HJ HNL HB HF1 hv HC
            go_wp2_with fail
            rw [← HW1.out]
            refine ⟨⟨j + 1, m, b, d, by omega, by omega, by go_num, rfl, HO2, HA⟩, ?_⟩
            simp [ixOf]; omega
    · have hje : j = n := by omega
      have hjI : ¬ (j : Int) < (n : Int) := by omega
      have HE : Hid (Ps ex (.slice b m d) (l.filter (fB k kt)) wr) := by
        have := HO.out
        rw [hje, HNL.out] at this
        exact Ps.of_own this HEX.out
      clear HO HJ HNL hje hlt
      go_wp2
      go_ret
      exact ⟨_, rfl, HE.out, HB.out⟩
set_option maxHeartbeats 1000000 in
set_option maxRecDepth 100000 in
theorem ref9_Prefix {ex : Nat → Prop} {l : List Tm.E} {k : Tm.K} {a : Option Addr} {n c : Nat} {W : World} (h : Ps ex (.slice a n c) l W) (hn : n ≤ 10000) (hkl : ∀ e ∈ l, e.1.length ≤ 1000) (hpl : k.length ≤ 1000) (hex : ∀ k, W.heap.size ≤ k → ¬ ex k) :
    Calls Try.prog 13 #[.slice a n c, .string (bstr k)] W fun e w' => ∃ v, e = .returned v ∧ Ps ex v (l.filter (okP k)) w' ∧ Below W.heap.size W w' := by
  obtain ⟨i0, hi0, hz0, hz1, hz2⟩ := info_of8 info2p
  have HI0 := Lib.hid hi0; have HZ0 := Lib.hid hz0; have HZ1 := Lib.hid hz1; have HZ2 := Lib.hid hz2
  clear hi0 hz0 hz1 hz2
  have hnl := h.len
  obtain ⟨S, hS⟩ : ∃ S, S = bstr k := ⟨_, rfl⟩
  have hSz : S.size ≤ 1000 := by rw [hS, bstr_size]; exact hpl
  have HC : Hid (∀ (X : ByteArray) (e : Tm.E), X = bstr e.1 → e ∈ l → X.size ≤ 1000 ∧ (S.size ≤ X.size → ((X.extract 0 S.size).toList == S.toList) = okP k e) ∧ (X.size < S.size → okP k e = false)) := fun X e h he => by
    have h1 : X.size = e.1.length := by rw [h]; exact bstr_size _
    have h2 : S.size = k.length := by rw [hS]; exact bstr_size _
    refine ⟨by rw [h1]; exact hkl e he, fun hz => ?_, fun hz => ?_⟩
    · rw [h2, h, hS, bstr_extract9, bstr_toList, bstr_toList, List.drop_zero, Nat.sub_zero]
      unfold okP
      rw [Bool.eq_iff_iff, beq_iff_eq, List.isPrefixOf_iff_prefix]
      constructor
      · intro h; rw [← h]; exact List.take_prefix _ _
      · rintro ⟨t, ht⟩; rw [← ht, List.take_left]
    · unfold okP
      cases hh : k.isPrefixOf e.1 with
      | false => rfl
      | true =>
        have := List.IsPrefix.length_le (List.isPrefixOf_iff_prefix.1 hh)
        omega
  rw [← hS]
  have HJ : Hid (∀ j, j < n → ∃ (g off : Nat) (X : ByteArray) (x : Int) (e : Tm.E), a = some ⟨g, off, none⟩ ∧ g < W.heap.size ∧ W.cell? ⟨g, off + j * 2, none⟩ = some (.string X) ∧ W.cell? ⟨g, off + j * 2 + 1, none⟩ = some (.int .i64 x) ∧ Hid (l.take (j + 1) = l.take j ++ [e]) ∧ Hid (X = bstr e.1 ∧ x = e.2 ∧ e ∈ l)) := fun j hj => by
    obtain ⟨g, off, e, -, hg, h1, h2⟩ := h.at j (by omega)
    exact ⟨g, off, _, _, l[j]'(by omega), e, hg, h1, h2, by show _ = _; rw [List.take_add_one, List.getElem?_eq_getElem (show j < l.length by omega)]; rfl, rfl, rfl, List.getElem_mem _⟩
  have HNL : Hid (l.take n = l) := List.take_of_length_le (by omega)
  have HEX := Lib.hid hex
  clear h hS hnl hex hkl hpl
  go_enter Try.func13, Try.ntmps13
  go_wp2
  go_loopw [5, 10] (fun v iv wr => ∃ (j m : Nat) (b : Option Addr) (d : Nat), j ≤ n ∧ m ≤ j ∧ iv = .int .i64 (j : Int) ∧ v = .slice b m d ∧ Hid (wr.ownsRow W.heap.size 50 2 (.slice b m d) m (pcs ((l.take j).filter (okP k)))) ∧ Hid (Below W.heap.size W wr)) (fun _ iv _ => n - (ixOf iv).toNat)
  case atStart => exact ⟨0, 0, none, 0, Nat.zero_le _, Nat.le_refl _, rfl, rfl, World.ownsRow_nil _ _ _ _, Below.refl _ _⟩
  case round =>
    obtain ⟨j, m, b, d, hj, hm, rfl, rfl, HO, HB⟩ := hrel
    by_cases hlt : j < n
    · obtain ⟨g, off, X, x, e, rfl, hg, c0, c1, HDR, HX⟩ := HJ.out j hlt
      have hjI : (j : Int) < (n : Int) := by omega
      have w0 := (HB.out.cell (p := ⟨g, off + j * 2, none⟩) hg).trans c0
      have w1 := (HB.out.cell (p := ⟨g, off + j * 2 + 1, none⟩) hg).trans c1
      have hgr : g < wr.heap.size := by have := HB.out.size; omega
      have hml : e ∈ l := HX.out.2.2
      clear c0 c1
      obtain ⟨wr1, hw1⟩ : ∃ wr1, wr1 = wr.alloc (.cells #[.string X, .int .i64 x] 50) := ⟨_, rfl⟩
      have HA : Hid (Below W.heap.size W wr1) := by show Below _ _ _; rw [hw1]; exact HB.out.trans ((one_b8 _ _).mono HB.out.size)
      have HO1 : Hid (wr1.ownsRow W.heap.size 50 2 (.slice b m d) m (pcs ((l.take j).filter (okP k)))) := by show World.ownsRow _ _ _ _ _ _ _; rw [hw1]; exact HO.out.alloc _
      have HF1 : Hid ((l.take (j + 1)).filter (okP k) = (l.take j).filter (okP k) ++ [e].filter (okP k)) := by show _ = _; rw [HDR.out, List.filter_append]
      by_cases h1 : S.size ≤ X.size
      case pos =>
        by_cases h2 : okP k e = true
        case pos =>
          have hv : okP k e = true := h2
          have hMem : e ∈ l := hml
          obtain ⟨hX1, hX2, -⟩ := HC.out X e HX.out.1 hMem
          have hXS := hX2 h1
          rw [h2] at hXS
          have h1I : (S.size : Int) ≤ (X.size : Int) := by omega
          clear h2 hX2 hMem hml
          have HF2 : Hid (pcs ((l.take (j + 1)).filter (okP k)) = pcs ((l.take j).filter (okP k)) ++ pcs [e]) := by
            show _ = _
            rw [HF1.out, show [e].filter (okP k) = [e] by simp [hv], pcs_append]
          obtain ⟨wr2, hw2⟩ : ∃ wr2, wr2 = (wr.alloc (.cells #[.string X, .int .i64 x] 50)).alloc (.cells #[.string X, .int .i64 x] 50) := ⟨_, rfl⟩
          have HA2 : Hid (Below W.heap.size W wr2) := by show Below _ _ _; rw [hw2, ← hw1]; exact HA.out.trans ((one_b8 _ _).mono HA.out.size)
          have HO3 : Hid (wr2.ownsRow W.heap.size 50 2 (.slice b m d) m (pcs ((l.take j).filter (okP k)))) := by show World.ownsRow _ _ _ _ _ _ _; rw [hw2, ← hw1]; exact HO1.out.alloc _
          have HSRC : Hid (Src Try.prog 2 25 (.slice (some ⟨wr.heap.size + 1, 0, none⟩) 1 1) 1 (pcs [e]) wr2) := by
            show Src _ _ _ _ _ _ _
            rw [hw2]
            exact lit_srcp _ X x e HX.out.1 HX.out.2.1 _ (by simp)
          have hsz2 : W.heap.size ≤ wr2.heap.size := HA2.out.size
          have HW2 := Lib.hid hw2
          clear hw1 hw2 HO HO1 HX HDR HJ HNL HB HF1 hv HC HA
          go_wp2_with (at_builtin; rw [← HW2.out]; refine wpList_append_src _ rfl (.tmp 29) (.tmp 31) 25 25 rfl W.heap.size 50 i0 _ 2 24 Try.underlying25 HI0.out HZ0.out HZ1.out HZ2.out rfl (.slice b m d) m (pcs ((l.take j).filter (okP k))) rfl HO3.out _ 1 (pcs [e]) rfl HSRC.out ?qa ?qb ?qc ?_)
          case qa => unfold maxLen; omega
          case qb => omega
          case qc => exact hsz2
          intro v2 w2 hown2 hgrow2 hv2
          have hb2 : Below W.heap.size W w2 := HA2.out.grown hgrow2 hsz2 (fun k e => (HO3.out.lt k e).1)
          rw [← HF2.out] at hown2
          obtain ⟨a2, c3, rfl⟩ := own_formp hown2
          have HO4 := Lib.hid hown2; have HB4 := Lib.hid hb2
          clear hown2 hgrow2 hv2 hb2
          go_wp2
          go_roundw
          case rel => exact ⟨j + 1, m + 1, a2, c3, by omega, by omega, by go_num, rfl, HO4.out, HB4.out⟩
          case measure => simp [ixOf]; omega
        case neg =>
          have hv : okP k e = false := by simpa using h2
          have hMem : e ∈ l := hml
          obtain ⟨hX1, hX2, -⟩ := HC.out X e HX.out.1 hMem
          have hXS := hX2 h1
          rw [hv] at hXS
          have h1I : (S.size : Int) ≤ (X.size : Int) := by omega
          clear h2 hX2 hMem hml
          have HO2 : Hid (wr1.ownsRow W.heap.size 50 2 (.slice b m d) m (pcs ((l.take (j + 1)).filter (okP k)))) := by
            rw [HF1.out, show [e].filter (okP k) = [] by simp [hv], List.append_nil]; exact HO1.out
          have HW1 := Lib.hid hw1
          clear hw1 HO HO1 HX HDR HJ HNL HB HF1 hv HC
          go_wp2_with fail
          rw [← HW1.out]
          refine ⟨⟨j + 1, m, b, d, by omega, by omega, by go_num, rfl, HO2, HA⟩, ?_⟩
          simp [ixOf]; omega
      case neg =>
        have hv : okP k e = false := (HC.out X e HX.out.1 hml).2.2 (by omega)
        obtain ⟨hX1, -, -⟩ := HC.out X e HX.out.1 hml
        have h1I : ¬ (S.size : Int) ≤ (X.size : Int) := by omega
        clear hml
        have HO2 : Hid (wr1.ownsRow W.heap.size 50 2 (.slice b m d) m (pcs ((l.take (j + 1)).filter (okP k)))) := by
          rw [HF1.out, show [e].filter (okP k) = [] by simp [hv], List.append_nil]; exact HO1.out
        have HW1 := Lib.hid hw1
        clear hw1 HO HO1 HX HDR HJ HNL HB HF1 hv HC
        go_wp2_with fail
        rw [← HW1.out]
        refine ⟨⟨j + 1, m, b, d, by omega, by omega, by go_num, rfl, HO2, HA⟩, ?_⟩
        simp [ixOf]; omega
    · have hje : j = n := by omega
      have hjI : ¬ (j : Int) < (n : Int) := by omega
      have HE : Hid (Ps ex (.slice b m d) (l.filter (okP k)) wr) := by
        have := HO.out
        rw [hje, HNL.out] at this
        exact Ps.of_own this HEX.out
      clear HO HJ HNL hje hlt
      go_wp2
      go_ret
      exact ⟨_, rfl, HE.out, HB.out⟩
end Go.Proofs.Ytdchapcpimhjaaa
/- Layer 9 in plain words: a part of an ordered list is what lies between. -/
namespace Go.Proofs.Ytdchapcpimhjaaa
open Go.RowKit

theorem while_filter9 {α : Type} {p q : α → Bool} : ∀ {l : List α}, l.Pairwise (fun a b => p a = true → q a = false → q b = false) → (l.filter p).takeWhile q = l.filter (fun e => p e && q e)
  | [], _ => rfl
  | a :: r, h => by
    obtain ⟨h1, h2⟩ := List.pairwise_cons.1 h
    rw [List.filter_cons, List.filter_cons]
    cases hp : p a with
    | false => simpa [hp] using while_filter9 h2
    | true =>
      cases hq : q a with
      | true => simpa [hp, hq] using while_filter9 h2
      | false =>
        simp only [if_true, Bool.and_false, Bool.false_eq_true, if_false]
        rw [List.takeWhile_cons, if_neg (by simp [hq])]
        refine (List.filter_eq_nil_iff.2 (fun e he => ?_)).symm
        rw [h1 e he hp hq]
        simp
theorem prefix_mid9 : ∀ {k a b : Tm.K}, Tm.lt a k = false → Tm.lt a b = true → k <+: b → k <+: a
  | [], _, _, _, _, _ => List.nil_prefix
  | c :: k, [], _, h, _, _ => by simp [Tm.lt, Op.bytesLess] at h
  | c :: k, d :: a, b, h, h2, h3 => by
    obtain ⟨t, rfl⟩ := h3
    simp only [List.cons_append, Tm.lt, Op.bytesLess, Bool.or_eq_true, decide_eq_true_eq, Bool.and_eq_true, beq_iff_eq, Bool.or_eq_false_iff, decide_eq_false_iff_not, Bool.and_eq_false_iff, beq_eq_false_iff_ne] at h h2
    rcases h2 with h2 | ⟨rfl, h2⟩
    · exact absurd h2 h.1
    · have h4 : Tm.lt a k = false := by
        rcases h.2 with h | h
        · exact absurd rfl h
        · exact h
      obtain ⟨u, hu⟩ := prefix_mid9 (b := k ++ t) h4 h2 (List.prefix_append _ _)
      exact ⟨u, by rw [List.cons_append, hu]⟩
theorem prefix_ge9 : ∀ {k a : Tm.K}, k <+: a → Tm.lt a k = false
  | [], a, _ => by cases a <;> simp [Tm.lt, Op.bytesLess]
  | c :: k, a, h => by
    obtain ⟨t, rfl⟩ := h
    have := prefix_ge9 (List.prefix_append k t)
    simp only [Tm.lt] at this
    simp [List.cons_append, Tm.lt, Op.bytesLess, this]
theorem between_eq9 {l : List Tm.E} {k kt : Tm.K} (h : Tm.Asc l) : (Tm.from_ l k).takeWhile (okB kt) = l.filter (fB k kt) := by
  unfold Tm.from_
  rw [while_filter9 (q := okB kt)]
  · rfl
  · refine List.Pairwise.imp (fun {a b} hab _ hq => ?_) h
    unfold okB at hq ⊢
    rw [Bool.or_eq_false_iff] at hq ⊢
    refine ⟨hq.1, ?_⟩
    cases hh : Tm.lt b.1 kt with
    | false => rfl
    | true => rw [Tm.lt_trans hab hh] at hq; exact absurd hq.2 (by simp)
theorem prefix_eq9 {l : List Tm.E} {k : Tm.K} (h : Tm.Asc l) : (Tm.from_ l k).takeWhile (okP k) = l.filter (okP k) := by
  unfold Tm.from_
  rw [while_filter9 (q := okP k)]
  · refine List.filter_congr (fun e _ => ?_)
    cases hh : okP k e with
    | false => simp
    | true => rw [prefix_ge9 (List.isPrefixOf_iff_prefix.1 hh)]; rfl
  · refine List.Pairwise.imp (fun {a b} hab hp hq => ?_) h
    cases hh : okP k b with
    | false => rfl
    | true =>
      have h1 : Tm.lt a.1 k = false := by simpa using hp
      have := prefix_mid9 h1 hab (List.isPrefixOf_iff_prefix.1 hh)
      have h2 : okP k a = true := List.isPrefixOf_iff_prefix.2 this
      rw [h2] at hq
      exact absurd hq (by simp)
theorem take_len9 {α : Type} {p : α → Bool} (l : List α) : (l.filter p).length ≤ l.length := List.length_filter_le _ _
end Go.Proofs.Ytdchapcpimhjaaa
