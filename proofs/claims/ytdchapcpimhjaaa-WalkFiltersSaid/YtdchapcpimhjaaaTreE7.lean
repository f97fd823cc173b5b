/- The reference of layer 8: Put. -/
import Derived.Test.YtdchapcpimhjaaaTreE6
namespace Go.Proofs.Ytdchapcpimhjaaa
open Go.RowKit

/-- how far a put has come: behind A, the first ones -/
def Pst (k : Tm.K) (v : Int) (A o : List Tm.E) (inn fr : Bool) : Prop :=
  (inn = false → o = A ∧ Tm.Lo A k ∧ fr = true) ∧ (inn = true → o = Tm.ins A k v ∧ (∃ p ∈ A, Tm.lt p.1 k = false) ∧ fr = !Tm.has A k)
theorem pst_eq {k : Tm.K} {v : Int} {A o : List Tm.E} {fr : Bool} {e : Tm.E} (h : Pst k v A o false fr) (he : e.1 = k) : Pst k v (A ++ [e]) (o ++ [(e.1, v)]) true false := by
  obtain ⟨rfl, hlo, rfl⟩ := h.1 rfl
  refine ⟨fun h => (by cases h), fun _ => ⟨?_, ⟨e, by simp, by rw [he, Tm.lt_irrefl]⟩, ?_⟩⟩
  · rw [Tm.ins_lo hlo]
    congr 1
    unfold Tm.ins
    rw [if_pos he, he]
  · rw [Tm.has_app]; simp [Tm.has, he]
theorem pst_lt {k : Tm.K} {v : Int} {A o : List Tm.E} {fr : Bool} {e : Tm.E} (h : Pst k v A o false fr) (he : e.1 ≠ k) (hl : Tm.lt k e.1 = true) : Pst k v (A ++ [e]) (o ++ [(k, v)] ++ [e]) true fr := by
  obtain ⟨rfl, hlo, rfl⟩ := h.1 rfl
  have hn : Tm.lt e.1 k = false := by
    cases h2 : Tm.lt e.1 k with
    | true => have := Tm.lt_trans hl h2; rw [Tm.lt_irrefl] at this; cases this
    | false => rfl
  refine ⟨fun h => (by cases h), fun _ => ⟨?_, ⟨e, by simp, hn⟩, ?_⟩⟩
  · rw [Tm.ins_lo hlo, List.append_assoc]
    congr 1
    unfold Tm.ins
    rw [if_neg he, if_pos hl]; rfl
  · rw [Tm.has_app, Tm.has_lo hlo]; simp [Tm.has, he]
theorem pst_gt {k : Tm.K} {v : Int} {A o : List Tm.E} {fr : Bool} {e : Tm.E} (h : Pst k v A o false fr) (he : e.1 ≠ k) (hl : Tm.lt k e.1 = false) : Pst k v (A ++ [e]) (o ++ [e]) false fr := by
  obtain ⟨rfl, hlo, rfl⟩ := h.1 rfl
  refine ⟨fun _ => ⟨rfl, fun p hp => ?_, rfl⟩, fun h => (by cases h)⟩
  rcases List.mem_append.1 hp with hp | hp
  · exact hlo p hp
  · rw [List.mem_singleton.1 hp]; exact Tm.lt_of_not hl (fun e2 => he e2.symm)
theorem pst_in {k : Tm.K} {v : Int} {A o : List Tm.E} {fr : Bool} {e : Tm.E} (h : Pst k v A o true fr) (ha : Tm.Asc (A ++ [e])) : e.1 ≠ k ∧ Pst k v (A ++ [e]) (o ++ [e]) true fr := by
  obtain ⟨rfl, ⟨p, hp, hpk⟩, rfl⟩ := h.2 rfl
  have h3 := (Tm.asc_app ha).2.2 p hp e (by simp)
  have hke : Tm.lt k e.1 = true := Tm.le_lt hpk h3
  have hne : e.1 ≠ k := fun e2 => by rw [e2, Tm.lt_irrefl] at hke; cases hke
  refine ⟨hne, fun h => (by cases h), fun _ => ⟨?_, ⟨p, List.mem_append_left _ hp, hpk⟩, ?_⟩⟩
  · have := Tm.ins_mid (A := []) (M := A) (C := [e]) (k := k) (v := v) (fun p hp => by cases hp) (fun p hp => by rw [List.mem_singleton.1 hp]; exact hke)
    simpa using this.symm
  · rw [Tm.has_app]; simp [Tm.has, hne]
theorem pst_end {k : Tm.K} {v : Int} {A o : List Tm.E} {inn fr : Bool} (h : Pst k v A o inn fr) : fr = !Tm.has A k ∧ Tm.ins A k v = if inn = true then o else o ++ [(k, v)] := by
  cases inn with
  | false =>
    obtain ⟨rfl, hlo, rfl⟩ := h.1 rfl
    refine ⟨by rw [Tm.has_lo hlo]; rfl, ?_⟩
    have := Tm.ins_lo (M := []) (v := v) hlo
    rw [List.append_nil] at this
    rw [this]; rfl
  | true =>
    obtain ⟨rfl, _, rfl⟩ := h.2 rfl
    exact ⟨rfl, rfl⟩
theorem al2' (w : World) (A B : Obj) : ((w.alloc A).alloc B).heap[w.heap.size]? = some A := by
  have := heap_alloc_new w A
  have hl : w.heap.size < (w.alloc A).heap.size := by simp
  rw [← this]
  exact ((one_b8 (w.alloc A) B).block _ hl)
theorem own_form_at {w : World} {B : Nat} {e : TypeId} {sz : Nat} {a : Option Addr} {n m c : Nat} {xs : List Value} (h : w.ownsRow B e sz (.slice a m c) n xs) : m = n := by
  obtain ⟨_, h2⟩ := h
  rcases h2 with ⟨e, e2⟩ | ⟨g, cap, cur, e, _⟩
  · injection e with _ e1 _; omega
  · injection e
set_option maxHeartbeats 2000000 in
set_option maxRecDepth 100000 in
theorem ref8_put {ex : Nat → Prop} {l : List Tm.E} {k : Tm.K} {v : Int} {a : Option Addr} {n c : Nat} {W : World} (h : Ps ex (.slice a n c) l W) (ha : Tm.Asc l) (hn : n ≤ 10000) (hex : ∀ k, W.heap.size ≤ k → ¬ ex k) :
    Calls Try.prog 36 #[.slice a n c, .string (bstr k), .int .i64 v] W fun e w' => ∃ r, e = .returned (.tuple #[r, .bool (!Tm.has l k)]) ∧ Ps ex r (Tm.ins l k v) w' ∧ Below W.heap.size W w' := by
  obtain ⟨i0, hi0, hz0, hz1, hz2⟩ := info_of8 info2p
  have HI0 := Lib.hid hi0; have HZ0 := Lib.hid hz0; have HZ1 := Lib.hid hz1; have HZ2 := Lib.hid hz2
  clear hi0 hz0 hz1 hz2
  have hnl := h.len
  obtain ⟨S, hS⟩ : ∃ S, S = bstr k := ⟨_, rfl⟩
  have HS := Lib.hid hS
  rw [← hS]
  have HJ : Hid (∀ j, j < n → ∃ (g off : Nat) (X : ByteArray) (x : Int) (e : Tm.E), a = some ⟨g, off, none⟩ ∧ g < W.heap.size ∧ W.cell? ⟨g, off + j * 2, none⟩ = some (.string X) ∧ W.cell? ⟨g, off + j * 2 + 1, none⟩ = some (.int .i64 x) ∧ Hid (l.take (j + 1) = l.take j ++ [e]) ∧ Hid (X = bstr e.1 ∧ x = e.2)) := fun j hj => by
    obtain ⟨g, off, e, -, hg, h1, h2⟩ := h.at j (by omega)
    exact ⟨g, off, _, _, l[j]'(by omega), e, hg, h1, h2, by show _ = _; rw [List.take_add_one, List.getElem?_eq_getElem (show j < l.length by omega)]; rfl, rfl, rfl⟩
  have HNL : Hid (l.take n = l) := List.take_of_length_le (by omega)
  have HASC : Hid (∀ j, Tm.Asc (l.take j)) := fun j => (List.Pairwise.sublist (List.take_sublist j l) ha)
  have HEX := Lib.hid hex
  obtain ⟨bb, hbb⟩ : ∃ bb, bb = !Tm.has l k := ⟨_, rfl⟩
  have HBB := Lib.hid hbb
  rw [← hbb]
  clear h hS hnl hex ha hbb
  go_enter Try.func36, Try.ntmps36
  go_wp2
  go_loopw [8, 9, 10, 15] (fun ov nv fv iv wr => ∃ (j m : Nat) (b : Option Addr) (d : Nat) (inn fr : Bool) (o : List Tm.E), j ≤ n ∧ m ≤ 2 * j ∧ iv = .int .i64 (j : Int) ∧ nv = .bool inn ∧ fv = .bool fr ∧ ov = .slice b m d ∧ Hid (Pst k v (l.take j) o inn fr) ∧ Hid (wr.ownsRow W.heap.size 50 2 (.slice b m d) m (pcs o)) ∧ Hid (Below W.heap.size W wr)) (fun _ _ _ iv _ => n - (ixOf iv).toNat)
  case atStart => exact ⟨0, 0, none, 0, false, true, [], Nat.zero_le _, Nat.le_refl _, rfl, rfl, rfl, rfl, ⟨fun _ => ⟨rfl, fun p hp => by simp at hp, rfl⟩, fun h => (by cases h)⟩, World.ownsRow_nil _ _ _ _, Below.refl _ _⟩
  case round =>
    obtain ⟨j, m, b, d, inn, fr, o, hj, hm, rfl, rfl, rfl, rfl, HPS, HO, HB⟩ := hrel
    by_cases hlt : j < n
    · obtain ⟨g, off, X, x, e, rfl, hg, c0, c1, HDR, HX⟩ := HJ.out j hlt
      have hjI : (j : Int) < (n : Int) := by omega
      have w0 := (HB.out.cell (p := ⟨g, off + j * 2, none⟩) hg).trans c0
      have w1 := (HB.out.cell (p := ⟨g, off + j * 2 + 1, none⟩) hg).trans c1
      have hgr : g < wr.heap.size := by have := HB.out.size; omega
      have hws : W.heap.size ≤ wr.heap.size := HB.out.size
      have hXS : (X.toList == S.toList) = decide (e.1 = k) := by rw [HX.out.1, HS.out, bstr_eq_iff]
      have hSX : Op.bytesLess S.toList X.toList = Tm.lt k e.1 := by rw [HX.out.1, HS.out, bstr_lt8]
      have HPS2 := Lib.hid (HPS.out)
      clear c0 c1
      -- an element is put behind what there is, from a block of its own
      have HAPP : Hid (∀ (ob : Obj) (Y : ByteArray) (y : Int) (q : Tm.E), (Y = bstr q.1 ∧ y = q.2) → Hid (((wr.alloc ob).alloc (.cells #[.string Y, .int .i64 y] 50)).ownsRow W.heap.size 50 2 (.slice b m d) m (pcs o)) ∧ Hid (Src Try.prog 2 25 (.slice (some ⟨wr.heap.size + 1, 0, none⟩) 1 1) 1 (pcs [q]) ((wr.alloc ob).alloc (.cells #[.string Y, .int .i64 y] 50))) ∧ Hid (Below W.heap.size W ((wr.alloc ob).alloc (.cells #[.string Y, .int .i64 y] 50)))) := fun ob Y y q hq =>
        ⟨(HO.out.alloc _).alloc _, lit_srcp _ Y y q hq.1 hq.2 _ (by simp), (HB.out.trans ((one_b8 wr ob).mono HB.out.size)).trans ((one_b8 _ _).mono (by simp; omega))⟩
      by_cases he : e.1 = k
      · rw [decide_eq_true he] at hXS
        cases inn with
        | true => exact ((pst_in HPS.out (by rw [← HDR.out]; exact HASC.out (j + 1))).1 he).elim
        | false =>
          have HP := Lib.hid (pst_eq HPS.out he)
          rw [← HDR.out] at HP
          obtain ⟨HO3, HSRC, HA2⟩ := HAPP.out (.cells #[.string X, .int .i64 v] 50) X v (e.1, v) ⟨HX.out.1, rfl⟩
          clear HPS HPS2 HO HX HDR HJ HNL HB he HAPP HASC
          go_wp2_with (at_builtin; refine wpList_append_src _ rfl (.tmp 39) (.tmp 41) 25 25 rfl W.heap.size 50 i0 _ 2 24 Try.underlying25 HI0.out HZ0.out HZ1.out HZ2.out rfl (.slice b m d) (m) (pcs o) rfl HO3.out _ 1 (pcs [(e.1, v)]) rfl HSRC.out ?qa ?qb ?qc ?_)
          case qa => unfold maxLen; omega
          case qb => omega
          case qc => exact HA2.out.size
          intro v5 w5 hown5 hgrow5 hv5
          have hb5 := HA2.out.grown hgrow5 HA2.out.size (fun k e => (HO3.out.lt k e).1)
          rw [← pcs_append] at hown5
          obtain ⟨a5, c5, rfl⟩ := own_formp hown5
          have HO5 := Lib.hid hown5; have HB5 := Lib.hid hb5
          clear hown5 hgrow5 hv5 hb5
          go_wp2
          go_roundw
          case rel => exact ⟨j + 1, _, a5, c5, true, false, _, by omega, by omega, by go_num, rfl, rfl, rfl, HP, HO5.out, HB5.out⟩
          case measure => simp [ixOf]; omega
      · rw [decide_eq_false he] at hXS
        cases inn with
        | true =>
          have HP := Lib.hid (pst_in HPS.out (by rw [← HDR.out]; exact HASC.out (j + 1))).2
          rw [← HDR.out] at HP
          obtain ⟨HO3, HSRC, HA2⟩ := HAPP.out (.cells #[.string X, .int .i64 x] 50) X x e HX.out
          clear HPS HPS2 HO HX HDR HJ HNL HB he HAPP HASC hSX
          go_wp2_with (at_builtin; refine wpList_append_src _ rfl (.tmp 39) (.tmp 41) 25 25 rfl W.heap.size 50 i0 _ 2 24 Try.underlying25 HI0.out HZ0.out HZ1.out HZ2.out rfl (.slice b m d) (m) (pcs o) rfl HO3.out _ 1 (pcs [e]) rfl HSRC.out ?qa ?qb ?qc ?_)
          case qa => unfold maxLen; omega
          case qb => omega
          case qc => exact HA2.out.size
          intro v5 w5 hown5 hgrow5 hv5
          have hb5 := HA2.out.grown hgrow5 HA2.out.size (fun k e => (HO3.out.lt k e).1)
          rw [← pcs_append] at hown5
          obtain ⟨a5, c5, rfl⟩ := own_formp hown5
          have HO5 := Lib.hid hown5; have HB5 := Lib.hid hb5
          clear hown5 hgrow5 hv5 hb5
          go_wp2
          go_roundw
          case rel => exact ⟨j + 1, _, a5, c5, true, fr, _, by omega, by omega, by go_num, rfl, rfl, rfl, HP, HO5.out, HB5.out⟩
          case measure => simp [ixOf]; omega
        | false =>
          by_cases hl : Tm.lt k e.1 = true
          · rw [hl] at hSX
            have HP := Lib.hid (pst_lt HPS.out he hl)
            rw [← HDR.out] at HP
            obtain ⟨HO3, HSRC, HA2⟩ := HAPP.out (.cells #[.string X, .int .i64 x] 50) S v (k, v) ⟨HS.out, rfl⟩
            have HOL := Lib.hid HO.out.lt
            clear HPS HPS2 HDR HJ HNL HB he HAPP HASC HO hl
            go_wp2_with (at_builtin; refine wpList_append_src _ rfl (.tmp 33) (.tmp 37) 25 25 rfl W.heap.size 50 i0 _ 2 24 Try.underlying25 HI0.out HZ0.out HZ1.out HZ2.out rfl (.slice b m d) (m) (pcs o) rfl HO3.out _ 1 (pcs [(k, v)]) rfl HSRC.out ?qa ?qb ?qc ?_)
            case qa => unfold maxLen; omega
            case qb => omega
            case qc => exact HA2.out.size
            intro v4 w4 hown4 hgrow4 hv4
            have hb4 := HA2.out.grown hgrow4 HA2.out.size (fun k e => (HO3.out.lt k e).1)
            have hrow : some wr.heap.size ≠ (Value.slice b m d).ownBlock := fun e => by have := (HOL.out _ e.symm).2; omega
            have d0 : w4.cell? ⟨wr.heap.size, 0, none⟩ = some (.string X) := by
              rw [hgrow4.cell_far ⟨wr.heap.size, 0, none⟩ (by simp; omega) hrow, Lib.cell_of_heap (al2' wr _ _)]; rfl
            have d1 : w4.cell? ⟨wr.heap.size, 1, none⟩ = some (.int .i64 x) := by
              rw [hgrow4.cell_far ⟨wr.heap.size, 1, none⟩ (by simp; omega) hrow, Lib.cell_of_heap (al2' wr _ _)]; rfl
            rw [← pcs_append] at hown4
            obtain ⟨a4, c4, rfl⟩ := own_formp hown4
            have HO4 : Hid ((w4.alloc (.cells #[.string X, .int .i64 x] 50)).ownsRow W.heap.size 50 2 (.slice a4 (m + 1) c4) (m + 1) (pcs (o ++ [(k, v)]))) := hown4.alloc _
            have HSRC4 : Hid (Src Try.prog 2 25 (.slice (some ⟨w4.heap.size, 0, none⟩) 1 1) 1 (pcs [e]) (w4.alloc (.cells #[.string X, .int .i64 x] 50))) := lit_srcp w4 X x e HX.out.1 HX.out.2 _ rfl
            have HA4 : Hid (Below W.heap.size W (w4.alloc (.cells #[.string X, .int .i64 x] 50))) := hb4.trans ((one_b8 w4 _).mono hb4.size)
            clear hown4 hgrow4 hv4 hb4 hrow HO3 HSRC HA2 HX HOL
            go_wp2_with (at_builtin; refine wpList_append_src _ rfl (.tmp 39) (.tmp 41) 25 25 rfl W.heap.size 50 i0 _ 2 24 Try.underlying25 HI0.out HZ0.out HZ1.out HZ2.out rfl (.slice a4 (m + 1) c4) ((m + 1)) (pcs (o ++ [(k, v)])) rfl HO4.out _ 1 (pcs [e]) rfl HSRC4.out ?qa ?qb ?qc ?_)
            case qa => unfold maxLen; omega
            case qb => omega
            case qc => exact HA4.out.size
            intro v5 w5 hown5 hgrow5 hv5
            have hb5 := HA4.out.grown hgrow5 HA4.out.size (fun k e => (HO4.out.lt k e).1)
            rw [← pcs_append] at hown5
            obtain ⟨a5, c5, rfl⟩ := own_formp hown5
            have HO5 := Lib.hid hown5; have HB5 := Lib.hid hb5
            clear hown5 hgrow5 hv5 hb5
            go_wp2
            go_roundw
            case rel => exact ⟨j + 1, _, a5, c5, true, fr, _, by omega, by omega, by go_num, rfl, rfl, rfl, HP, HO5.out, HB5.out⟩
            case measure => simp [ixOf]; omega
          · have hl0 : Tm.lt k e.1 = false := by simpa using hl
            rw [hl0] at hSX
            have HP := Lib.hid (pst_gt HPS.out he hl0)
            rw [← HDR.out] at HP
            obtain ⟨HO3, HSRC, HA2⟩ := HAPP.out (.cells #[.string X, .int .i64 x] 50) X x e HX.out
            clear HPS HPS2 HO HX HDR HJ HNL HB he HAPP HASC hl hl0
            go_wp2_with (at_builtin; refine wpList_append_src _ rfl (.tmp 39) (.tmp 41) 25 25 rfl W.heap.size 50 i0 _ 2 24 Try.underlying25 HI0.out HZ0.out HZ1.out HZ2.out rfl (.slice b m d) (m) (pcs o) rfl HO3.out _ 1 (pcs [e]) rfl HSRC.out ?qa ?qb ?qc ?_)
            case qa => unfold maxLen; omega
            case qb => omega
            case qc => exact HA2.out.size
            intro v5 w5 hown5 hgrow5 hv5
            have hb5 := HA2.out.grown hgrow5 HA2.out.size (fun k e => (HO3.out.lt k e).1)
            rw [← pcs_append] at hown5
            obtain ⟨a5, c5, rfl⟩ := own_formp hown5
            have HO5 := Lib.hid hown5; have HB5 := Lib.hid hb5
            clear hown5 hgrow5 hv5 hb5
            go_wp2
            go_roundw
            case rel => exact ⟨j + 1, _, a5, c5, false, fr, _, by omega, by omega, by go_num, rfl, rfl, rfl, HP, HO5.out, HB5.out⟩
            case measure => simp [ixOf]; omega
    · have hje : j = n := by omega
      have hjI : ¬ (j : Int) < (n : Int) := by omega
      have hpe := pst_end HPS.out
      rw [hje, HNL.out] at hpe
      obtain ⟨hp1, hp2⟩ := hpe
      have HFR : Hid (fr = bb) := by show _ = _; rw [hp1, HBB.out]
      cases inn with
      | true =>
        have HF : Hid (Ps ex (.slice b m d) (Tm.ins l k v) wr) := by
          show Ps _ _ _ _
          rw [hp2]; exact Ps.of_own HO.out HEX.out
        clear HO HJ HNL hje hlt hp1 hp2 HPS HASC
        go_wp2
        go_ret2
        exact ⟨.slice b m d, by have hf := HFR.out; subst hf; rfl, HF.out, HB.out⟩
      | false =>
        have HO3 : Hid ((wr.alloc (.cells #[.string S, .int .i64 v] 50)).ownsRow W.heap.size 50 2 (.slice b m d) m (pcs o)) := HO.out.alloc _
        have HSRC : Hid (Src Try.prog 2 25 (.slice (some ⟨wr.heap.size, 0, none⟩) 1 1) 1 (pcs [(k, v)]) (wr.alloc (.cells #[.string S, .int .i64 v] 50))) := lit_srcp wr S v (k, v) HS.out rfl _ rfl
        have HA2 : Hid (Below W.heap.size W (wr.alloc (.cells #[.string S, .int .i64 v] 50))) := HB.out.trans ((one_b8 wr _).mono HB.out.size)
        have HIN : Hid (Tm.ins l k v = o ++ [(k, v)]) := hp2
        clear HO HJ HNL hje hlt hp1 hp2 HPS HASC HB
        go_wp2_with (at_builtin; refine wpList_append_src _ rfl (.tmp 46) (.tmp 50) 25 25 rfl W.heap.size 50 i0 _ 2 24 Try.underlying25 HI0.out HZ0.out HZ1.out HZ2.out rfl (.slice b m d) (m) (pcs o) rfl HO3.out _ 1 (pcs [(k, v)]) rfl HSRC.out ?qa ?qb ?qc ?_)
        case qa => unfold maxLen; omega
        case qb => omega
        case qc => (have := HA2.out.size; simpa using this)
        intro v5 w5 hown5 hgrow5 hv5
        have hb5 := HA2.out.grown hgrow5 HA2.out.size (fun k e => (HO3.out.lt k e).1)
        rw [← pcs_append, ← HIN.out] at hown5
        obtain ⟨a5, c5, rfl⟩ := own_formp hown5
        have HF : Hid (Ps ex (.slice a5 (m + 1) c5) (Tm.ins l k v) w5) := Ps.of_own hown5 HEX.out
        have HB5 := Lib.hid hb5
        clear hown5 hgrow5 hv5 hb5
        go_wp2
        go_ret2
        exact ⟨.slice a5 (m + 1) c5, by have hf := HFR.out; subst hf; rfl, HF.out, HB5.out⟩
end Go.Proofs.Ytdchapcpimhjaaa
