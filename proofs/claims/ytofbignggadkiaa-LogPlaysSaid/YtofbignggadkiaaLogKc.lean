/- Package log: readBatches. -/
import Derived.Test.YtofbignggadkiaaLogKa
import Derived.Test.YtofbignggadkiaaLogKb
import Derived.Deep.RegionHeld3
namespace Go.Proofs.Ytofbignggadkiaa
open Go.RowKit

/-- a row of one slice -/
theorem run_rowB (a : Option Addr) (n c : Nat) (w : World) : (Instr.buildSlice 41 1 #[(0, .slice a n c)]).run Try.prog w = .ok (.slice (some ⟨w.heap.size, 0, none⟩) 1 1) (w.alloc (.cells #[.slice a n c] 39)) := by
  obtain ⟨i0, hi0, hz0, hz1, _⟩ := info_parts info39k
  have hr : Array.range 1 = #[0] := rfl
  simp [Instr.buildSlice, run_underlying Try.underlying41, sizeOf, typeInfo, zeroValue, hi0, hz0, hz1, Instr.fill, newRow, hr, Value.cells]
theorem set4_heap {w : World} {p : Nat} {x0 x1 x2 x3 : Value} {t : TypeId} (h : w.heap[p]? = some (.cells #[x0, x1, x2, x3] t (0, 0))) (y0 y1 y2 y3 : Value) :
    ((((w.setCell ⟨p, 0, none⟩ y0).setCell ⟨p, 1, none⟩ y1).setCell ⟨p, 2, none⟩ y2).setCell ⟨p, 3, none⟩ y3).heap[p]? = some (.cells #[y0, y1, y2, y3] t (0, 0)) := by
  rw [heap_setCell_same _ _ _ _ _ _ (heap_setCell_same _ _ _ _ _ _ (heap_setCell_same _ _ _ _ _ _ (heap_setCell_same _ _ _ _ _ _ h)))]
  rfl
theorem own_lt {w : World} {B n : Nat} {e : TypeId} {v : Value} {xs : List Value} (h : w.ownsRow B e 1 v n xs) {k : Nat} (hk : v.ownBlock = some k) : B ≤ k ∧ k < w.heap.size := by
  obtain ⟨_, ⟨rfl, _⟩ | ⟨b, cap, cur, rfl, hB, hg, _⟩⟩ := h
  · cases hk
  · injection hk with hk; subst hk; exact ⟨hB, heap_lt hg⟩
theorem own_keep' {w w' : World} {B n : Nat} {e : TypeId} {v : Value} {xs : List Value} {p : Nat → Prop} (h : w.ownsRow B e 1 v n xs) (ho : Only p w w') (hp : ∀ x, v.ownBlock = some x → ¬ p x) : w'.ownsRow B e 1 v n xs := by
  obtain ⟨h1, h2⟩ := h
  refine ⟨h1, ?_⟩
  rcases h2 with h2 | ⟨b, cap, cur, rfl, hB, hg, rest⟩
  · exact .inl h2
  · exact .inr ⟨b, cap, cur, rfl, hB, by rw [ho.block b (heap_lt hg) (hp b rfl)]; exact hg, rest⟩
theorem only_set4 (w : World) (p : Nat) (y0 y1 y2 y3 : Value) : Only (fun k => k = p) w ((((w.setCell ⟨p, 0, none⟩ y0).setCell ⟨p, 1, none⟩ y1).setCell ⟨p, 2, none⟩ y2).setCell ⟨p, 3, none⟩ y3) :=
  (((only_cell _ _ _ _).trans (only_cell _ _ _ _)).trans (only_cell _ _ _ _)).trans (only_cell _ _ _ _)
namespace Lm
theorem scan_none {hep k ahead at_ : Nat} {s : List UInt8} {r : List (List UInt8)} {ins : Bool} {bt : List UInt8} {l : List (List UInt8)} (h : fr s k = none) : scan hep (s :: r) k ahead ins bt l at_ = (l, at_) := by
  rw [scan, h]
theorem scan_bad {hep k ahead at_ ep : Nat} {s : List UInt8} {r : List (List UInt8)} {ins last : Bool} {bt body : List UInt8} {l : List (List UInt8)} (h : fr s k = some (ep, last, body)) (hb : ep < 1 ∨ ep < ahead ∨ hep < ep ∨ (ins = true ∧ ep ≠ ahead)) : scan hep (s :: r) k ahead ins bt l at_ = (l, at_) := by
  rw [scan, h]; exact if_pos hb
theorem scan_last {hep k ahead at_ ep : Nat} {s : List UInt8} {r : List (List UInt8)} {ins : Bool} {bt body : List UInt8} {l : List (List UInt8)} (h : fr s k = some (ep, true, body)) (hb : ¬ (ep < 1 ∨ ep < ahead ∨ hep < ep ∨ (ins = true ∧ ep ≠ ahead))) : scan hep (s :: r) k ahead ins bt l at_ = scan hep r (k + 1) ep false [] (l ++ [bt ++ body]) (k + 1) := by
  rw [scan, h]; exact (if_neg hb).trans (if_pos rfl)
theorem scan_more {hep k ahead at_ ep : Nat} {s : List UInt8} {r : List (List UInt8)} {ins : Bool} {bt body : List UInt8} {l : List (List UInt8)} (h : fr s k = some (ep, false, body)) (hb : ¬ (ep < 1 ∨ ep < ahead ∨ hep < ep ∨ (ins = true ∧ ep ≠ ahead))) : scan hep (s :: r) k ahead ins bt l at_ = scan hep r (k + 1) ep true (bt ++ body) l at_ := by
  rw [scan, h]; exact (if_neg hb).trans (if_neg (by decide))
theorem fr_le {s : List UInt8} {k ep : Nat} {last : Bool} {body : List UInt8} (h : fr s k = some (ep, last, body)) : body.length ≤ 46 ∧ ep ≤ 4294967295 := by
  unfold fr at h
  split at h
  · cases h
  · rename_i hn
    injection h with h
    injection h with h1 h2
    injection h2 with h2 h3
    refine ⟨?_, ?_⟩
    · rw [← h3, List.length_take]; omega
    · have : num (s.take 4) = (vl (s.take 4) : Int) := num4_vl _ (by simp; omega)
      have := vl4_lt (s.take 4) (by simp; omega)
      omega
end Lm
/-- the log while its batches are read: v holds the bytes of the batch so far, block pb the frame before -/
def Rb (gl g pb : Nat) (Y0 : Nat → Prop) (L : Lm.Lg) (W wr : World) (v : Value) (bt : List UInt8) (ah : Nat) (lst : Bool) : Prop :=
  ∃ ha hc ba bc vs Y kk ca cn cc, Lk gl g ha hc ba bc vs Y L wr ∧ wr.ownsRow W.heap.size 5 1 v bt.length (yc bt) ∧ (∀ x, v.ownBlock = some x → ¬ Gk gl ba Y x ∧ x ≠ pb) ∧ ¬ Gk gl ba Y pb ∧
    wr.heap[pb]? = some (.cells #[.int .i64 (ah : Int), .int .i64 kk, .bool lst, .slice ca cn cc] 99 (0, 0)) ∧ Only (fun k => k = gl) W wr ∧ (∀ x, ba = some x → W.heap.size ≤ x.block) ∧ (∀ k, Y k → Y0 k ∨ W.heap.size ≤ k)
/-- the log once its batches are read -/
def Re (gl g : Nat) (Y0 : Nat → Prop) (L : Lm.Lg) (W w' : World) : Prop :=
  ∃ ha hc ba bc vs Y, Lk gl g ha hc ba bc vs Y L w' ∧ Only (fun k => k = gl) W w' ∧ (∀ x, ba = some x → W.heap.size ≤ x.block) ∧ (∀ k, Y k → Y0 k ∨ W.heap.size ≤ k)
theorem Rb.re {gl g pb : Nat} {Y0 : Nat → Prop} {L : Lm.Lg} {W wr : World} {v : Value} {bt : List UInt8} {ah : Nat} {lst : Bool} (h : Rb gl g pb Y0 L W wr v bt ah lst) : Re gl g Y0 L W wr := by
  obtain ⟨ha, hc, ba, bc, vs, Y, kk, ca, cn, cc, h1, _, _, _, _, h6, h7, h8⟩ := h
  exact ⟨ha, hc, ba, bc, vs, Y, h1, h6, h7, h8⟩
theorem Re.below {gl g : Nat} {Y0 : Nat → Prop} {L : Lm.Lg} {W w w' : World} (h : Re gl g Y0 L W w) (hb : Below w.heap.size w w') : Re gl g Y0 L W w' := by
  obtain ⟨ha, hc, ba, bc, vs, Y, h1, h6, h7, h8⟩ := h
  exact ⟨ha, hc, ba, bc, vs, Y, h1.below hb, h6.trans' (only_of hb) (fun k hk => .inr (by have := h6.size; omega)), h7, h8⟩
set_option maxHeartbeats 1000000 in
set_option maxRecDepth 100000 in
theorem log_readBatches {gl g : Nat} {ha : Option Addr} {hc : Nat} {Y0 : Nat → Prop} {L : Lm.Lg} {d : Sm.Dv} {F : Nat → Prop} {W : World} (hl : Lk gl g ha hc none 0 [] Y0 { L with l := [], at_ := 0 } W) (hh : L.h = Lm.hd d) (hd : DevK g d F W) (hap : ¬ F gl) (hw : d.ws.length ≤ 500) (hk : L.frames + 2 ≤ d.kept.length) (hk2 : d.kept.length ≤ 200) (hleft : d.left ≠ 0) :
    Calls Try.prog 31 #[.pointer (some ⟨gl, 0, none⟩)] W fun e w' => e = .returned (.int .i64 0) ∧ Re gl g Y0 { L with l := (Lm.bats d L.frames).1, at_ := (Lm.bats d L.frames).2 } W w' := by
  have HD := Lib.hid hd; have HAP := Lib.hid hap
  obtain ⟨frs, hfrs⟩ : ∃ frs, frs = L.frames := ⟨_, rfl⟩
  obtain ⟨SS, hSS⟩ : ∃ SS, SS = (List.range frs).map fun k => Lm.cur d (2 + k) := ⟨_, rfl⟩
  obtain ⟨R, hR⟩ : ∃ R, R = Lm.bats d L.frames := ⟨_, rfl⟩
  obtain ⟨hep, hhep⟩ : ∃ hep, hep = (Lm.hd d).epoch := ⟨_, rfl⟩
  obtain ⟨hba, hhba⟩ : ∃ hba, hba = (Lm.hd d).base := ⟨_, rfl⟩
  have HSC : Hid (R = Lm.scan hep (SS.drop 0) 0 hba false [] [] 0) := by show _ = _; rw [hR, hSS, hhep, hhba, hfrs]; rfl
  have HSD : Hid (∀ k, k < frs → SS.drop k = Lm.cur d (2 + k) :: SS.drop (k + 1)) := fun k hk => by
    have hk' : k < SS.length := by rw [hSS]; simpa using hk
    rw [List.drop_eq_getElem_cons hk']; congr 1; simp [hSS]
  have HSE : Hid (SS.drop frs = []) := List.drop_eq_nil_of_le (by rw [hSS]; simp)
  rw [← hR]
  have c1 := hl.c1; have c4 := hl.c4
  have hgl := hl.lt gl (.inl rfl)
  replace c1 : W.cell? ⟨gl, 1, none⟩ = some (.int .i64 (frs : Int)) := by rw [hfrs]; exact c1
  replace c4 : W.cell? ⟨gl, 4, none⟩ = some (.int .i64 (hba : Int)) := by rw [hhba, ← hh]; exact c4
  obtain ⟨z, Z, hz, hZ, hZs⟩ : ∃ (z : Value) (Z : Array Value), (∀ w, (zeroValue 93).run Try.prog w = .ok z w) ∧ z.cells = Z ∧ Z.size = 64 := ⟨_, z64, (zero_of_info infoLz).1, rfl, Array.size_replicate⟩
  have HZ := Lib.hid hz; have HZ1 := Lib.hid hZ; have HZS := Lib.hid hZs
  have HL := Lib.hid hl; have HEP := Lib.hid (show hep = L.h.epoch by rw [hhep, hh]); have HFR := Lib.hid hfrs
  have hf2 : frs ≤ 198 := by omega
  have HCK : Hid (∀ k, k < frs → Sm.check d ((2 + k : Nat) : Int) 0 = 0) := fun k hk' => Sm.check_in (by omega) hleft
  clear hl hd hap hz hZ hZs hh hR hSS hhep hhba hfrs hk hk2 hleft
  go_enter Try.func31, Try.ntmps31
  go_wp2_with fail
  have HI : Hid (Rb gl g W.heap.size Y0 { L with l := [], at_ := 0 } W (W.alloc (.cells #[.int .i64 (hba : Int), .int .i64 0, .bool true, .slice none 0 0] 99)) (.slice none 0 0) [] hba true) :=
    ⟨ha, hc, none, 0, [], Y0, 0, none, 0, 0, HL.out.below (one_k W _), ⟨rfl, .inl ⟨rfl, rfl⟩⟩, fun x e => by (cases e), fun h => by have := HL.out.lt _ h; omega, heap_alloc_new W _, (only_of (one_k W _)).mono (fun k hk e => absurd hk (by omega)), fun x e => by (cases e), fun k h => .inl h⟩
  clear c1 c4 hgl
  go_loopw [4, 20] (fun v iv wr => ∃ (k : Nat) (bt : List UInt8) (l : List (List UInt8)) (at_ ah : Nat) (lst : Bool), k ≤ frs ∧ iv = .int .i64 (k : Int) ∧ Hid (Rb gl g W.heap.size Y0 { L with l := l, at_ := at_ } W wr v bt ah lst) ∧ Hid (R = Lm.scan hep (SS.drop k) k ah (!lst) bt l at_) ∧ Hid (bt.length ≤ 46 * k ∧ l.length ≤ k)) (fun _ iv _ => frs - (ixOf iv).toNat)
  case atStart => exact ⟨0, [], [], 0, hba, true, by omega, rfl, HI, HSC, ⟨by simp, by simp⟩⟩
  case round =>
    obtain ⟨k, bt, l, at_, ah, lst, hk, rfl, HRB, HSK, HLE⟩ := hrel
    clear HI HSC
    by_cases hlt : k < frs
    case neg =>
      have hke : k = frs := by omega
      have hkf : ¬ (k : Int) < (frs : Int) := by omega
      have HRE : Hid (Re gl g Y0 { L with l := R.1, at_ := R.2 } W wr) := by
        have h := HSK.out
        rw [hke, HSE.out] at h
        rw [h]; exact HRB.out.re
      clear hke HRB HSK
      go_wp2
      go_ret
      exact ⟨rfl, HRE.out⟩
    case pos =>
      have hkf : (k : Int) < (frs : Int) := by omega
      have hcu := HCK.out k hlt
      obtain ⟨S, hS⟩ : ∃ S, S = Lm.cur d (2 + k) := ⟨_, rfl⟩
      have hSl : S.length = 64 := by rw [hS, ← Sm.read_cur hcu]; exact (Sm.read_64 (secCon.ok HD.out) hcu).1
      have hdrop := HSD.out k hlt
      rw [← hS] at hdrop
      have hsk := HSK.out
      rw [hdrop] at hsk
      obtain ⟨ha1, hc1, ba1, bc1, vs1, Y1, kk, ca, cn, cc, hl1, hown1, hob1, hpb1, hpp1, ho1, hba1, hy1⟩ := HRB.out
      have c0 := hl1.c0
      have hgl1 := hl1.lt gl (.inl rfl)
      have HRD := Lib.hid (log_readOk ((2 + k : Nat) : Int) c0 hgl1 (secCon.keep HD.out ho1 (fun k hk e => HAP.out (e ▸ hk))) (by omega) hcu)
      rw [Sm.read_cur hcu, ← hS] at HRD
      have HFI : Hid (∀ w, Calls Try.prog 49 #[.agg (yc S).toArray, .int .i64 (k : Int)] w fun e w' => ∃ a m c, e = .returned (.tuple #[frK k (.slice a m c) (Lm.fr S k), .bool (Lm.fr S k).isSome]) ∧ Ytb w.heap.size a m c (frB (Lm.fr S k)) w' ∧ Below w.heap.size w w') := fun w => log_frameIn S k w hSl (by omega)
      obtain ⟨D, hD⟩ : ∃ D, D = (yc S).toArray := ⟨_, rfl⟩
      have hDs : D.size = 64 := by rw [hD, List.size_toArray, yc_length]; exact hSl
      have hD1 : D.all (·.oneCell') = true := by rw [hD]; exact yc_all _
      have HDE := Lib.hid hD; have HDS := Lib.hid hDs; have HD1 := Lib.hid hD1
      rw [← hD] at HRD HFI
      rw [show ((2 + k : Nat) : Int) = (2 : Int) + (k : Int) by omega] at HRD
      have HL1 := Lib.hid hl1; have HOWN1 := Lib.hid hown1; have HOB1 := Lib.hid hob1; have HPB1 := Lib.hid hpb1; have HPP1 := Lib.hid hpp1; have HO1 := Lib.hid ho1; have HBA1 := Lib.hid hba1; have HY1 := Lib.hid hy1
      have HSK1 := Lib.hid hsk
      clear hl1 hown1 hob1 hpb1 hpp1 ho1 hba1 hy1 hD hDs hD1 hcu hS HRB HSK hdrop hsk hSl
      go_wp2_with fail
      refine HRD.out.mono ?_
      rintro e w1 ⟨rfl, hb1⟩
      have HB1 := Lib.hid hb1
      clear hb1 c0 hgl1
      go_wp2_with (first
        | (with_reducible refine wpList_alloc_of ?_ 93 ?_ z Z ?_ ?_ ?_
           · rfl
           · rfl
           · exact HZ.out
           · exact HZ1.out)
        | (refine wpList_store_last ?_ 93 (.tmp 6) (.tmp 28) ?_ w1 Z D ?_ ?_ ?_ ?_ ?_ HD1.out ?_
           · rfl
           · rfl
           · rfl
           · rfl
           · rfl
           · rw [HDS.out]; exact infoL2
           · exact HZS.out.trans HDS.out.symm)
        | (with_reducible refine wpList_load_row ?_ 93 (.tmp 6) ?_ w1.heap.size ?_ 93 D (0, 0) (.array 64 5) (heap_alloc_new w1 _) Try.underlying93 rfl ?_ ?_
           · rfl
           · rfl
           · rfl
           · rw [HDS.out]; exact infoL2))
      have hsz1 : W.heap.size ≤ wr.heap.size := HO1.out.size
      refine (HFI.out _).mono ?_
      rintro e w3 ⟨a, m, c, rfl, hyt, hb3⟩
      have HB3 : Hid (Below wr.heap.size wr w3) := (HB1.out.alloc HB1.out.size _).trans (hb3.mono (by have := HB1.out.size; simp; omega))
      have hyt3 : m = (frB (Lm.fr S k)).length ∧ Yt (.slice a m c) (frB (Lm.fr S k)) w3 ∧ (0 < (frB (Lm.fr S k)).length → ∀ x, a = some x → wr.heap.size ≤ x.block ∧ x.block < w3.heap.size) :=
        ⟨hyt.1, hyt.2.1, fun h0 x e => by have := hyt.2.2 h0 x e; have := HB1.out.size; simp at *; omega⟩
      clear hb3 hyt HB1 HRD HFI HZ HZ1 HZS
      cases hfr : Lm.fr S k with
      | none =>
        have HRE : Hid (Re gl g Y0 { L with l := R.1, at_ := R.2 } W wr) := by
          rw [HSK1.out, Lm.scan_none hfr]; exact ⟨ha1, hc1, ba1, bc1, vs1, Y1, HL1.out, HO1.out, HBA1.out, HY1.out⟩
        have HRE3 := Lib.hid (HRE.out.below HB3.out)
        clear hyt3 HRE
        unfold frK
        go_upto_region 10 with (fail)
        go_quiet (fail)
        all_goals go_wp2
        all_goals go_ret
        all_goals exact ⟨rfl, (HRE3.out.below (one_k _ _)).below (below_drewN _ _)⟩
      | some y =>
        obtain ⟨ep, last, body⟩ := y
        rw [hfr] at hyt3
        obtain ⟨hm, hy3, hyb⟩ := hyt3
        replace hm : m = body.length := hm
        replace hy3 : Yt (.slice a m c) body w3 := hy3
        replace hyb : 0 < body.length → ∀ x, a = some x → wr.heap.size ≤ x.block ∧ x.block < w3.heap.size := hyb
        have hfl := Lm.fr_le hfr
        have HFR2 := Lib.hid hfr
        have hq3 : wr.heap.size ≤ w3.heap.size := HB3.out.size
        have HM := Lib.hid hm
        unfold frK
        clear hm hfr
        go_upto_region 10 with (fail)
        obtain ⟨q, hq⟩ : ∃ q, q = w3.heap.size := ⟨_, rfl⟩
        obtain ⟨W5, hW5⟩ : ∃ W5, W5 = w3.alloc (.cells #[.int .i64 (ep : Int), .int .i64 (k : Int), .bool last, .slice a m c] 99) := ⟨_, rfl⟩
        have HB5 : Hid (Below wr.heap.size wr W5) := by rw [hW5]; exact HB3.out.alloc HB3.out.size _
        have HQ5 : Hid (W5.heap[q]? = some (.cells #[.int .i64 (ep : Int), .int .i64 (k : Int), .bool last, .slice a m c] 99 (0, 0))) := by show _ = _; rw [hW5, hq, heap_alloc_new]
        have HY5 : Hid (Yt (.slice a m c) body W5) := by rw [hW5]; exact hy3.keep (one_k _ _)
        have HYB : Hid (0 < body.length → ∀ x, a = some x → wr.heap.size ≤ x.block ∧ x.block < q) := by rw [hq]; exact hyb
        have HQW : Hid (wr.heap.size ≤ q) := by rw [hq]; exact hq3
        have hpw := heap_lt HPP1.out
        have HPP5 : Hid (W5.heap[W.heap.size]? = some (.cells #[.int .i64 (ah : Int), .int .i64 kk, .bool lst, .slice ca cn cc] 99 (0, 0))) := by show _ = _; rw [HB5.out.block _ hpw]; exact HPP1.out
        have HL5 := Lib.hid (HL1.out.below HB5.out)
        rw [← hq, ← hW5]
        have f0 : W5.cell? ⟨q, 0, none⟩ = some (.int .i64 (ep : Int)) := by rw [Lib.cell_of_heap HQ5.out]; rfl
        have f1 : W5.cell? ⟨q, 1, none⟩ = some (.int .i64 (k : Int)) := by rw [Lib.cell_of_heap HQ5.out]; rfl
        have f2 : W5.cell? ⟨q, 2, none⟩ = some (.bool last) := by rw [Lib.cell_of_heap HQ5.out]; rfl
        have f3 : W5.cell? ⟨q, 3, none⟩ = some (.slice a m c) := by rw [Lib.cell_of_heap HQ5.out]; rfl
        have p0 : W5.cell? ⟨W.heap.size, 0, none⟩ = some (.int .i64 (ah : Int)) := by rw [Lib.cell_of_heap HPP5.out]; rfl
        have p1 : W5.cell? ⟨W.heap.size, 1, none⟩ = some (.int .i64 kk) := by rw [Lib.cell_of_heap HPP5.out]; rfl
        have p2 : W5.cell? ⟨W.heap.size, 2, none⟩ = some (.bool lst) := by rw [Lib.cell_of_heap HPP5.out]; rfl
        have p3 : W5.cell? ⟨W.heap.size, 3, none⟩ = some (.slice ca cn cc) := by rw [Lib.cell_of_heap HPP5.out]; rfl
        have e5 : W5.cell? ⟨gl, 3, none⟩ = some (.int .i64 (hep : Int)) := by rw [HEP.out]; exact HL5.out.c3
        have hgl5 := HL5.out.lt gl (.inl rfl)
        have hq5 := heap_lt HQ5.out
        have hp5 := heap_lt HPP5.out
        obtain ⟨fo, hfo⟩ : ∃ fo, fo = (!(!lst && decide ((ep : Int) ≠ (ah : Int))) && (decide ((1 : Int) ≤ (ep : Int)) && decide ((ah : Int) ≤ (ep : Int)) && decide ((ep : Int) ≤ (hep : Int)))) := ⟨_, rfl⟩
        have HFO : Hid (∀ w, Calls Try.prog 50 #[.agg #[.int .i64 (ep : Int), .int .i64 (k : Int), .bool last, .slice a m c], .agg #[.int .i64 (ah : Int), .int .i64 kk, .bool lst, .slice ca cn cc], .int .i64 (hep : Int)] w fun e w' => e = .returned (.bool fo) ∧ Below w.heap.size w w') := fun w => by
          rw [hfo]; exact log_follows _ _ _ _ _ _ _ _ _ rfl rfl w
        have HFB : Hid (fo = false → (ep < 1 ∨ ep < ah ∨ hep < ep ∨ ((!lst) = true ∧ ep ≠ ah))) := fun h => by
          rw [hfo] at h
          cases lst <;> simp at h ⊢ <;> omega
        have HFG : Hid (fo = true → ¬ (ep < 1 ∨ ep < ah ∨ hep < ep ∨ ((!lst) = true ∧ ep ≠ ah))) := fun h => by
          rw [hfo] at h
          cases lst <;> simp at h ⊢ <;> omega
        clear hq hW5 hq3 hy3 hyb hfo hpw HB3
        go_cut [51] (fun bv wx => bv = .bool (!fo) ∧ Hid (Below W5.heap.size W5 wx))
        case first =>
          have HKS : Hid (∀ w', Below W5.heap.size W5 w' → (w'.cell? ⟨q, 0, none⟩ = some (.int .i64 (ep : Int)) ∧ w'.cell? ⟨q, 1, none⟩ = some (.int .i64 (k : Int)) ∧ w'.cell? ⟨q, 2, none⟩ = some (.bool last) ∧ w'.cell? ⟨q, 3, none⟩ = some (.slice a m c) ∧
            w'.cell? ⟨W.heap.size, 0, none⟩ = some (.int .i64 (ah : Int)) ∧ w'.cell? ⟨W.heap.size, 1, none⟩ = some (.int .i64 kk) ∧ w'.cell? ⟨W.heap.size, 2, none⟩ = some (.bool lst) ∧ w'.cell? ⟨W.heap.size, 3, none⟩ = some (.slice ca cn cc) ∧ w'.cell? ⟨gl, 3, none⟩ = some (.int .i64 (hep : Int)) ∧ Hid (Below W5.heap.size W5 w'))) := fun w' hb =>
            ⟨(hb.cell (p := ⟨q, 0, none⟩) hq5).trans f0, (hb.cell (p := ⟨q, 1, none⟩) hq5).trans f1, (hb.cell (p := ⟨q, 2, none⟩) hq5).trans f2, (hb.cell (p := ⟨q, 3, none⟩) hq5).trans f3, (hb.cell (p := ⟨W.heap.size, 0, none⟩) hp5).trans p0, (hb.cell (p := ⟨W.heap.size, 1, none⟩) hp5).trans p1, (hb.cell (p := ⟨W.heap.size, 2, none⟩) hp5).trans p2, (hb.cell (p := ⟨W.heap.size, 3, none⟩) hp5).trans p3, (hb.cell (p := ⟨gl, 3, none⟩) hgl5).trans e5, hb⟩
          have S0 := Lib.hid (HKS.out W5.drew (below_drew0 _))
          have HSB : Hid (∀ w', (w'.cell? ⟨q, 0, none⟩ = some (.int .i64 (ep : Int)) ∧ w'.cell? ⟨q, 1, none⟩ = some (.int .i64 (k : Int)) ∧ w'.cell? ⟨q, 2, none⟩ = some (.bool last) ∧ w'.cell? ⟨q, 3, none⟩ = some (.slice a m c) ∧
            w'.cell? ⟨W.heap.size, 0, none⟩ = some (.int .i64 (ah : Int)) ∧ w'.cell? ⟨W.heap.size, 1, none⟩ = some (.int .i64 kk) ∧ w'.cell? ⟨W.heap.size, 2, none⟩ = some (.bool lst) ∧ w'.cell? ⟨W.heap.size, 3, none⟩ = some (.slice ca cn cc) ∧ w'.cell? ⟨gl, 3, none⟩ = some (.int .i64 (hep : Int)) ∧ Hid (Below W5.heap.size W5 w')) → Below W5.heap.size W5 w') := fun w' h => h.2.2.2.2.2.2.2.2.2
          clear f0 f1 f2 f3 p0 p1 p2 p3 e5
          go_region_held3 (fun w' => w'.cell? ⟨q, 0, none⟩ = some (.int .i64 (ep : Int)) ∧ w'.cell? ⟨q, 1, none⟩ = some (.int .i64 (k : Int)) ∧ w'.cell? ⟨q, 2, none⟩ = some (.bool last) ∧ w'.cell? ⟨q, 3, none⟩ = some (.slice a m c) ∧
            w'.cell? ⟨W.heap.size, 0, none⟩ = some (.int .i64 (ah : Int)) ∧ w'.cell? ⟨W.heap.size, 1, none⟩ = some (.int .i64 kk) ∧ w'.cell? ⟨W.heap.size, 2, none⟩ = some (.bool lst) ∧ w'.cell? ⟨W.heap.size, 3, none⟩ = some (.slice ca cn cc) ∧ w'.cell? ⟨gl, 3, none⟩ = some (.int .i64 (hep : Int)) ∧ Hid (Below W5.heap.size W5 w')) (first | exact S0.out | exact HKS.out _ ((HSB.out _ (by assumption)).trans (hb6.mono (HSB.out _ (by assumption)).size))) (first | (go_at_call 50; refine (HFO.out _).mono ?_; rintro e w6 ⟨rfl, hb6⟩))
          all_goals
            go_wp2
            go_meet
          all_goals exact ⟨rfl, HSB.out _ (by assumption)⟩
        case rest =>
          obtain ⟨rfl, HBX⟩ := hcut
          obtain ⟨W6, rfl⟩ : ∃ W6, W6 = wc := ⟨wc, rfl⟩
          have hB6 : Below wr.heap.size wr W6 := HB5.out.trans (HBX.out.mono HB5.out.size)
          have HL6 := Lib.hid (HL1.out.below hB6)
          have HO6 : Hid (Only (fun k => k = gl) W W6) := HO1.out.trans' (only_of hB6) (fun k hk => .inr (by omega))
          cases fo with
          | false =>
            have HRE : Hid (Re gl g Y0 { L with l := R.1, at_ := R.2 } W W6) := by
              rw [HSK1.out, Lm.scan_bad HFR2.out (HFB.out rfl)]; exact ⟨ha1, hc1, ba1, bc1, vs1, Y1, HL6.out, HO6.out, HBA1.out, HY1.out⟩
            go_wp2
            go_ret
            exact ⟨rfl, HRE.out⟩
          | true =>
            have hgd := HFG.out rfl
            have HGD := Lib.hid hgd
            have hown6 : W6.ownsRow W.heap.size 5 1 u4 bt.length (yc bt) := own_keep' HOWN1.out (only_of hB6) (fun x e => by have := own_lt HOWN1.out e; omega)
            have hq6 : W6.heap[q]? = some (.cells #[.int .i64 (ep : Int), .int .i64 (k : Int), .bool last, .slice a m c] 99 (0, 0)) := by rw [HBX.out.block _ hq5]; exact HQ5.out
            have hp6 : W6.heap[W.heap.size]? = some (.cells #[.int .i64 (ah : Int), .int .i64 kk, .bool lst, .slice ca cn cc] 99 (0, 0)) := by rw [HBX.out.block _ hp5]; exact HPP5.out
            have hy6 := HY5.out.keep HBX.out
            have hsrc := hy6.src
            rw [← HM.out] at hsrc
            obtain ⟨i0, hi0, hz0, hz1, hz2⟩ := info_parts info5k
            have f3 : W6.cell? ⟨q, 3, none⟩ = some (.slice a m c) := by rw [Lib.cell_of_heap hq6]; rfl
            have hq6l := heap_lt hq6
            have HOWN6 := Lib.hid hown6; have HQ6 := Lib.hid hq6; have HP6 := Lib.hid hp6; have HY6 := Lib.hid hy6; have HSRC := Lib.hid hsrc
            have hlen : bt.length + m ≤ 20000 := by have := HLE.out.1; have := HM.out; omega
            have HI0 := Lib.hid hi0; have HZ0 := Lib.hid hz0; have HZ1 := Lib.hid hz1; have HZ2 := Lib.hid hz2
            have hsz6 : W.heap.size ≤ W6.heap.size := HO6.out.size
            clear hown6 hq6 hp6 hy6 hsrc hi0 hz0 hz1 hz2 hB6 hgl5 hq5 hp5 hgd HFO HFB HFG
            go_wp2_with (at_builtin; refine wpList_append_src _ rfl _ _ 39 39 rfl W.heap.size 5 i0 (.int .u8 0) 1 1 Try.underlying39 HI0.out HZ0.out HZ1.out HZ2.out rfl u4 bt.length (yc bt) rfl HOWN6.out _ m (yc body) rfl HSRC.out ?ca ?cb ?cc ?_)
            case ca => unfold maxLen; omega
            case cb => omega
            case cc => exact hsz6
            intro v' w7 hown7 hgrow hv7
            rw [show yc bt ++ yc body = yc (bt ++ body) by simp [yc]] at hown7
            have hO7 : Only (fun x => u4.ownBlock = some x) W6 w7 := (Only.refl _ W6).grown hgrow (fun k e => .inl e)
            have HL7 := Lib.hid (HL6.out.keepO hO7 (fun k hk hp => (HOB1.out k hp).1 hk))
            have hqo : u4.ownBlock ≠ some q := fun e => by have := own_lt HOWN1.out e; have := HQW.out; omega
            have hpo : u4.ownBlock ≠ some W.heap.size := fun e => (HOB1.out _ e).2 rfl
            have hq7 : w7.heap[q]? = some (.cells #[.int .i64 (ep : Int), .int .i64 (k : Int), .bool last, .slice a m c] 99 (0, 0)) := by rw [hO7.block q hq6l hqo]; exact HQ6.out
            have hp7 : w7.heap[W.heap.size]? = some (.cells #[.int .i64 (ah : Int), .int .i64 kk, .bool lst, .slice ca cn cc] 99 (0, 0)) := by rw [hO7.block _ (heap_lt HP6.out) hpo]; exact HP6.out
            have hob7 : ∀ x, v'.ownBlock = some x → ¬ Gk gl ba1 Y1 x ∧ x ≠ W.heap.size ∧ x ≠ q := fun x e => by
              rcases hv7 with h | h
              · rw [h] at e
                exact ⟨(HOB1.out x e).1, (HOB1.out x e).2, fun e2 => hqo (e2 ▸ e)⟩
              · rw [h] at e
                injection e with e
                exact ⟨fun hk => by have := HL6.out.lt x hk; omega, by have := heap_lt HP6.out; omega, by omega⟩
            have HO7 : Hid (Only (fun k => k = gl) W w7) := HO6.out.trans' hO7 (fun k hk => .inr (own_lt HOWN1.out hk).1)
            obtain ⟨a2, c2, rfl, hY7⟩ := own_ytb hown7 (by rw [List.length_append, HM.out])
            have HOWN7 := Lib.hid hown7; have HYT7 := Lib.hid hY7; have HOB7 := Lib.hid hob7; have HQ7 := Lib.hid hq7; have HP7 := Lib.hid hp7
            have f0 : w7.cell? ⟨q, 0, none⟩ = some (.int .i64 (ep : Int)) := by rw [Lib.cell_of_heap hq7]; rfl
            have f1 : w7.cell? ⟨q, 1, none⟩ = some (.int .i64 (k : Int)) := by rw [Lib.cell_of_heap hq7]; rfl
            have f2 : w7.cell? ⟨q, 2, none⟩ = some (.bool last) := by rw [Lib.cell_of_heap hq7]; rfl
            have f3' : w7.cell? ⟨q, 3, none⟩ = some (.slice a m c) := by rw [Lib.cell_of_heap hq7]; rfl
            have hq7l := heap_lt hq7; have hp7l := heap_lt hp7
            have hqp : q ≠ W.heap.size := by have := HQW.out; have := heap_lt HPP1.out; omega
            have hglp : gl ≠ W.heap.size := by have := HL.out.lt gl (.inl rfl); omega
            have hqg : q ≠ gl := by have := HQW.out; have := HL.out.lt gl (.inl rfl); omega
            have HPG : Hid (∀ k, Gk gl ba1 Y1 k → k ≠ W.heap.size) := fun k hk e => HPB1.out (e ▸ hk)
            clear f3 hq6l hown7 hgrow hv7 hO7 hqo hpo hq7 hp7 hob7 hY7
            cases last with
            | false =>
              have p0 : w7.cell? ⟨W.heap.size, 0, none⟩ = some (.int .i64 (ah : Int)) := by rw [Lib.cell_of_heap HP7.out]; rfl
              have p1 : w7.cell? ⟨W.heap.size, 1, none⟩ = some (.int .i64 kk) := by rw [Lib.cell_of_heap HP7.out]; rfl
              have p2 : w7.cell? ⟨W.heap.size, 2, none⟩ = some (.bool lst) := by rw [Lib.cell_of_heap HP7.out]; rfl
              have p3 : w7.cell? ⟨W.heap.size, 3, none⟩ = some (.slice ca cn cc) := by rw [Lib.cell_of_heap HP7.out]; rfl
              have pf := fun o => Lib.frozen_of_heap HP7.out o
              go_wp2
              go_roundw
              case rel =>
                have ho4 := only_set4 w7 W.heap.size (.int .i64 (ep : Int)) (.int .i64 (k : Int)) (.bool false) (.slice a m c)
                refine ⟨k + 1, bt ++ body, l, at_, ep, false, by omega, by go_num, ⟨ha1, hc1, ba1, bc1, vs1, Y1, (k : Int), a, m, c, HL7.out.keepO ho4 (fun k hk e => HPG.out k hk e), ?_, fun x e => ⟨(HOB7.out x e).1, (HOB7.out x e).2.1⟩, HPB1.out, set4_heap HP7.out _ _ _ _, ?_, HBA1.out, HY1.out⟩, ?_, ?_⟩
                · rw [List.length_append, ← HM.out]; exact own_keep' HOWN7.out ho4 (fun x e e2 => (HOB7.out x e).2.1 e2)
                · exact HO7.out.trans' ho4 (fun k hk => .inr (by omega))
                · show _ = _; rw [HSK1.out, Lm.scan_more HFR2.out HGD.out]; rfl
                · rw [List.length_append]; have := HLE.out; exact ⟨by omega, by omega⟩
              case measure => simp [ixOf]; omega
            | true =>
              obtain ⟨N, hN⟩ : ∃ N, N = bt.length + m := ⟨_, rfl⟩
              rw [← hN] at HOWN7 HYT7 HOB7 ⊢
              have hNl : N = (bt ++ body).length := HYT7.out.1
              have HNL := Lib.hid hNl
              have hlk := HLE.out.2
              have hbs : ∀ W, (Instr.buildSlice 41 1 #[(0, .slice a2 N c2)]).run Try.prog W = .ok (.slice (some ⟨W.heap.size, 0, none⟩) 1 1) (W.alloc (.cells #[.slice a2 N c2] 39)) := fun W => run_rowB a2 N c2 W
              have HL8 := Lib.hid (HL7.out.below (one_k w7 (.cells #[.slice a2 N c2] 39)))
              have HSRC8 : Hid (Src Try.prog 1 41 (.slice (some ⟨w7.heap.size, 0, none⟩) 1 1) 1 [.slice a2 N c2] (w7.alloc (.cells #[.slice a2 N c2] 39))) := by
                refine Src.ofSlice _ Try.underlying41 ⟨w7.heap.size, 0, none⟩ 1 1 _ rfl (fun j u hj => ?_) (fun u hu => by rw [List.mem_singleton.1 hu]; rfl)
                rw [addr_add, Nat.zero_add, Lib.cell_of_heap (heap_alloc_new w7 _)]
                simpa using hj
              obtain ⟨j0, hj0, hy0, hy1, hy2⟩ := info_parts info39k
              have c6 := HL7.out.c6
              have hl6 : ({ L with l := l, at_ := at_ } : Lm.Lg).l.length = l.length := rfl
              rw [hl6] at c6
              have HJ0 := Lib.hid hj0; have HJ1 := Lib.hid hy0; have HJ2 := Lib.hid hy1; have HJ3 := Lib.hid hy2
              have hgl7 := HL7.out.lt gl (.inl rfl)
              clear hj0 hy0 hy1 hy2 hN hNl hl6
              go_wp2_with (at_builtin; refine wpList_append_src _ rfl _ _ 41 41 rfl 0 39 j0 (.slice none 0 0) 1 24 Try.underlying41 HJ0.out HJ1.out HJ2.out HJ3.out rfl (.slice ba1 l.length bc1) l.length vs1 rfl HL8.out.bo _ 1 [.slice a2 N c2] rfl HSRC8.out ?da ?db ?dc ?_)
              case da => unfold maxLen; omega
              case db => omega
              case dc => exact Nat.zero_le _
              intro v2 w9 hown9 hgrow9 hv9
              have hxa : 0 < (bt ++ body).length → ∀ x, a2 = some x → x.block < (w7.alloc (.cells #[.slice a2 N c2] 39)).heap.size ∧ x.block ≠ gl ∧ ∀ y, ba1 = some y → y.block ≠ x.block := fun h0 x e => by
                have hx := HOB7.out x.block (by rw [e]; rfl)
                have hx2 := (HYT7.out.2.2 h0 x e).2
                exact ⟨by simp; omega, fun e2 => hx.1 (.inl e2), fun y e2 e3 => hx.1 (.inr (.inl ⟨y, e2, e3⟩))⟩
              have hyt8 : Yt (.slice a2 (bt ++ body).length c2) (bt ++ body) (w7.alloc (.cells #[.slice a2 N c2] 39)) := by rw [← HNL.out]; exact HYT7.out.2.1.keep (one_k _ _)
              have hpush := HL8.out.push a2 c2 (bt ++ body) hyt8 hxa (v' := v2) (w1 := w9) (by rw [← HNL.out]; exact hown9) hgrow9 (by rw [World.size_alloc]; exact hv9)
              rw [← HNL.out] at hpush
              obtain ⟨ba2, bc2, rfl, hL9, hba2⟩ := hpush
              have hO9 : Only (fun k => ∃ x, ba1 = some x ∧ x.block = k) w7 w9 := ((Only.refl _ w7).alloc _).grown hgrow9 (fun k e => by
                cases ba1 with
                | none => cases e
                | some x => injection e with e; exact .inl ⟨x, rfl, e⟩)
              have hqn : ¬ ∃ x, ba1 = some x ∧ x.block = q := fun ⟨x, e1, e2⟩ => by have := HL1.out.lt q (.inr (.inl ⟨x, e1, e2⟩)); have := HQW.out; omega
              have hpn : ¬ ∃ x, ba1 = some x ∧ x.block = W.heap.size := fun h => HPB1.out (.inr (.inl h))
              have hgn : ¬ ∃ x, ba1 = some x ∧ x.block = gl := fun ⟨x, e1, e2⟩ => (HL1.out.yb x e1).1 e2
              have hq9 : w9.heap[q]? = some (.cells #[.int .i64 (ep : Int), .int .i64 (k : Int), .bool true, .slice a m c] 99 (0, 0)) := by rw [hO9.block q hq7l hqn]; exact HQ7.out
              have hp9 : w9.heap[W.heap.size]? = some (.cells #[.int .i64 (ah : Int), .int .i64 kk, .bool lst, .slice ca cn cc] 99 (0, 0)) := by rw [hO9.block _ hp7l hpn]; exact HP7.out
              have d6 : w9.cell? ⟨gl, 6, none⟩ = some (.slice ba1 l.length bc1) := (cell_only hO9 (q := ⟨gl, 6, none⟩) hgl7 hgn).trans c6
              have d7 : w9.cell? ⟨gl, 7, none⟩ = some (.int .i64 (at_ : Int)) := (cell_only hO9 (q := ⟨gl, 7, none⟩) hgl7 hgn).trans HL7.out.c7
              have gf : ∀ o, w9.frozen? ⟨gl, o, none⟩ = false := fun o => by
                rw [show w9.frozen? ⟨gl, o, none⟩ = w7.frozen? ⟨gl, o, none⟩ by simp [World.frozen?, hO9.block gl hgl7 hgn]]; exact HL7.out.fz o
              have f0 : w9.cell? ⟨q, 0, none⟩ = some (.int .i64 (ep : Int)) := by rw [Lib.cell_of_heap hq9]; rfl
              have f1 : w9.cell? ⟨q, 1, none⟩ = some (.int .i64 (k : Int)) := by rw [Lib.cell_of_heap hq9]; rfl
              have f2 : w9.cell? ⟨q, 2, none⟩ = some (.bool true) := by rw [Lib.cell_of_heap hq9]; rfl
              have f3 : w9.cell? ⟨q, 3, none⟩ = some (.slice a m c) := by rw [Lib.cell_of_heap hq9]; rfl
              have p0 : w9.cell? ⟨W.heap.size, 0, none⟩ = some (.int .i64 (ah : Int)) := by rw [Lib.cell_of_heap hp9]; rfl
              have p1 : w9.cell? ⟨W.heap.size, 1, none⟩ = some (.int .i64 kk) := by rw [Lib.cell_of_heap hp9]; rfl
              have p2 : w9.cell? ⟨W.heap.size, 2, none⟩ = some (.bool lst) := by rw [Lib.cell_of_heap hp9]; rfl
              have p3 : w9.cell? ⟨W.heap.size, 3, none⟩ = some (.slice ca cn cc) := by rw [Lib.cell_of_heap hp9]; rfl
              have pf := fun o => Lib.frozen_of_heap hp9 o
              have hq9l := heap_lt hq9; have hp9l := heap_lt hp9
              have hgl9 : gl < w9.heap.size := by have := hO9.size; omega
              have HP9 := Lib.hid hp9; have HL9 := Lib.hid hL9; have HBA2 := Lib.hid hba2
              have HO9 : Hid (Only (fun k => k = gl) W w9) := HO7.out.trans' hO9 (fun k ⟨x, e1, e2⟩ => .inr (e2 ▸ HBA1.out x e1))
              clear hq9 hp9 hL9 hba2 hO9 hown9 hgrow9 hv9 hyt8 hqn hpn hgn c6 hbs hgl7
              go_wp2
              go_roundw
              case rel =>
                have hat := HL9.out.setAt (k + 1)
                rw [show ((k + 1 : Nat) : Int) = (k : Int) + 1 by omega] at hat
                have hg2 := (only_cell w9 gl 6 (.slice ba2 (l.length + 1) bc2)).trans (only_cell _ gl 7 (.int .i64 ((k : Int) + 1)))
                have ho4 := only_set4 ((w9.setCell ⟨gl, 6, none⟩ (.slice ba2 (l.length + 1) bc2)).setCell ⟨gl, 7, none⟩ (.int .i64 ((k : Int) + 1))) W.heap.size (.int .i64 (ep : Int)) (.int .i64 (k : Int)) (.bool true) (.slice a m c)
                have hpg : ¬ Gk gl ba2 (Yh Y1 N a2) W.heap.size := fun hk => by
                  rcases hk with hk | ⟨x, e, hk⟩ | hk | ⟨h0, x, e, hk⟩
                  · exact hglp hk.symm
                  · rcases HBA2.out x e with ⟨y, e1, e2⟩ | e2
                    · exact HPB1.out (.inr (.inl ⟨y, e1, e2.trans hk⟩))
                    · simp at e2; omega
                  · exact HPB1.out (.inr (.inr hk))
                  · exact (HOB7.out x.block (by rw [e]; rfl)).2.1 hk
                refine ⟨k + 1, [], l ++ [bt ++ body], k + 1, ep, true, by omega, by go_num, ⟨ha1, hc1, ba2, bc2, _, _, (k : Int), a, m, c, hat.keepO ho4 (fun k hk e => hpg (e ▸ hk)), ⟨rfl, .inl ⟨rfl, rfl⟩⟩, fun x e => by (cases e), hpg, ?_, ?_, ?_, ?_⟩, ?_, ?_⟩
                · exact set4_heap (by rw [hg2.block _ hp9l (fun e => hglp e.symm)]; exact HP9.out) _ _ _ _
                · exact (HO9.out.trans hg2).trans' ho4 (fun k hk => .inr (by omega))
                · intro x e
                  rcases HBA2.out x e with ⟨y, e1, e2⟩ | e2
                  · rw [← e2]; exact HBA1.out y e1
                  · simp at e2; omega
                · intro j hj
                  rcases hj with hj | ⟨h0, x, e, rfl⟩
                  · exact HY1.out j hj
                  · exact .inr (HYT7.out.2.2 (by rw [← HNL.out]; exact h0) x e).1
                · show _ = _; rw [HSK1.out, Lm.scan_last HFR2.out HGD.out]; rfl
                · exact ⟨by simp, by rw [List.length_append]; simp; omega⟩
              case measure => simp [ixOf]; omega
end Go.Proofs.Ytofbignggadkiaa
