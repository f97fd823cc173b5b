/- Package log: read; a head is set in the log; writeHead. -/
import Derived.Test.YtofbignggadkiaaLogK5
import Derived.Test.YtofbignggadkiaaSecLaw
import Derived.Test.YtofbignggadkiaaLogRv
import Derived.Deep.CutBlock
import Derived.Deep.DeepCutAuto
namespace Go.Proofs.Ytofbignggadkiaa
open Go.RowKit

theorem results_cell_slot {P : Program} {fn : Func} {p q : Tmp} {ty : TypeId} (h : fn.results = #[.cell p ty, .tmp q]) (tmps : Array Value) (w : World) (g : Nat) (cs : Array Value)
    (hp : tmps.getD p undef = .pointer (some ⟨g, 0, none⟩)) (u : Value) (hu : tmps.getD q undef = u) (hl : (loadVar ty ⟨g, 0, none⟩).run P w = .ok (.agg cs) w) :
    (results fn tmps).run P w = .ok (.tuple #[.agg cs, u]) w := by
  subst hu
  have hp' : tmps[p]?.getD undef = .pointer (some ⟨g, 0, none⟩) := by simpa using hp
  simp [results, h, hp', asAddr, hl]
/-- a value built of no parts -/
theorem wpList_build_of {P : Program} {w : World} {ops : Array Oper} {rest : List Oper} {o : Oper} {a : Act} {Q : Exit → Act → World → Prop} (hgd : o.guard = none) (ty : TypeId) (ho : o.op = .build ty #[]) (c : Array Value) (hb : ∀ w, (Instr.build ty #[]).run P w = .ok (.agg c) w)
    (h : wpList P ops Q rest (a.put o.dst (.agg c)) w) : wpList P ops Q (o :: rest) a w := by
  refine wpList_plain hgd fun K hK => ?_
  unfold Oper.wp execOp
  simp only [ho, Array.map_empty, hb, Sem.run_bind, Sem.run_pure, Result.andThen_ok]
  exact hK _ _ h
theorem one_k (w : World) (x : Obj) : Below w.heap.size w (w.alloc x) := (Below.refl _ _).alloc (Nat.le_refl _) _
theorem Sm.read_64 {d : Sm.Dv} (h : Sm.Ok d) {i : Int} (hc : Sm.check d i 0 = 0) : (Sm.read d i).1.length = 64 ∧ (Sm.read d i).2 = 0 := by
  obtain ⟨h1, h2, _, _⟩ := Sm.check_0 hc
  unfold Sm.read
  rw [if_pos hc]
  refine ⟨?_, rfl⟩
  show (Sm.last _ _ d.ws).length = 64
  have hk : (d.kept.getD i.toNat []).length = 64 := Sm.getD_64 h.k (by omega)
  have hw := h.w
  revert hw hk
  generalize d.kept.getD i.toNat [] = s
  induction d.ws generalizing s with
  | nil => exact fun h _ => h
  | cons x r ih =>
    intro hs hw
    rw [Sm.last]
    refine ih _ ?_ (fun y hy => hw y (by simp [hy]))
    split
    · exact (hw x (by simp)).2
    · exact hs
set_option maxHeartbeats 1000000 in
set_option maxRecDepth 100000 in
theorem log_readOk {gl g : Nat} {d : Sm.Dv} {F : Nat → Prop} {W : World} (i : Int) (h0 : W.cell? ⟨gl, 0, none⟩ = some (.pointer (some ⟨g, 0, none⟩))) (hg : gl < W.heap.size) (hd : DevK g d F W) (hw : d.ws.length ≤ 1000) (hc : Sm.check d i 0 = 0) :
    Calls Try.prog 47 #[.pointer (some ⟨gl, 0, none⟩), .int .i64 i] W fun e w' => e = .returned (.tuple #[.agg (yc (Sm.read d i).1).toArray, .int .i64 0]) ∧ Below W.heap.size W w' := by
  obtain ⟨hl, h2⟩ := Sm.read_64 (secCon.ok hd) hc
  obtain ⟨z, Z, hz, hZ, hZs⟩ : ∃ (z : Value) (Z : Array Value), (∀ w, (zeroValue 93).run Try.prog w = .ok z w) ∧ z.cells = Z ∧ Z.size = 64 := ⟨_, z64, (zero_of_info infoLz).1, rfl, Array.size_replicate⟩
  have HZ := Lib.hid hz; have HZ1 := Lib.hid hZ; have HZS := Lib.hid hZs
  have hR := secCon.read i (secCon.below hd (one_k W (.cells Z 93))) hw
  rw [h2] at hR
  obtain ⟨S, hS⟩ : ∃ S, S = (Sm.read d i).1 := ⟨_, rfl⟩
  rw [← hS] at hR hl ⊢
  have c0 : (W.alloc (.cells Z 93)).cell? ⟨gl, 0, none⟩ = some (.pointer (some ⟨g, 0, none⟩)) := by rw [World.cell?_alloc_lt (h := hg)]; exact h0
  have HR := Lib.hid hR; have HL := Lib.hid hl
  clear hz hZ hZs hR hl h2 h0 hd hw hc hS
  go_enter Try.func47, Try.ntmps47
  go_wp2_with (first
    | (with_reducible refine wpList_alloc_of ?_ 93 ?_ z Z ?_ ?_ ?_
       · rfl
       · rfl
       · exact HZ.out
       · exact HZ1.out))
  refine HR.out.mono ?_
  rintro e w1 ⟨a, c, n, rfl, hn, hown, hb⟩
  obtain rfl : n = 64 := hn.trans HL.out
  obtain ⟨_, ⟨_, h⟩ | ⟨b, cap, cur, hv, hB, hgb, _, _, _, htk⟩⟩ := hown
  · cases h
  injection hv with e1 e2 e3
  subst e1
  have hrg : w1.rangeAt b 0 (yc S) := fun j v hv => by
    rw [Lib.cell_of_heap hgb, Nat.zero_add, ← Array.getElem?_toList]
    have hj : j < 64 := by have := (List.getElem?_eq_some_iff.1 hv).1; rw [yc_length, HL.out] at this; exact this
    rw [← htk, List.getElem?_take, if_pos (by omega)] at hv
    exact hv
  have ar : ∀ W : World, (Instr.arrayAt 93 (.slice (some ⟨b, 0, none⟩) 64 c)).run Try.prog W = .ok (.pointer (some ⟨b, 0, none⟩)) W := fun W => run_arrayAt W _ _ _ _ _ _ Try.underlying93 (Nat.le_refl _)
  have HG := Lib.hid hrg
  have HRX : Hid (w1.heap[W.heap.size]? = some (.cells Z 93 (0, 0))) := by show _ = _; rw [hb.block _ (by simp), heap_alloc_new]
  have HB : Hid (Below W.heap.size W w1) := (one_k W _).trans (hb.mono (by simp))
  obtain ⟨D, hD⟩ : ∃ D, D = yc S := ⟨_, rfl⟩
  have hD1 : D.toArray.all (·.oneCell') = true := by rw [hD]; exact yc_all _
  have hDl : D.length = 64 := by rw [hD, yc_length]; exact HL.out
  have HD1 := Lib.hid hD1; have HDL := Lib.hid hDl; have HD := Lib.hid hD
  rw [← hD] at hrg
  have HG := Lib.hid hrg
  clear hn hgb htk hrg hb hD hD1 hDl e2 e3 c0 hB HR
  go_wp2_with (first
    | (with_reducible refine wpList_load_mid ?_ 93 (.tmp 22) ?_ b 0 ?_ D (.array 64 5) HG.out Try.underlying93 rfl ?_ ?_
       · rfl
       · rfl
       · rfl
       · rw [HDL.out]; exact infoL2)
    | (refine wpList_store_row ?_ 93 (.tmp 4) (.tmp 23) ?_ W.heap.size D.toArray ?_ ?_ 93 Z HRX.out ?_ ?_ HD1.out ?_
       · rfl
       · rfl
       · rfl
       · rfl
       · rw [List.size_toArray, HDL.out]; exact infoL2
       · rw [List.size_toArray]; exact HZS.out.trans HDL.out.symm))
  have hld := run_loadVar_row (P := Try.prog) _ W.heap.size _ 93 D.toArray _ (.array 64 5) (setRow_heap w1 _ _ D.toArray _ _ HRX.out) Try.underlying93 rfl (by rw [List.size_toArray, HDL.out]; exact infoL2)
  refine bodyPost_ret (v := .tuple #[.agg D.toArray, .int .i64 0]) (results_cell_slot (p := 4) (q := 5) (ty := 93) rfl _ _ W.heap.size D.toArray rfl (.int .i64 0) rfl hld) rfl ?_
  exact ⟨by rw [HD.out], below_setRow HB.out (Nat.le_refl _) _⟩
set_option maxHeartbeats 1000000 in
set_option maxRecDepth 100000 in
theorem log_readNo {gl g : Nat} {d : Sm.Dv} {F : Nat → Prop} {W : World} (i : Int) (h0 : W.cell? ⟨gl, 0, none⟩ = some (.pointer (some ⟨g, 0, none⟩))) (hg : gl < W.heap.size) (hd : DevK g d F W) (hw : d.ws.length ≤ 1000) (hc : Sm.check d i 0 = 60) :
    Calls Try.prog 47 #[.pointer (some ⟨gl, 0, none⟩), .int .i64 i] W fun e w' => (∃ s : List UInt8, s.length = 64 ∧ e = .returned (.tuple #[.agg (yc s).toArray, .int .i64 60])) ∧ Below W.heap.size W w' := by
  have h2 : (Sm.read d i).2 = 60 := by unfold Sm.read; rw [hc]; rfl
  obtain ⟨z, Z, hz, hZ, hZs⟩ : ∃ (z : Value) (Z : Array Value), (∀ w, (zeroValue 93).run Try.prog w = .ok z w) ∧ z.cells = Z ∧ Z = (yc (List.replicate 64 0)).toArray := ⟨_, z64, (zero_of_info infoLz).1, rfl, by rw [show yc (List.replicate 64 0) = List.replicate 64 (.int .u8 0) by simp [yc], List.toArray_replicate]; rfl⟩
  have hZl : Z.size = 64 := by rw [hZs, List.size_toArray, yc_length]; rfl
  have HZ := Lib.hid hz; have HZ1 := Lib.hid hZ; have HZS := Lib.hid hZl; have HZE := Lib.hid hZs
  have hR := secCon.read i (secCon.below hd (one_k W (.cells Z 93))) hw
  rw [h2] at hR
  obtain ⟨S, hS⟩ : ∃ S, S = (Sm.read d i).1 := ⟨_, rfl⟩
  rw [← hS] at hR
  have c0 : (W.alloc (.cells Z 93)).cell? ⟨gl, 0, none⟩ = some (.pointer (some ⟨g, 0, none⟩)) := by rw [World.cell?_alloc_lt (h := hg)]; exact h0
  have HR := Lib.hid hR
  have bl : ∀ w : World, (Instr.build 93 #[]).run Try.prog w = .ok (.agg Z) w := fun w => by
    simp [Instr.build, Sem.run_bind, hz, run_underlying Try.underlying93, Instr.fill, hZ]
  clear hz hZ hZs hR h2 h0 hd hw hc hS hZl
  go_enter Try.func47, Try.ntmps47
  go_wp2_with (first
    | (with_reducible refine wpList_alloc_of ?_ 93 ?_ z Z ?_ ?_ ?_
       · rfl
       · rfl
       · exact HZ.out
       · exact HZ1.out))
  refine HR.out.mono ?_
  rintro e w1 ⟨a, c, n, rfl, hn, hown, hb⟩
  have HRX : Hid (w1.heap[W.heap.size]? = some (.cells Z 93 (0, 0))) := by show _ = _; rw [hb.block _ (by simp), heap_alloc_new]
  have HB : Hid (Below W.heap.size W w1) := (one_k W _).trans (hb.mono (by simp))
  clear hn hb c0 HR hown
  have hZ1 : Z.all (·.oneCell') = true := by rw [HZE.out]; exact yc_all _
  have HZO := Lib.hid hZ1
  have HBL := Lib.hid bl
  clear hZ1 bl
  go_wp2_with (first
    | (with_reducible refine wpList_build_of ?_ 93 ?_ Z ?_ ?_
       · rfl
       · rfl
       · exact HBL.out)
    | (refine wpList_store_row ?_ 93 (.tmp 4) (.tmp 19) ?_ W.heap.size Z ?_ ?_ 93 Z HRX.out ?_ ?_ HZO.out ?_
       · rfl
       · rfl
       · rfl
       · rfl
       · rw [HZS.out]; exact infoL2
       · rfl))
  have hld := run_loadVar_row (P := Try.prog) _ W.heap.size _ 93 Z _ (.array 64 5) (setRow_heap w1 _ _ Z _ _ HRX.out) Try.underlying93 rfl (by rw [HZS.out]; exact infoL2)
  refine bodyPost_ret (v := .tuple #[.agg Z, .int .i64 60]) (results_cell_slot (p := 4) (q := 5) (ty := 93) rfl _ _ W.heap.size Z rfl (.int .i64 60) rfl hld) rfl ?_
  exact ⟨⟨List.replicate 64 0, rfl, by rw [HZE.out]⟩, below_setRow HB.out (Nat.le_refl _) _⟩
end Go.Proofs.Ytofbignggadkiaa
/- Package log: a head is set in the log; writeHead. -/
namespace Go.Proofs.Ytofbignggadkiaa
open Go.RowKit

theorem yt_row0 {W : World} {g off n cap : Nat} {s : List UInt8} {t : TypeId} {fr : Nat × Nat} (h : W.heap[g]? = some (.cells (yc s).toArray t fr)) (hn : off + n ≤ s.length) (hc : n ≤ cap) : Yt (.slice (some ⟨g, off, none⟩) n cap) ((s.drop off).take n) W := by
  have hl : ((s.drop off).take n).length = n := by rw [List.length_take, List.length_drop]; omega
  refine .inr ⟨g, off, cap, by rw [hl], by omega, heap_lt h, fun j hj => ?_⟩
  rw [hl] at hj
  rw [Lib.cell_of_heap h, List.getElem?_toArray, yc_get]
  have h1 : off + j < s.length := by omega
  simp [List.getD, h1, hj]
theorem cs_same {w : World} {g o : Nat} {v u : Value} (h : w.cell? ⟨g, o, none⟩ = some u) : (w.setCell ⟨g, o, none⟩ v).cell? ⟨g, o, none⟩ = some v := World.cell?_setCell_same' _ _ _ (by rw [h]; rfl)
theorem cs_off {w : World} {g o p : Nat} {v : Value} {r : Option Value} (h : w.cell? ⟨g, p, none⟩ = r) (e : o ≠ p) : (w.setCell ⟨g, o, none⟩ v).cell? ⟨g, p, none⟩ = r := by
  rw [World.cell?_setCell_other (h := fun x => by injection x with _ x; exact e x)]; exact h
/-- what else is in the log's row when one cell is set -/
theorem Lk.only {gl g : Nat} {ha : Option Addr} {hc : Nat} {ba : Option Addr} {bc : Nat} {vs : List Value} {Y : Nat → Prop} {L : Lm.Lg} {W W' : World} (h : Lk gl g ha hc ba bc vs Y L W) (ho : Only (fun k => k = gl) W W') :
    (∀ k, Gk gl ba Y k → k < W'.heap.size) ∧ Yt (.slice ha L.h.body.length hc) L.h.body W' ∧ W'.ownsRow 0 39 1 (.slice ba L.l.length bc) L.l.length vs ∧
    (∀ j, j < L.l.length → ∃ a c, vs[j]? = some (.slice a (L.l.getD j []).length c) ∧ Yt (.slice a (L.l.getD j []).length c) (L.l.getD j []) W' ∧ (0 < (L.l.getD j []).length → ∀ x, a = some x → Y x.block)) := by
  refine ⟨fun k hk => by have := h.lt k hk; have := ho.size; omega, h.hy.keepO ho (fun h0 x e hp => h.yg (hp ▸ h.hY h0 x e)), ?_, fun j hj => ?_⟩
  · obtain ⟨h1, h2⟩ := h.bo
    refine ⟨h1, ?_⟩
    rcases h2 with h2 | ⟨b, cap, cur, hv, hB, hg2, rest⟩
    · exact .inl h2
    · injection hv with e1 e2 e3
      refine .inr ⟨b, cap, cur, by rw [e1, e3], hB, ?_, rest⟩
      rw [ho.block b (heap_lt hg2) (h.yb _ e1).1]; exact hg2
  · obtain ⟨a, c, h1, h2, h3⟩ := h.bv j hj
    exact ⟨a, c, h1, h2.keepO ho (fun h0 x e hp => h.yg (hp ▸ h3 h0 x e)), h3⟩
/-- where the bytes lie once a head is set -/
def Yh (Y : Nat → Prop) (n : Nat) (a : Option Addr) : Nat → Prop := fun k => Y k ∨ (0 < n ∧ ∃ x, a = some x ∧ x.block = k)
theorem Lk.setHead {gl g : Nat} {ha : Option Addr} {hc : Nat} {ba : Option Addr} {bc : Nat} {vs : List Value} {Y : Nat → Prop} {L : Lm.Lg} {W : World} (h : Lk gl g ha hc ba bc vs Y L W) (hh : Lm.Hd) (a : Option Addr) (c : Nat) (hy : Yt (.slice a hh.body.length c) hh.body W)
    (hx : 0 < hh.body.length → ∀ x, a = some x → x.block < W.heap.size ∧ x.block ≠ gl ∧ ∀ y, ba = some y → y.block ≠ x.block) :
    Lk gl g a c ba bc vs (Yh Y hh.body.length a) { L with h := hh } ((((W.setCell ⟨gl, 2, none⟩ (.int .i64 (hh.n : Int))).setCell ⟨gl, 3, none⟩ (.int .i64 (hh.epoch : Int))).setCell ⟨gl, 4, none⟩ (.int .i64 (hh.base : Int))).setCell ⟨gl, 5, none⟩ (.slice a hh.body.length c)) := by
  have ho : Only (fun k => k = gl) W ((((W.setCell ⟨gl, 2, none⟩ (.int .i64 (hh.n : Int))).setCell ⟨gl, 3, none⟩ (.int .i64 (hh.epoch : Int))).setCell ⟨gl, 4, none⟩ (.int .i64 (hh.base : Int))).setCell ⟨gl, 5, none⟩ (.slice a hh.body.length c)) :=
    (((only_cell _ _ _ _).trans (only_cell _ _ _ _)).trans (only_cell _ _ _ _)).trans (only_cell _ _ _ _)
  obtain ⟨h1, h2, h3, h4⟩ := h.only ho
  refine ⟨cs_off (cs_off (cs_off (cs_off h.c0 (by decide)) (by decide)) (by decide)) (by decide), cs_off (cs_off (cs_off (cs_off h.c1 (by decide)) (by decide)) (by decide)) (by decide),
    cs_off (cs_off (cs_off (cs_same h.c2) (by decide)) (by decide)) (by decide), cs_off (cs_off (cs_same (cs_off h.c3 (by decide))) (by decide)) (by decide), cs_off (cs_same (cs_off (cs_off h.c4 (by decide)) (by decide))) (by decide), cs_same (cs_off (cs_off (cs_off h.c5 (by decide)) (by decide)) (by decide)),
    cs_off (cs_off (cs_off (cs_off h.c6 (by decide)) (by decide)) (by decide)) (by decide), cs_off (cs_off (cs_off (cs_off h.c7 (by decide)) (by decide)) (by decide)) (by decide), cs_off (cs_off (cs_off (cs_off h.c8 (by decide)) (by decide)) (by decide)) (by decide),
    fun o => by simp only [World.frozen?_setCell]; exact h.fz o, fun k hk => ?_, hy.keepO ho (fun h0 x e hp => (hx h0 x e).2.1 hp), fun h0 x e => .inr ⟨h0, x, e, rfl⟩, h3, fun j hj => ?_, fun hk => ?_, fun x e => ⟨(h.yb x e).1, fun hk => ?_⟩⟩
  · rcases hk with rfl | hk | hk | ⟨h0, x, e, rfl⟩
    · exact h1 _ (.inl rfl)
    · exact h1 _ (.inr (.inl hk))
    · exact h1 _ (.inr (.inr hk))
    · have := (hx h0 x e).1; have := ho.size; omega
  · obtain ⟨a1, c1, e1, e2, e3⟩ := h4 j hj
    exact ⟨a1, c1, e1, e2, fun h0 x e => .inl (e3 h0 x e)⟩
  · rcases hk with hk | ⟨h0, x, e, hk⟩
    · exact h.yg hk
    · exact (hx h0 x e).2.1 hk
  · rcases hk with hk | ⟨h0, y, e', hk⟩
    · exact (h.yb x e).2 hk
    · exact (hx h0 y e').2.2 x e hk.symm
set_option maxHeartbeats 2000000 in
set_option maxRecDepth 100000 in
theorem log_writeHead {gl g : Nat} {ha : Option Addr} {hc : Nat} {ba : Option Addr} {bc : Nat} {vs : List Value} {Y : Nat → Prop} {L : Lm.Lg} {d : Sm.Dv} {F : Nat → Prop} {W : World} (h : Lm.Hd) (a : Option Addr) (m c : Nat) (hl : Lk gl g ha hc ba bc vs Y L W) (hd : DevK g d F W) (hap : ∀ k, F k → ¬ Gk gl ba Y k) (hw : d.ws.length ≤ 500) (hc0 : 0 ≤ d.calls) (hc1 : d.calls ≤ 500000) (hl0 : -1 ≤ d.left) (hl1 : d.left ≤ 9223372036854775807)
    (hn : h.n ≤ N62 + 1) (he : h.epoch ≤ 4294967295) (hb : h.base ≤ 4294967295) (hbo : h.body.length ≤ 32) (hy : Yt (.slice a m c) h.body W) (hx : 0 < h.body.length → ∀ x, a = some x → x.block < W.heap.size ∧ ¬ F x.block ∧ x.block ≠ gl ∧ ∀ y, ba = some y → y.block ≠ x.block) :
    Calls Try.prog 33 #[.pointer (some ⟨gl, 0, none⟩), hdK (h.n : Int) (h.epoch : Int) (h.base : Int) (.slice a m c)] W fun e w' => e = .returned (.int .i64 (Lm.next h d).2) ∧
      ∃ F', DevK g (Lm.next h d).1 F' w' ∧ Only (fun k => F k ∨ k = gl) W w' ∧ (∀ k, F' k → F k ∨ W.heap.size ≤ k) ∧ ((Lm.next h d).2 = 0 → Lk gl g a c ba bc vs (Yh Y h.body.length a) { L with h := h } w') ∧ ((Lm.next h d).2 ≠ 0 → Lk gl g ha hc ba bc vs Y L w') := by
  have hm : m = h.body.length := by obtain ⟨_, _, e⟩ := hy.form; injection e
  have hgl := hl.lt gl (.inl rfl)
  have hgF : ¬ F gl := fun hk => hap gl hk (.inl rfl)
  -- the block, the write, the flush
  obtain ⟨M, hM⟩ : ∃ M : Int, M = ((h.n % 2 : Nat) : Int) := ⟨_, rfl⟩
  have hok := secCon.ok hd
  have gw := grow_write hok hl0 hl1 M (Lm.hsec h)
  have hnx : Lm.next h d = if (Sm.write d M (Lm.hsec h)).2 ≠ 0 then Sm.write d M (Lm.hsec h) else Sm.flush (Sm.write d M (Lm.hsec h)).1 := by
    unfold Lm.next; rw [if_neg (by omega), ← hM]
  obtain ⟨d1, hd1⟩ : ∃ d1, d1 = (Sm.write d M (Lm.hsec h)).1 := ⟨_, rfl⟩
  obtain ⟨c1, hc1'⟩ : ∃ c1, c1 = (Sm.write d M (Lm.hsec h)).2 := ⟨_, rfl⟩
  obtain ⟨S, hS⟩ : ∃ S, S = Lm.hsec h := ⟨_, rfl⟩
  have hSl : S.length = 64 := by rw [hS]; exact Lm.hsec_length hbo
  have hHB := log_hblock h.n h.epoch h.base a m c h.body
  have HWR : Hid (∀ (w : World) (b : Nat), DevK g d F w → Yt (.slice (some ⟨b, 0, none⟩) 64 64) S w → ¬ F b → Calls Try.prog 20 #[.pointer (some ⟨g, 0, none⟩), .int .i64 M, .slice (some ⟨b, 0, none⟩) 64 64] w fun e w' => e = .returned (.int .i64 c1) ∧ Did DevK g F d1 w w') := fun w b hdv hyt hbF => by
    have := secCon.write M (some ⟨b, 0, none⟩) 64 64 S hdv ⟨by omega, hc0, by omega, hl0, hl1⟩ hyt (by omega) (fun _ x e => by injection e with e; subst e; exact hbF)
    rw [hS] at this
    rw [hc1', hd1]; exact this
  have HHBB : Hid (∀ w : World, Yt (.slice a m c) h.body w → Calls Try.prog 51 #[.agg #[.int .i64 (h.n : Int), .int .i64 (h.epoch : Int), .int .i64 (h.base : Int), .slice a m c]] w fun e w' => e = .returned (.agg (yc S).toArray) ∧ Below w.heap.size w w') := fun w hyw => by
    rw [hS]; exact log_hblock h.n h.epoch h.base a m c h.body w (by unfold N62 at hn; omega) (by omega) (by omega) hbo hyw
  have HFL : Hid (∀ (w : World) (F1 : Nat → Prop), DevK g d1 F1 w → Calls Try.prog 52 #[.pointer (some ⟨g, 0, none⟩)] w fun e w' => e = .returned (.int .i64 (Sm.flush d1).2) ∧ Did DevK g F1 (Sm.flush d1).1 w w') := fun w F1 hdv =>
    secCon.flush hdv (by rw [hd1]; exact ⟨by have := gw.w; omega, by have := gw.c0; omega, by have := gw.c1; omega, gw.l0, gw.l1⟩)
  obtain ⟨c2, hc2⟩ : ∃ c2, c2 = (Sm.flush d1).2 := ⟨_, rfl⟩
  obtain ⟨d2, hd2⟩ : ∃ d2, d2 = (Sm.flush d1).1 := ⟨_, rfl⟩
  rw [← hc2, ← hd2] at HFL
  obtain ⟨RD, hRD⟩ : ∃ RD, RD = (Lm.next h d).1 := ⟨_, rfl⟩
  obtain ⟨RC, hRC⟩ : ∃ RC, RC = (Lm.next h d).2 := ⟨_, rfl⟩
  have H1 : Hid (c1 ≠ 0 → RD = d1 ∧ RC = c1) := fun hne => by rw [hRD, hRC, hnx, if_pos (by rw [← hc1']; exact hne)]; exact ⟨hd1.symm, hc1'.symm⟩
  have H2 : Hid (c1 = 0 → RD = d2 ∧ RC = c2) := fun h0 => by rw [hRD, hRC, hnx, if_neg (by rw [← hc1', h0]; exact fun h => h rfl), ← hd1]; exact ⟨hd2.symm, hc2.symm⟩
  rw [← hRD, ← hRC]
  have hmt : (h.n : Int).tmod 2 = M := by rw [hM, Int.tmod_eq_emod_of_nonneg (by omega)]; omega
  have hwm : wrap64 M = M := by rw [hM]; unfold wrap64; omega
  have HL := Lib.hid hl; have HD := Lib.hid hd; have HY := Lib.hid hy; have HX := Lib.hid hx; have HM := Lib.hid hm; have HAP := Lib.hid hap
  have c0 := hl.c0
  have HSL := Lib.hid hSl
  obtain ⟨D, hD⟩ : ∃ D, D = (yc S).toArray := ⟨_, rfl⟩
  have hDs : D.size = 64 := by rw [hD, List.size_toArray, yc_length]; exact hSl
  have hD1 : D.all (·.oneCell') = true := by rw [hD]; exact yc_all _
  have HDE := Lib.hid hD; have HDS := Lib.hid hDs; have HD1 := Lib.hid hD1
  obtain ⟨n, hnn⟩ : ∃ n : Int, n = (h.n : Int) := ⟨_, rfl⟩
  obtain ⟨ep, hep⟩ : ∃ n : Int, n = (h.epoch : Int) := ⟨_, rfl⟩
  obtain ⟨bs, hbs⟩ : ∃ n : Int, n = (h.base : Int) := ⟨_, rfl⟩
  rw [← hnn, ← hep, ← hbs]
  rw [← hnn, ← hep, ← hbs, ← hD] at HHBB
  rw [← hnn] at hmt
  have HNN := Lib.hid hnn; have HEP := Lib.hid hep; have HBS := Lib.hid hbs
  obtain ⟨z, Z, hz, hZ, hZs⟩ : ∃ (z : Value) (Z : Array Value), (∀ w, (zeroValue 93).run Try.prog w = .ok z w) ∧ z.cells = Z ∧ Z.size = 64 := ⟨_, z64, (zero_of_info infoLz).1, rfl, Array.size_replicate⟩
  have HZ := Lib.hid hz; have HZ1 := Lib.hid hZ; have HZS := Lib.hid hZs
  have HGL := Lib.hid hgl; have HGF := Lib.hid hgF
  clear hl hd hap hw hc0 hc1 hl0 hl1 hn he hb hbo hy hx hm hok gw hnx hd1 hc1' hS hSl hHB hc2 hd2 hRD hRC hM hD hDs hD1 hnn hep hbs hz hZ hZs hgF
  unfold hdK
  go_enter Try.func33, Try.ntmps33
  go_wp2_with fail
  refine (HHBB.out _ (HY.out.keep (one_k W _))).mono ?_
  rintro e w1 ⟨rfl, hb1⟩
  have HB1 := Lib.hid hb1
  clear hb1
  go_upto_region 2 with (first
    | (with_reducible refine wpList_alloc_of ?_ 93 ?_ z Z ?_ ?_ ?_
       · rfl
       · rfl
       · exact HZ.out
       · exact HZ1.out)
    | (refine wpList_store_last ?_ 93 (.tmp 5) (.tmp 9) ?_ w1 Z D ?_ ?_ ?_ ?_ ?_ HD1.out ?_
       · rfl
       · rfl
       · rfl
       · rfl
       · rfl
       · rw [HDS.out]; exact infoL2
       · exact HZS.out.trans HDS.out.symm))
  obtain ⟨HX0, hHX0⟩ : ∃ X, X = (#[.int .i64 n, .int .i64 ep, .int .i64 bs, .slice a m c] : Array Value) := ⟨_, rfl⟩
  obtain ⟨q, hq⟩ : ∃ q, q = w1.heap.size := ⟨_, rfl⟩
  obtain ⟨W2, hW2⟩ : ∃ W2, W2 = w1.alloc (.cells D 93) := ⟨_, rfl⟩
  have HXB := Lib.hid hHX0
  have HBX : Hid (W2.heap[W.heap.size]? = some (.cells HX0 74 (0, 0))) := by
    show _ = _; rw [hW2, hHX0, Below.heap_alloc _ _ _ (by have := HB1.out.size; simp at this; omega), HB1.out.block _ (by simp), heap_alloc_new]
  have HBD : Hid (W2.heap[q]? = some (.cells D 93 (0, 0))) := by show _ = _; rw [hW2, hq, heap_alloc_new]
  have HBW : Hid (Below W.heap.size W W2) := by
    rw [hW2]; exact ((one_k W _).trans (HB1.out.mono (by simp))).alloc (by have := HB1.out.size; simp at this; omega) _
  have HQ : Hid (W.heap.size < q) := by rw [hq]; have := HB1.out.size; simp at this; show W.heap.size < _; omega
  have c0 : W2.cell? ⟨gl, 0, none⟩ = some (.pointer (some ⟨g, 0, none⟩)) := by
    rw [← c0]; simp only [World.cell?, HBW.out.block gl hgl]
  have cn : W2.cell? ⟨W.heap.size, 0, none⟩ = some (.int .i64 n) := by rw [Lib.cell_of_heap HBX.out, HXB.out]; rfl
  have HQS : Hid (q < W2.heap.size) := heap_lt HBD.out
  rw [← hq, ← hW2]
  clear hHX0 hW2 hq HB1 HHBB HZ HZ1 HZS hgl
  simp only [Act.put, Array.setIfInBounds, List.size_toArray, List.length_cons, List.length_nil, Nat.reduceAdd, Nat.reduceLT, List.set_toArray, List.set_cons_succ, List.set_cons_zero, ↓reduceDIte]
  go_cut [6] (fun v wx => v = .int .i64 c1 ∧ Hid (Did DevK g F d1 W2.drew wx))
  case first =>
    go_region_with (go_at_call 20; refine (HWR.out W2.drew q (secCon.below (secCon.below HD.out HBW.out) (below_drew0 _)) (by
        have hs : (S.drop 0).take 64 = S := by rw [List.drop_zero, List.take_of_length_le (by rw [HSL.out]; decide)]
        rw [← hs]; exact yt_row0 (by rw [heap_drew, ← HDE.out]; exact HBD.out) (by rw [HSL.out]; decide) (Nat.le_refl _)) (fun hk => by have := secCon.lt HD.out _ hk; have := HQ.out; omega)).mono ?_; rintro e w3 ⟨rfl, hdid⟩)
    all_goals
      have HDD := Lib.hid hdid
      clear hdid
      go_wp2
      go_meet
    all_goals exact ⟨rfl, HDD⟩
  case rest =>
    obtain ⟨rfl, HDX⟩ := hcut
    obtain ⟨w3, rfl⟩ : ∃ w3, w3 = wc := ⟨wc, rfl⟩
    obtain ⟨F1, hD1, hO1, hF1⟩ := HDX.out
    have HO1 : Hid (Only (fun k => F k ∨ k = gl) W w3) := (((only_of HBW.out).mono (q := fun k => F k ∨ k = gl) (fun k hk e => absurd hk (by omega))).trans (only_of (below_drew0 _ : Below W2.heap.size W2 W2.drew) |>.mono (fun k hk e => absurd hk (by omega)))).trans (hO1.mono (fun k _ e => .inl e))
    have HL3 : Hid (Lk gl g ha hc ba bc vs Y L w3) := ((HL.out.below HBW.out).below (below_drew0 _)).keepO hO1 (fun k hk hp => HAP.out k hp hk)
    have HD3 := Lib.hid hD1
    have hs2 := HBW.out.size
    have HF1 : Hid (∀ k, F1 k → F k ∨ W.heap.size ≤ k) := fun k hk => by
      rcases hF1 k hk with h | h
      · exact .inl h
      · simp at h; exact .inr (by omega)
    have HF1b : Hid (¬ F1 W.heap.size) := fun hk => by
      rcases hF1 _ hk with h | h
      · have := secCon.lt HD.out _ h; omega
      · simp at h; have := HQ.out; have := HQS.out; omega
    have HBX3 : Hid (w3.heap[W.heap.size]? = some (.cells HX0 74 (0, 0))) := by
      show _ = _; rw [hO1.block _ (by rw [heap_drew]; exact heap_lt HBX.out) (fun h => by have := secCon.lt HD.out _ h; omega), heap_drew]; exact HBX.out
    clear HDX hD1 hO1 hF1 c0 cn HBD HBX HBW HWR
    by_cases hz1 : c1 = 0
    case neg =>
      have q1 : (c1 != 0) = true := by simp [hz1]
      obtain ⟨e1, e2⟩ := H1.out hz1
      have hRC : RC ≠ 0 := by rw [e2]; exact hz1
      go_wp2
      go_ret
      exact ⟨by rw [e2]; rfl, F1, by rw [e1]; exact HD3.out, HO1.out, HF1.out, fun h => absurd h hRC, fun _ => HL3.out⟩
    case pos =>
      obtain ⟨e1, e2⟩ := H2.out hz1
      have E1 := Lib.hid e1; have E2 := Lib.hid e2
      subst hz1
      have c0 := HL3.out.c0
      have hl3 := HL3.out.lt gl (.inl rfl)
      clear H1 H2 e1 e2 hs2
      go_wp2_with fail
      refine (HFL.out w3 F1 HD3.out).mono ?_
      rintro e w4 ⟨rfl, F2, hD4, hO4, hF4⟩
      have HO4 : Hid (Only (fun k => F k ∨ k = gl) W w4) := HO1.out.trans' hO4 (fun k hk => by
        rcases HF1.out k hk with h | h
        · exact .inl (.inl h)
        · exact .inr h)
      have HL4 : Hid (Lk gl g ha hc ba bc vs Y L w4) := HL3.out.keepO hO4 (fun k hk hp => by
        rcases HF1.out k hp with h | h
        · exact HAP.out k h hk
        · have := HL.out.lt k hk; omega)
      have HD4 := Lib.hid hD4
      have HF4 : Hid (∀ k, F2 k → F k ∨ W.heap.size ≤ k) := fun k hk => by
        rcases hF4 k hk with h | h
        · exact HF1.out k h
        · have := HO1.out.size; exact .inr (by omega)
      have HGF2 : Hid (¬ F2 gl) := fun hk => by
        rcases HF4.out gl hk with h | h
        · exact HGF.out h
        · have := HGL.out; omega
      have HBX4 : Hid (w4.heap[W.heap.size]? = some (.cells HX0 74 (0, 0))) := by
        show _ = _; rw [hO4.block _ (heap_lt HBX3.out) HF1b.out]; exact HBX3.out
      clear hD4 hO4 hF4 c0 hl3 HBX3 HL3 HD3 HF1b HF1 HO1
      by_cases hz2 : c2 = 0
      case neg =>
        have q1 : (c2 != 0) = true := by simp [hz2]
        have hRC : RC ≠ 0 := by rw [E2.out]; exact hz2
        go_wp2
        go_ret
        exact ⟨by rw [E2.out]; rfl, F2, by rw [E1.out]; exact HD4.out, HO4.out, HF4.out, fun h => absurd h hRC, fun _ => HL4.out⟩
      case pos =>
        subst hz2
        have hRC : RC = 0 := E2.out
        have b0 : w4.cell? ⟨W.heap.size, 0, none⟩ = some (.int .i64 n) := by rw [Lib.cell_of_heap HBX4.out, HXB.out]; rfl
        have b1 : w4.cell? ⟨W.heap.size, 1, none⟩ = some (.int .i64 ep) := by rw [Lib.cell_of_heap HBX4.out, HXB.out]; rfl
        have b2 : w4.cell? ⟨W.heap.size, 2, none⟩ = some (.int .i64 bs) := by rw [Lib.cell_of_heap HBX4.out, HXB.out]; rfl
        have b3 : w4.cell? ⟨W.heap.size, 3, none⟩ = some (.slice a m c) := by rw [Lib.cell_of_heap HBX4.out, HXB.out]; rfl
        have l2 := HL4.out.c2; have l3 := HL4.out.c3; have l4 := HL4.out.c4; have l5 := HL4.out.c5
        have fz := HL4.out.fz
        have hb4 := heap_lt HBX4.out
        have hl4 := HL4.out.lt gl (.inl rfl)
        go_wp2
        go_ret
        have e1 := HNN.out; have e2 := HEP.out; have e3 := HBS.out; have e4 := HM.out
        subst e1 e2 e3 e4
        have hkp : 0 < h.body.length → ∀ x, a = some x → ¬ (F x.block ∨ x.block = gl) := fun h0 x e hp => by
          have := HX.out h0 x e
          rcases hp with hp | hp
          · exact this.2.1 hp
          · exact this.2.2.1 hp
        have hset := HL4.out.setHead h a c (HY.out.keepO HO4.out hkp) (fun h0 x e => by have := HX.out h0 x e; have hs := HO4.out.size; exact ⟨by omega, this.2.2.1, this.2.2.2⟩)
        refine ⟨by rw [hRC]; rfl, F2, ?_, ?_, HF4.out, fun _ => hset, fun h => absurd hRC h⟩
        · rw [E1.out]
          exact secCon.keep (p := fun k => k = gl) HD4.out ((((only_cell _ _ _ _).trans (only_cell _ _ _ _)).trans (only_cell _ _ _ _)).trans (only_cell _ _ _ _)) (fun k hk e => HGF2.out (e ▸ hk))
        · exact HO4.out.trans (((((only_cell _ _ _ _).trans (only_cell _ _ _ _)).trans (only_cell _ _ _ _)).trans (only_cell _ _ _ _)).mono (fun k _ e => .inr e))
end Go.Proofs.Ytofbignggadkiaa
