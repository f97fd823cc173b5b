/- Package log: writeBatch. -/
import Derived.Test.YtofbignggadkiaaLogRd
namespace Go.Proofs.Ytofbignggadkiaa
open Go.RowKit Go.Shelf

attribute [local go_sem] Oper.semAt_some

theorem cells_of {w : World} {q : Addr} {v : Value} (h : w.cell? q = some v) : ∃ o, w.heap[q.block]? = some o ∧ o.isCells = true := by
  unfold World.cell? at h
  cases hb : w.heap[q.block]? with
  | none => rw [hb] at h; cases h
  | some o =>
    cases o with
    | cells c t f => exact ⟨_, rfl, rfl⟩
    | _ => rw [hb] at h; cases h
theorem Rk.cells {b : Nat} {l : List (List UInt8)} {W : World} (h : Rk b l W) (h0 : 0 < l.length) (h64 : ∀ s ∈ l, s.length = 64) : ∃ o, W.heap[b]? = some o ∧ o.isCells = true := by
  have hl : (l.getD 0 []).length = 64 := Sm.getD_64 h64 h0
  have := h.cs 0 h0 0 ((yc (l.getD 0 []))[0]'(by rw [yc_length]; omega)) (List.getElem?_eq_getElem _)
  exact cells_of this
/-- a device lies in cells -/
theorem dev_cells {g : Nat} {d : Sm.Dv} {F : Nat → Prop} {W : World} (h : DevK g d F W) (k : Nat) (hk : F k) : ∃ o, W.heap[k]? = some o ∧ o.isCells = true := by
  obtain ⟨kb, nb, wa, wc, lim, lf, nw, h, hv, rfl⟩ := h
  rcases hk with rfl | rfl | rfl | ⟨x, e, rfl⟩
  · exact cells_of h.c0
  · exact h.kr.cells h.po h.ok.k
  · exact h.nr.cells (by rw [h.nl]; exact h.po) h.n64
  · obtain ⟨_, h2⟩ := h.ws
    rcases h2 with ⟨e2, _⟩ | ⟨b, cap, cur, hv, hB, hg, _⟩
    · rw [e] at e2; cases e2
    · injection hv with e1
      rw [e] at e1
      injection e1 with e1
      rw [e1]
      exact ⟨_, hg, rfl⟩
set_option maxHeartbeats 1000000 in
theorem log_parts (a : Option Addr) (n c : Nat) (w : World) :
    Calls Try.prog 54 #[.slice a n c] w fun e w' => e = .returned (.func (.func 63) #[] #[.pointer (some ⟨w.heap.size, 0, none⟩)]) ∧ w' = w.alloc (.cells #[.slice a n c] 39) := by
  have hmf : ∀ (fn : Fn) (first cap : Array Value) (w : World), (Instr.makeFunc fn first cap).run Try.prog w = .ok (.func fn first cap) w := fun _ _ _ _ => rfl
  go_enter Try.func54, Try.ntmps54
  go_wp2
  go_ret
  exact ⟨rfl, rfl⟩
/-- behind some parts -/
structure Wb (g gl p : Nat) (at_ C : Int) (D : Sm.Dv) (F0 : Nat → Prop) (W : World) (j : Nat) (wx : World) : Prop where
  h2 : wx.heap[p]? = some (.cells #[.pointer (some ⟨gl, 0, none⟩)] 32 (0, 0))
  h4 : wx.heap[p + 1]? = some (.cells #[.int .i64 C] 27 (0, 0))
  h5 : wx.heap[p + 1 + 1]? = some (.cells #[.int .i64 (at_ + (j : Int))] 3 (0, 0))
  on : Only F0 W wx
  dev : ∃ F', DevK g D F' wx ∧ ∀ k, F' k → F0 k ∨ p + 1 + 1 + 1 + 1 ≤ k
  sz : p + 1 + 1 + 1 + 1 ≤ wx.heap.size
theorem grown_block {w w' : World} {row : Option Nat} (hg : w.grownBy w' row) (hr : ∀ r, row = some r → ∃ o, w.heap[r]? = some o ∧ o.isCells = false) {k : Nat} {o : Obj} (h : w.heap[k]? = some o) (ho : o.isCells = true) : w'.heap[k]? = some o := by
  rw [hg.block k (heap_lt h) (fun e => ?_)]
  · exact h
  · obtain ⟨o', h1, h2⟩ := hr k e.symm
    rw [h] at h1
    injection h1 with h1
    subst h1
    rw [ho] at h2
    cases h2
theorem Wb.grown {g gl p : Nat} {at_ C : Int} {D : Sm.Dv} {F0 : Nat → Prop} {W : World} {j : Nat} {w w' : World} (h : Wb g gl p at_ C D F0 W j w) {row : Option Nat} (hg : w.grownBy w' row) (hr : ∀ r, row = some r → W.heap.size ≤ r ∧ ∃ o, w.heap[r]? = some o ∧ o.isCells = false) : Wb g gl p at_ C D F0 W j w' := by
  have hr' := fun r e => (hr r e).2
  obtain ⟨F', hd, hf⟩ := h.dev
  refine ⟨grown_block hg hr' h.h2 rfl, grown_block hg hr' h.h4 rfl, grown_block hg hr' h.h5 rfl, h.on.grown hg (fun k e => .inr (hr k e).1), ⟨F', ?_, hf⟩, by have := h.sz; have := hg.size; omega⟩
  refine secCon.keep hd ((Only.refl (fun k => row = some k) w).grown hg (fun k e => .inl e)) (fun k hk e => ?_)
  obtain ⟨o, h1, h2⟩ := dev_cells hd k hk
  obtain ⟨o', h3, h4⟩ := hr' k e
  rw [h1] at h3
  injection h3 with h3
  subst h3
  rw [h2] at h4
  cases h4
theorem keeps_of' {B : Nat} {q : Nat → Prop} {w w' : World} (ho : Only q w w') (hq : ∀ k, q k → (∃ o, w.heap[k]? = some o ∧ o.isCells = true) ∨ w.heap.size ≤ k) : KeepsFrom B w w' :=
  ⟨ho.size, fun k o _ hk hc => by
    rw [ho.block k (heap_lt hk) (fun h => ?_)]
    · exact hk
    · rcases hq k h with ⟨o', h1, h2⟩ | h
      · rw [hk] at h1
        injection h1 with h1
        subst h1
        rw [hc] at h2
        cases h2
      · have := heap_lt hk; omega⟩
theorem heap_setCell0 {w : World} {b : Nat} {v : Value} {t : TypeId} (h : w.heap[b]? = some (.cells #[v] t (0, 0))) (u : Value) : (w.setCell ⟨b, 0, none⟩ u).heap[b]? = some (.cells #[u] t (0, 0)) := by
  rw [heap_setCell_same _ _ _ _ _ _ h]; rfl
theorem results_cell1 {fn : Func} {q : Tmp} (h : fn.results = #[.cell q 27]) (tmps : Array Value) (w : World) (g : Nat) (x : Int) (ht : tmps.getD q undef = .pointer (some ⟨g, 0, none⟩)) (hc : w.cell? ⟨g, 0, none⟩ = some (.int .i64 x)) : (results fn tmps).run Try.prog w = .ok (.int .i64 x) w := by
  simp only [Array.getD_eq_getD_getElem?] at ht
  simp [results, h, go_sem, ht, hc]
theorem there_new {b : Nat} {w : World} {Z : Array Value} {t : TypeId} (h : w.heap[b]? = some (.cells Z t (0, 0))) {n : Nat} (hn : n ≤ Z.size) : w.there b 0 n := fun j hj => by
  refine ⟨?_, Lib.frozen_of_heap h _⟩
  rw [Lib.cell_of_heap h]
  simp; omega
theorem yt_range {b : Nat} {w : World} {S : List UInt8} (h : w.rangeAt b 0 (yc S)) (hb : b < w.heap.size) {n : Nat} (hn : n = S.length) : Yt (.slice (some ⟨b, 0, none⟩) n n) S w := by
  subst hn
  refine .inr ⟨b, 0, S.length, rfl, Nat.le_refl _, hb, fun j hj => ?_⟩
  have := h j (.int .u8 ((S.getD j 0).toNat : Int)) (by rw [yc_get]; simp [List.getD, List.getElem?_eq_getElem hj])
  simpa using this
/-- what stands where a round looks -/
def Sb (p gl : Nat) (ep k : Int) (wx w' : World) : Prop :=
  w'.cell? ⟨p, 0, none⟩ = some (.pointer (some ⟨gl, 0, none⟩)) ∧ w'.cell? ⟨gl, 3, none⟩ = some (.int .i64 ep) ∧ w'.cell? ⟨p + 1 + 1, 0, none⟩ = some (.int .i64 k) ∧ Below wx.heap.size wx w'
/-- what stands where a round's write looks -/
def Sc (p gl g : Nat) (k : Int) (w' : World) : Prop :=
  w'.cell? ⟨p, 0, none⟩ = some (.pointer (some ⟨gl, 0, none⟩)) ∧ w'.cell? ⟨gl, 0, none⟩ = some (.pointer (some ⟨g, 0, none⟩)) ∧ w'.cell? ⟨p + 1 + 1, 0, none⟩ = some (.int .i64 k)
theorem wr_grow (ep : Nat) : ∀ (ps : List (List UInt8 × Bool)) (k : Nat) (d : Sm.Dv), Sm.Ok d → -1 ≤ d.left → d.left ≤ 9223372036854775807 → Grow ps.length d (Lm.wr ep ps k d).1
  | [], _, d, ho, l0, l1 => Grow.refl ho l0 l1 0
  | p :: r, k, d, ho, l0, l1 => by
    have h1 := grow_write ho l0 l1 ((2 + k : Nat) : Int) (Lm.fsec ep k p.2 p.1)
    unfold Lm.wr
    split
    · exact h1.le (by simp)
    · have := h1.trans (wr_grow ep r (k + 1) _ h1.ok h1.l0 h1.l1)
      exact this.le (by simp; omega)
set_option maxHeartbeats 4000000 in
set_option maxRecDepth 100000 in
theorem log_writeBatch {gl g : Nat} {ha : Option Addr} {hc : Nat} {ba : Option Addr} {bc : Nat} {vs : List Value} {Y : Nat → Prop} {L : Lm.Lg} {d : Sm.Dv} {F0 : Nat → Prop} {W : World} (a : Option Addr) (n c : Nat) (b : List UInt8) (hl : Lk gl g ha hc ba bc vs Y L W) (hd : DevK g d F0 W) (hap : ¬ F0 gl) (hD : Dl d) (hL : Lok L d)
    (hy : Yt (.slice a n c) b W) (hb : b.length ≤ 65536) (hx : 0 < b.length → ∀ x, a = some x → ¬ F0 x.block) (hroom : L.at_ + (Lm.parts b).length ≤ L.frames) :
    Calls Try.prog 38 #[.pointer (some ⟨gl, 0, none⟩), .slice a n c] W fun e w' => e = .returned (.int .i64 (Lm.putF L.h.epoch (Lm.parts b) L.at_ d).2) ∧ Did DevK g F0 (Lm.putF L.h.epoch (Lm.parts b) L.at_ d).1 W w' := by
  obtain ⟨T, hT⟩ : ∃ T, T = Lm.tg (Lm.parts b) := ⟨_, rfl⟩
  have c0 := hl.c0; have c3 := hl.c3; have c7 := hl.c7
  have hgl := hl.lt gl (.inl rfl)
  obtain ⟨ep, hep⟩ : ∃ n : Int, n = (L.h.epoch : Int) := ⟨_, rfl⟩
  obtain ⟨at_, hat⟩ : ∃ n : Int, n = (L.at_ : Int) := ⟨_, rfl⟩
  rw [← hep] at c3
  rw [← hat] at c7
  have HD := Lib.hid hd; have HDL := Lib.hid hD; have HLO := Lib.hid hL; have HRO := Lib.hid hroom; have HT := Lib.hid hT; have HEP := Lib.hid hep; have HAT := Lib.hid hat
  obtain ⟨wq, hwq⟩ : ∃ wq : List (List UInt8 × Bool) → Sm.Dv × Int, wq = fun l => Lm.wr L.h.epoch l L.at_ d := ⟨_, rfl⟩
  have hTl : T.length ≤ 200 := by rw [hT, Lm.tg_len]; have := hL.f1; have := hD.k; omega
  have hkl : L.at_ + T.length ≤ 200 := by rw [hT, Lm.tg_len]; have := hL.f1; have := hD.k; omega
  have hgrow : ∀ l : List (List UInt8 × Bool), Grow l.length d (wq l).1 := by
    intro l
    rw [hwq]
    exact wr_grow _ _ _ _ (secCon.ok hd) hD.l0 hD.l1
  have hsn : ∀ l x, (wq l).2 = 0 → wq (l ++ [x]) = Sm.write (wq l).1 ((2 + (L.at_ + l.length) : Nat) : Int) (Lm.fsec L.h.epoch (L.at_ + l.length) x.2 x.1) := by
    rw [hwq]; exact fun l x h => Lm.wr_snoc _ _ _ _ _ h
  have hq0 : wq [] = (d, 0) := by rw [hwq]; rfl
  have hqT : wq T = Lm.put L.h.epoch (Lm.parts b) L.at_ d := by rw [hwq, hT]; exact Lm.wr_put _ _ _ _
  have hqS : ∀ l, (wq l).2 ≠ 0 → l <+: T → wq T = wq l := by
    rw [hwq]
    rintro l h ⟨m, rfl⟩
    exact Lm.wr_stop _ _ _ _ _ h
  have HGW := Lib.hid hgrow; have HSN := Lib.hid hsn; have HQ0 := Lib.hid hq0; have HQT := Lib.hid hqT; have HQS := Lib.hid hqS
  have hE : (L.h.epoch : Int) ≤ 4294967295 := by have := hL.ep; omega
  obtain ⟨E, hEE⟩ : ∃ E, E = L.h.epoch := ⟨_, rfl⟩
  rw [← hEE] at hE
  have HEE := Lib.hid hEE; have HE := Lib.hid hE; have HTL := Lib.hid hTl; have HKL := Lib.hid hkl
  have HTT := Lib.hid hT
  have hy0 := hy; have hx0 := hx; have hb0 := hb
  clear hl hd hD hL hroom hT hep hat hwq hTl hkl hgrow hsn hq0 hqT hqS hE hEE hy hx hb
  refine (callsIn_wide (n := 9)).1 ?_
  refine callsIn_of_wp_marks Try.func38 rfl trivial ?_ rfl
  simp only [Try.ntmps38, List.size_toArray, List.length_cons, List.length_nil, Nat.reduceAdd, Nat.reduceSub, Array.replicate_succ, Array.replicate_zero, List.push_toArray, List.append_toArray, List.nil_append, List.cons_append]
  gi_wp2_with (refine ⟨trivial, ?_⟩; gi_at_call 54; refine (callsIn_wide.2 (log_parts a n c _)).mono ?_; rintro e w' ⟨rfl, rfl⟩)
  obtain ⟨p, hp⟩ : ∃ p, p = W.heap.size := ⟨_, rfl⟩
  obtain ⟨W1, hW1⟩ : ∃ W1, W1 = ((((W.alloc (.cells #[.pointer (some ⟨gl, 0, none⟩)] 32)).alloc (.cells #[.int .i64 0] 27)).alloc (.cells #[.int .i64 at_] 3)).alloc (.cells #[.slice a n c] 39)) := ⟨_, rfl⟩
  have hs1 : W1.heap.size = p + 1 + 1 + 1 + 1 := by rw [hW1, hp]; simp
  have hB1 : Below p W W1 := by rw [hW1, hp]; exact ((((Below.refl _ W).alloc (Nat.le_refl _) _).alloc (by simp) _).alloc (by simp; omega) _).alloc (by simp; omega) _
  have hWb : Wb g gl p at_ 0 d F0 W 0 W1 := by
    refine ⟨?_, ?_, ?_, (only_of hB1).mono (fun k hk e => by omega), ⟨F0, secCon.below HD.out (by rw [← hp]; exact hB1), fun k h => .inl h⟩, by omega⟩
    · rw [hW1, Below.heap_alloc _ _ _ (by simp; omega), Below.heap_alloc _ _ _ (by simp; omega), Below.heap_alloc _ _ _ (by simp; omega), hp]; exact heap_alloc_new _ _
    · rw [hW1, Below.heap_alloc _ _ _ (by simp; omega), Below.heap_alloc _ _ _ (by simp; omega)]
      have := heap_alloc_new (W.alloc (.cells #[.pointer (some ⟨gl, 0, none⟩)] 32)) (.cells #[.int .i64 0] 27)
      rw [World.size_alloc, ← hp] at this; exact this
    · rw [hW1, Below.heap_alloc _ _ _ (by simp; omega)]
      have := heap_alloc_new ((W.alloc (.cells #[.pointer (some ⟨gl, 0, none⟩)] 32)).alloc (.cells #[.int .i64 0] 27)) (.cells #[.int .i64 at_] 3)
      rw [World.size_alloc, World.size_alloc, ← hp] at this
      rw [this]; simp
  have hBX : W1.cell? ⟨p + 1 + 1 + 1, 0, none⟩ = some (.slice a n c) := by
    have := heap_alloc_new (((W.alloc (.cells #[.pointer (some ⟨gl, 0, none⟩)] 32)).alloc (.cells #[.int .i64 0] 27)).alloc (.cells #[.int .i64 at_] 3)) (.cells #[.slice a n c] 39)
    rw [World.size_alloc, World.size_alloc, World.size_alloc, ← hp, ← hW1] at this
    rw [Lib.cell_of_heap this]; rfl
  have HP := Lib.hid hp; have HS1 := Lib.hid hs1
  rw [← hW1, ← hp]
  clear hW1 hB1
  refine wpIn_rangeFunc_ownG (α := Pts F0 W) rfl (by omega) (gf := 63) (lb := #[.pointer (some ⟨p + 1 + 1 + 1, 0, none⟩)]) rfl trivial (enters_of Try.func63 (by kernel_rfl) rfl)
    (parts_stops 7 F0 W W1 (p + 1 + 1 + 1) a n c b hy0 hx0 hBX (by omega) hb0) (fun _ _ => trivial) (fun _ _ _ _ _ _ _ _ => trivial) (Below.refl _ _) (fun _ => rfl)
    (fun pre wx => Wb g gl p at_ 0 (wq (pre.map Pts.tag)).1 F0 W pre.length wx ∧ (wq (pre.map Pts.tag)).2 = 0)
    (fun cd pre wx => cd = .ret ∧ ∃ j, Wb g gl p at_ (wq (pre.map Pts.tag)).2 (wq (pre.map Pts.tag)).1 F0 W j wx ∧ (wq (pre.map Pts.tag)).2 ≠ 0)
    (fun s A B row hs hg hr => ⟨hs.1.grown hg (fun r e => ⟨by have := (hr r e).1; omega, (hr r e).2⟩), hs.2⟩)
    (fun cd s A B row hs hg hr => by
      obtain ⟨h1, j, h2, h3⟩ := hs
      exact ⟨h1, j, h2.grown hg (fun r e => ⟨by have := (hr r e).1; omega, (hr r e).2⟩), h3⟩)
    ⟨by rw [List.map_nil, HQ0.out]; exact hWb, by rw [List.map_nil, HQ0.out]⟩
    (fun x => { tmps := #[.pointer (some ⟨gl, 0, none⟩), .slice a n c, .pointer (some ⟨p, 0, none⟩), undef, .pointer (some ⟨p + 1, 0, none⟩), .pointer (some ⟨p + 1 + 1, 0, none⟩), x.1.v, .bool x.1.last, undef, undef, .pointer (some ⟨gl, 0, none⟩), .pointer (some ⟨gl, 0, none⟩), .pointer (some ⟨gl, 7, none⟩), .int .i64 at_, .slice a n c, .func (.func 63) #[] #[.pointer (some ⟨p + 1 + 1 + 1, 0, none⟩)], x.1.v, .bool x.1.last,
      undef, undef, undef, undef, undef, undef, undef, undef, undef, undef, undef, undef, undef, undef, undef, undef, undef, undef, undef, undef, undef, undef, undef, undef, undef, undef, undef, undef], defers := [] }) ?assign ?body ?done ?stop
  case assign =>
    intro l x wx K hK
    clear hp hs1
    gi_wp2
    exact hK
  case body =>
    rintro l pre x wx ⟨hWx, hz⟩ hlen
    obtain ⟨xa, xm, xc, hxv, hxy, hxl, hxF⟩ := x.2
    obtain ⟨pb, hpb⟩ : ∃ pb, pb = x.1.b := ⟨_, rfl⟩
    obtain ⟨lst, hlst⟩ : ∃ lst, lst = x.1.last := ⟨_, rfl⟩
    obtain ⟨X, hX⟩ : ∃ X, X = x.tag := ⟨_, rfl⟩
    have hXX : X = (pb, lst) := by rw [hX, hpb, hlst]
    rw [← hpb] at hxy hxl hxF
    have HMP : Hid ((pre ++ [x]).map Pts.tag = pre.map Pts.tag ++ [(pb, lst)]) := by show _ = _; rw [List.map_append, List.map_singleton, ← hX, hXX]
    rw [hxv, ← hlst]
    clear hp hs1 hpb hlst hX hXX hxv
    obtain ⟨k, hk⟩ : ∃ k, k = L.at_ + pre.length := ⟨_, rfl⟩
    have hkI : at_ + (pre.length : Int) = (k : Int) := by rw [hk, HAT.out]; omega
    rw [← HTT.out] at hlen
    have hk2 : k + 1 ≤ 200 := by have := HKL.out; omega
    obtain ⟨D, hDD⟩ : ∃ D, D = (wq (pre.map Pts.tag)).1 := ⟨_, rfl⟩
    obtain ⟨S, hS⟩ : ∃ S, S = Lm.fsec E k lst pb := ⟨_, rfl⟩
    have hSl : S.length = 64 := by rw [hS]; exact Lm.fsec_length hxl
    have hsn := HSN.out (pre.map Pts.tag) (pb, lst) hz
    rw [List.length_map, ← hk, ← HEE.out, ← hDD] at hsn
    dsimp only at hsn
    rw [← hS] at hsn
    have hgr := HGW.out (pre.map Pts.tag)
    rw [← hDD, List.length_map] at hgr
    have hlim : Lim D := ⟨by have := hgr.w; have := HDL.out.w; have := HTL.out; omega, by have := hgr.c0; have := HDL.out.c0; omega, by have := hgr.c1; have := HDL.out.c1; have := HTL.out; omega, hgr.l0, hgr.l1⟩
    rw [← hDD] at hWx
    have hon := hWx.on
    obtain ⟨F1, hd1, hf1⟩ := hWx.dev
    have hyx : Yt (.slice xa xm xc) pb wx := hxy.keepO hon hxF
    have hFn : ∀ q, p ≤ q → q < p + 1 + 1 + 1 + 1 → ¬ F1 q := fun q h1 h2 hq => by
      rcases hf1 q hq with h | h
      · have := secCon.lt HD.out q h; have := HP.out; omega
      · omega
    have hFg : ¬ F1 gl := fun hq => by
      rcases hf1 gl hq with h | h
      · exact hap h
      · have := HP.out; omega
    have k2 : wx.cell? ⟨p, 0, none⟩ = some (.pointer (some ⟨gl, 0, none⟩)) := by rw [Lib.cell_of_heap hWx.h2]; rfl
    have k5 : wx.cell? ⟨p + 1 + 1, 0, none⟩ = some (.int .i64 (k : Int)) := by rw [Lib.cell_of_heap hWx.h5, hkI]; rfl
    have g0 : wx.cell? ⟨gl, 0, none⟩ = some (.pointer (some ⟨g, 0, none⟩)) := (cell_only hon (q := ⟨gl, 0, none⟩) hgl hap).trans c0
    have g3 : wx.cell? ⟨gl, 3, none⟩ = some (.int .i64 ep) := (cell_only hon (q := ⟨gl, 3, none⟩) hgl hap).trans c3
    have hglx : gl < wx.heap.size := by have := hon.size; omega
    have hpx : p + 1 + 1 < wx.heap.size := heap_lt hWx.h5
    have HFB : Hid (∀ w, Below wx.heap.size wx w → Calls Try.prog 55 #[.agg #[.int .i64 ep, .int .i64 (k : Int), .bool lst, .slice xa xm xc]] w fun e w' => e = .returned (.agg (yc S).toArray) ∧ Below w.heap.size w w') := fun w hbw => by
      rw [HEP.out, ← HEE.out, hS]; exact log_fblock E k lst xa xm xc pb w HE.out (by omega) hxl (hyx.keep hbw)
    obtain ⟨M, hM⟩ : ∃ M : Int, M = ((2 + k : Nat) : Int) := ⟨_, rfl⟩
    rw [← hM] at hsn
    have hMk : (2 : Int) + (k : Int) = M := by rw [hM]; omega
    have hwM : IntKind.i64.wrap M = M := by rw [IntKind.wrap_i64]; omega
    obtain ⟨D2, hD2⟩ : ∃ D2, D2 = (Sm.write D M S).1 := ⟨_, rfl⟩
    obtain ⟨C2, hC2⟩ : ∃ C2, C2 = (Sm.write D M S).2 := ⟨_, rfl⟩
    have hw2 : wq (pre.map Pts.tag ++ [(pb, lst)]) = (D2, C2) := by rw [hsn, hD2, hC2]
    have HWR : Hid (∀ (w : World) (b : Nat), DevK g D F1 w → Yt (.slice (some ⟨b, 0, none⟩) 64 64) S w → ¬ F1 b → Calls Try.prog 20 #[.pointer (some ⟨g, 0, none⟩), .int .i64 M, .slice (some ⟨b, 0, none⟩) 64 64] w fun e w' => e = .returned (.int .i64 C2) ∧ Did DevK g F1 D2 w w') := fun w b hdv hyt hbF => by
      have := secCon.write M (some ⟨b, 0, none⟩) 64 64 S hdv hlim hyt (by omega) (fun _ x e => by injection e with e; subst e; exact hbF)
      rw [hD2, hC2]; exact this
    obtain ⟨z, Z, hzr, hZ, hZs⟩ : ∃ (z : Value) (Z : Array Value), (∀ w, (zeroValue 93).run Try.prog w = .ok z w) ∧ z.cells = Z ∧ Z.size = 64 := ⟨_, z64, (zero_of_info infoLz).1, rfl, Array.size_replicate⟩
    have HZ := Lib.hid hzr; have HZ1 := Lib.hid hZ; have HZS := Lib.hid hZs; have HSL := Lib.hid hSl; have HW2 := Lib.hid hw2; have HWX := Lib.hid hWx; have HWS := Lib.hid hWx.sz; have HD1 := Lib.hid hd1; have HF1 := Lib.hid hf1; have HFN := Lib.hid hFn; have HFG := Lib.hid hFg; have HON := Lib.hid hon; have HK := Lib.hid hk; have HKI := Lib.hid hkI
    have SB : Hid (∀ w', Below wx.heap.size wx w' → Sb p gl ep (k : Int) wx w') := fun w' hb => ⟨(hb.cell (p := ⟨p, 0, none⟩) (by show p < _; omega)).trans k2, (hb.cell (p := ⟨gl, 3, none⟩) hglx).trans g3, (hb.cell (p := ⟨p + 1 + 1, 0, none⟩) hpx).trans k5, hb⟩
    have hk3 : (k : Int) ≤ 200 := by omega
    have HK5 := Lib.hid k5; have HK2 := Lib.hid k2; have HG0 := Lib.hid g0; have HPX := Lib.hid hpx; have HGX := Lib.hid hglx; have HMK := Lib.hid hMk
    clear hzr hZ hZs hSl hw2 hWx hd1 hf1 hFn hFg hon hk hkI hz hlen hxy hxl hxF hsn hgr hlim hyx hM hD2 hC2 hDD hS k2 k5 g0 g3 hk2 hpx hglx
    gi_wp2
    refine region_round (Sb p gl ep (k : Int) wx) (by kernel_rfl) (by kernel_rfl) (SB.out _ (below_drew0 _)) (fun _ => ?_)
    have S0 := Lib.hid (SB.out _ (below_drew0 wx))
    refine wpAnyH_take (i := 0) (v := ?v1) rfl (by kernel_rfl) (by kernel_rfl) (by kernel_rfl) (fun _ _ _ h => h) (Or.inl ⟨by rfl, ?hy1⟩) S0.out ?rest1
    case hy1 => (intro w' hSw; obtain ⟨_, _, _, _⟩ := hSw; go_simp; with_reducible rfl)
    try simp only [Act.put, List.getElem_toArray, List.getElem_cons_zero, List.setIfInBounds_toArray, List.set_cons_zero, List.set_cons_succ]
    refine wpAnyH_take (i := 1) (v := ?v2) rfl (by kernel_rfl) (by kernel_rfl) (by kernel_rfl) (fun _ _ _ h => h) (Or.inl ⟨by rfl, ?hy2⟩) S0.out ?rest2
    case hy2 => (intro w' hSw; obtain ⟨_, _, _, _⟩ := hSw; go_simp; with_reducible rfl)
    try simp only [Act.put, List.getElem_toArray, List.getElem_cons_succ, List.getElem_cons_zero, List.setIfInBounds_toArray, List.set_cons_zero, List.set_cons_succ]
    refine wpAnyH_take (i := 2) (v := ?v3) rfl (by kernel_rfl) (by kernel_rfl) (by kernel_rfl) (fun _ _ _ h => h) (Or.inl ⟨by rfl, ?hy3⟩) S0.out ?rest3
    case hy3 => (intro w' hSw; obtain ⟨_, _, _, _⟩ := hSw; go_simp; with_reducible rfl)
    try simp only [Act.put, List.getElem_toArray, List.getElem_cons_succ, List.getElem_cons_zero, List.setIfInBounds_toArray, List.set_cons_zero, List.set_cons_succ]
    refine wpAnyH_take (i := 3) (v := ?v4) rfl (by kernel_rfl) (by kernel_rfl) (by kernel_rfl) (fun _ _ _ h => h) (Or.inl ⟨by rfl, ?hy4⟩) S0.out ?rest4
    case hy4 => (intro w' hSw; obtain ⟨_, _, _, _⟩ := hSw; go_simp; with_reducible rfl)
    try simp only [Act.put, List.getElem_toArray, List.getElem_cons_succ, List.getElem_cons_zero, List.setIfInBounds_toArray, List.set_cons_zero, List.set_cons_succ]
    refine wpAnyH_take (i := 4) (v := ?v5) rfl (by kernel_rfl) (by kernel_rfl) (by kernel_rfl) (fun _ _ _ h => h) (Or.inl ⟨by rfl, ?hy5⟩) S0.out ?rest5
    case hy5 => (intro w' hSw; obtain ⟨_, _, _, _⟩ := hSw; go_simp; with_reducible rfl)
    try simp only [Act.put, List.getElem_toArray, List.getElem_cons_succ, List.getElem_cons_zero, List.setIfInBounds_toArray, List.set_cons_zero, List.set_cons_succ]
    refine wpAnyH_take (i := 5) (v := ?v6) rfl (by kernel_rfl) (by kernel_rfl) (by kernel_rfl) (fun _ _ _ h => h) (Or.inl ⟨by rfl, ?hy6⟩) S0.out ?rest6
    case hy6 => (intro w' hSw; obtain ⟨_, _, _, _⟩ := hSw; go_simp; with_reducible rfl)
    try simp only [Act.put, List.getElem_toArray, List.getElem_cons_succ, List.getElem_cons_zero, List.setIfInBounds_toArray, List.set_cons_zero, List.set_cons_succ]
    refine wpAnyH_take (i := 6) (v := ?v7) rfl (by kernel_rfl) (by kernel_rfl) (by kernel_rfl) (fun _ _ _ h => h) (Or.inl ⟨by rfl, ?hy7⟩) S0.out ?rest7
    case hy7 => (intro w' hSw; obtain ⟨_, _, _, _⟩ := hSw; go_simp; with_reducible rfl)
    try simp only [Act.put, List.getElem_toArray, List.getElem_cons_succ, List.getElem_cons_zero, List.setIfInBounds_toArray, List.set_cons_zero, List.set_cons_succ]
    refine wpAnyH_take (i := 7) (v := ?v8) rfl (by kernel_rfl) (by kernel_rfl) (by kernel_rfl) (fun _ _ _ h => h) (Or.inl ⟨by rfl, ?hy8⟩) S0.out ?rest8
    case hy8 => (intro w' hSw; obtain ⟨_, _, _, _⟩ := hSw; go_simp; with_reducible rfl)
    try simp only [Act.put, List.getElem_toArray, List.getElem_cons_succ, List.getElem_cons_zero, List.setIfInBounds_toArray, List.set_cons_zero, List.set_cons_succ]
    refine wpAnyH_take (i := 8) (v := ?v9) rfl (by kernel_rfl) (by kernel_rfl) (by kernel_rfl) (fun _ _ _ h => h) (Or.inl ⟨by rfl, ?hy9⟩) S0.out ?rest9
    case hy9 => (intro w' hSw; obtain ⟨_, _, _, _⟩ := hSw; go_simp; with_reducible rfl)
    try simp only [Act.put, List.getElem_toArray, List.getElem_cons_succ, List.getElem_cons_zero, List.setIfInBounds_toArray, List.set_cons_zero, List.set_cons_succ]
    refine wpAnyH_ready (rs := [9, 10]) (by kernel_rfl) (by simp) ?_
    refine AllReadyH.cons rfl (fun K hK => ?_) ?_
    · go_simp
      go_wp2_with (go_at_call 55; refine (HFB.out _ (below_drew0 _)).mono ?_; rintro e w5 ⟨rfl, hb5⟩)
      have HB5 : Hid (Below wx.heap.size wx w5) := (below_drew0 _ : Below wx.heap.size wx wx.drew).trans hb5
      have S1 := Lib.hid (SB.out _ HB5.out)
      refine hK.out _ _ S1.out (fun _ => ?_)
      clear hK K
      try simp only [Act.put, List.getElem_toArray, List.getElem_cons_succ, List.getElem_cons_zero, List.setIfInBounds_toArray, List.set_cons_zero, List.set_cons_succ]
      refine wpAnyH_ready (rs := [10]) (by kernel_rfl) (by simp) ?_
      refine AllReadyH.cons rfl (fun K hK => ?_) AllReadyH.nil
      refine step_alloc_of rfl 93 rfl z Z HZ.out HZ1.out ?_
      have HB6 : Hid (Below wx.heap.size wx (w5.alloc (.cells Z 93))) := HB5.out.alloc HB5.out.size _
      have S2 := Lib.hid (SB.out _ HB6.out)
      refine hK.out _ _ S2.out (fun _ => ?_)
      clear hK K
      try simp only [Act.put, List.getElem_toArray, List.getElem_cons_succ, List.getElem_cons_zero, List.setIfInBounds_toArray, List.set_cons_zero, List.set_cons_succ]
      refine wpAnyH_ready (rs := [11]) (by kernel_rfl) (by simp) ?_
      refine AllReadyH.cons rfl (fun K hK => ?_) AllReadyH.nil
      obtain ⟨q, hq⟩ : ∃ q, q = w5.heap.size := ⟨_, rfl⟩
      have HQ : Hid (wx.heap.size ≤ q) := by rw [hq]; exact HB5.out.size
      obtain ⟨w6, hw6⟩ : ∃ w6, w6 = w5.alloc (.cells Z 93) := ⟨_, rfl⟩
      have HQ6 : Hid (w6.heap[q]? = some (.cells Z 93 (0, 0))) := by show _ = _; rw [hw6, hq]; exact heap_alloc_new _ _
      rw [← hw6] at HB6 ⊢
      rw [← hq]
      clear hq hw6 hb5 S0 S1 S2
      refine step_store_mid rfl 93 (.tmp 8) (.tmp 27) rfl q 0 (yc S) rfl rfl (there_new HQ6.out (by rw [yc_length, HSL.out, HZS.out]; exact Nat.le_refl _)) (by rw [yc_length, HSL.out]; exact infoL2) (yc_one S) ?_
      have HB7 : Hid (Below wx.heap.size wx (w6.setCells q 0 (yc S))) := only_bel ((only_of HB6.out).setCells (.inl HQ.out) 0 (yc S)) (Nat.le_refl _) (fun k hk hp => by omega)
      have S3 := Lib.hid (SB.out _ HB7.out)
      refine hK.out _ _ S3.out (fun _ => ?_)
      clear hK K
      try simp only [Act.put, List.getElem_toArray, List.getElem_cons_succ, List.getElem_cons_zero]
      refine wpAnyH_done (by kernel_rfl) ?_ _
      refine Calm.normal ?_
      have HYB : Hid (Yt (.slice (some ⟨q, 0, none⟩) 64 64) S (w6.setCells q 0 (yc S))) := yt_range (World.rangeAt_setCells_same _ _ _ _ (there_new HQ6.out (by rw [yc_length, HSL.out, HZS.out]; exact Nat.le_refl _))) (by rw [size_setCells]; exact heap_lt HQ6.out) HSL.out.symm
      obtain ⟨w7, hw7⟩ : ∃ w7, w7 = w6.setCells q 0 (yc S) := ⟨_, rfl⟩
      rw [← hw7] at HB7 HYB ⊢
      clear hw7 S3 HQ6 HB6
      have HD7 : Hid (DevK g D F1 w7) := secCon.below HD1.out HB7.out
      have SC : Hid (∀ w', w'.cell? ⟨p, 0, none⟩ = w7.cell? ⟨p, 0, none⟩ → w'.cell? ⟨gl, 0, none⟩ = w7.cell? ⟨gl, 0, none⟩ → w'.cell? ⟨p + 1 + 1, 0, none⟩ = w7.cell? ⟨p + 1 + 1, 0, none⟩ → Sc p gl g (k : Int) w') := fun w' h1 h2 h3 =>
        ⟨h1.trans (SB.out _ HB7.out).1, h2.trans ((HB7.out.cell (p := ⟨gl, 0, none⟩) HGX.out).trans HG0.out), h3.trans (SB.out _ HB7.out).2.2.1⟩
      have HQF : Hid (¬ F1 q) := fun hq => by have := secCon.lt HD1.out q hq; have := HQ.out; omega
      gi_wp2
      refine region_round (Sc p gl g (k : Int)) (by kernel_rfl) (by kernel_rfl) (SC.out _ rfl rfl rfl) (fun _ => ?_)
      have S0 := Lib.hid (SC.out w7.drew rfl rfl rfl)
      refine wpAnyH_take (i := 0) (v := ?v10) rfl (by kernel_rfl) (by kernel_rfl) (by kernel_rfl) (fun _ _ _ h => h) (Or.inl ⟨by rfl, ?hy10⟩) S0.out ?rest10
      case hy10 => (intro w' hSw; obtain ⟨_, _, _⟩ := hSw; go_simp; with_reducible rfl)
      try simp only [Act.put, List.getElem_toArray, List.getElem_cons_zero, List.setIfInBounds_toArray, List.set_cons_zero, List.set_cons_succ]
      refine wpAnyH_take (i := 1) (v := ?v11) rfl (by kernel_rfl) (by kernel_rfl) (by kernel_rfl) (fun _ _ _ h => h) (Or.inl ⟨by rfl, ?hy11⟩) S0.out ?rest11
      case hy11 => (intro w' hSw; obtain ⟨_, _, _⟩ := hSw; go_simp; with_reducible rfl)
      try simp only [Act.put, List.getElem_toArray, List.getElem_cons_succ, List.getElem_cons_zero, List.setIfInBounds_toArray, List.set_cons_zero, List.set_cons_succ]
      refine wpAnyH_take (i := 2) (v := ?v12) rfl (by kernel_rfl) (by kernel_rfl) (by kernel_rfl) (fun _ _ _ h => h) (Or.inl ⟨by rfl, ?hy12⟩) S0.out ?rest12
      case hy12 => (intro w' hSw; obtain ⟨_, _, _⟩ := hSw; go_simp; with_reducible rfl)
      try simp only [Act.put, List.getElem_toArray, List.getElem_cons_succ, List.getElem_cons_zero, List.setIfInBounds_toArray, List.set_cons_zero, List.set_cons_succ]
      refine wpAnyH_take (i := 3) (v := ?v13) rfl (by kernel_rfl) (by kernel_rfl) (by kernel_rfl) (fun _ _ _ h => h) (Or.inl ⟨by rfl, ?hy13⟩) S0.out ?rest13
      case hy13 => (intro w' hSw; obtain ⟨_, _, _⟩ := hSw; go_simp; with_reducible rfl)
      try simp only [Act.put, List.getElem_toArray, List.getElem_cons_succ, List.getElem_cons_zero, List.setIfInBounds_toArray, List.set_cons_zero, List.set_cons_succ]
      refine wpAnyH_take (i := 4) (v := ?v14) rfl (by kernel_rfl) (by kernel_rfl) (by kernel_rfl) (fun _ _ _ h => h) (Or.inl ⟨by rfl, ?hy14⟩) S0.out ?rest14
      case hy14 => (intro w' hSw; obtain ⟨_, _, _⟩ := hSw; go_simp; with_reducible rfl)
      try simp only [Act.put, List.getElem_toArray, List.getElem_cons_succ, List.getElem_cons_zero, List.setIfInBounds_toArray, List.set_cons_zero, List.set_cons_succ]
      refine wpAnyH_take (i := 5) (v := ?v15) rfl (by kernel_rfl) (by kernel_rfl) (by kernel_rfl) (fun _ _ _ h => h) (Or.inl ⟨by rfl, ?hy15⟩) S0.out ?rest15
      case hy15 => (intro w' hSw; obtain ⟨_, _, _⟩ := hSw; go_simp; with_reducible rfl)
      try simp only [Act.put, List.getElem_toArray, List.getElem_cons_succ, List.getElem_cons_zero, List.setIfInBounds_toArray, List.set_cons_zero, List.set_cons_succ]
      refine wpAnyH_take (i := 6) (v := ?v16) rfl (by kernel_rfl) (by kernel_rfl) (by kernel_rfl) (fun _ _ _ h => h) (Or.inl ⟨by rfl, ?hy16⟩) S0.out ?rest16
      case hy16 => (intro w' hSw; obtain ⟨_, _, _⟩ := hSw; go_simp; with_reducible rfl)
      try simp only [Act.put, List.getElem_toArray, List.getElem_cons_succ, List.getElem_cons_zero, List.setIfInBounds_toArray, List.set_cons_zero, List.set_cons_succ]
      refine wpAnyH_ready (rs := [7]) (by kernel_rfl) (by simp) ?_
      refine AllReadyH.cons rfl (fun K hK => ?_) AllReadyH.nil
      go_simp
      go_wp2_with (go_at_call 20; refine (HWR.out _ q (secCon.below HD7.out (below_drew0 _)) (HYB.out.keep (below_drew0 _)) HQF.out).mono ?_; rintro e w8 ⟨rfl, F2, hd8, ho8, hf8⟩)
      have HD8 := Lib.hid hd8
      have HO8 : Hid (Only F1 w7 w8) := ((Only.refl F1 w7).drew).trans ho8
      have HF8 : Hid (∀ k, F2 k → F1 k ∨ w7.heap.size ≤ k) := hf8
      clear hd8 ho8 hf8
      have S1 := Lib.hid (SC.out w8 (cell_only HO8.out (q := ⟨p, 0, none⟩) (by show p < _; have := HPX.out; have := HB7.out.size; omega) (HFN.out p (Nat.le_refl _) (by omega))) (cell_only HO8.out (q := ⟨gl, 0, none⟩) (by show gl < _; have := HGX.out; have := HB7.out.size; omega) HFG.out) (cell_only HO8.out (q := ⟨p + 1 + 1, 0, none⟩) (by show p + 1 + 1 < _; have := HPX.out; have := HB7.out.size; omega) (HFN.out (p + 1 + 1) (by omega) (by omega))))
      refine hK.out _ _ S1.out (fun _ => ?_)
      clear hK K
      try simp only [Act.put, List.getElem_toArray, List.getElem_cons_succ, List.getElem_cons_zero, List.setIfInBounds_toArray, List.set_cons_zero, List.set_cons_succ]
      refine wpAnyH_take (i := 8) (v := ?v17) rfl (by kernel_rfl) (by kernel_rfl) (by kernel_rfl) (fun _ _ _ h => h) (Or.inl ⟨by rfl, ?hy17⟩) S1.out ?rest17
      case hy17 => (intro w' hSw; obtain ⟨_, _, _⟩ := hSw; go_simp; with_reducible rfl)
      try simp only [Act.put, List.getElem_toArray, List.getElem_cons_succ, List.getElem_cons_zero, List.setIfInBounds_toArray, List.set_cons_zero, List.set_cons_succ]
      refine wpAnyH_done (by kernel_rfl) ?_ _
      refine Calm.normal ?_
      have HOX : Hid (Only (fun k => F1 k ∨ wx.heap.size ≤ k) wx w8) := ((only_of HB7.out).mono (q := fun k => F1 k ∨ wx.heap.size ≤ k) (fun k _ h => .inr h)).trans (HO8.out.mono (fun k _ h => .inl h))
      have b4 : Hid (w8.heap[p + 1]? = some (.cells #[.int .i64 0] 27 (0, 0))) := (HOX.out.block _ (by have := HPX.out; omega) (fun h => by rcases h with h | h; exact HFN.out _ (by omega) (by omega) h; have := HPX.out; omega)).trans HWX.out.h4
      have b5 : Hid (w8.heap[p + 1 + 1]? = some (.cells #[.int .i64 (k : Int)] 3 (0, 0))) := (HOX.out.block _ HPX.out (fun h => by rcases h with h | h; exact HFN.out _ (by omega) (by omega) h; have := HPX.out; omega)).trans (by rw [HWX.out.h5, HKI.out])
      have b2 : Hid (w8.heap[p]? = some (.cells #[.pointer (some ⟨gl, 0, none⟩)] 32 (0, 0))) := (HOX.out.block _ (by have := HPX.out; omega) (fun h => by rcases h with h | h; exact HFN.out _ (by omega) (by omega) h; have := HPX.out; omega)).trans HWX.out.h2
      have m4 : w8.cell? ⟨p + 1, 0, none⟩ = some (.int .i64 0) := by rw [Lib.cell_of_heap b4.out]; rfl
      have m5 : w8.cell? ⟨p + 1 + 1, 0, none⟩ = some (.int .i64 (k : Int)) := by rw [Lib.cell_of_heap b5.out]; rfl
      have f4 : w8.frozen? ⟨p + 1, 0, none⟩ = false := Lib.frozen_of_heap b4.out _
      have f5 : w8.frozen? ⟨p + 1 + 1, 0, none⟩ = false := Lib.frozen_of_heap b5.out _
      have HONX : Hid (Only F0 W w8) := HON.out.trans' HOX.out (fun k hk => by
        rcases hk with h | h
        · rcases HF1.out k h with h | h
          · exact .inl h
          · exact .inr (by have := HP.out; omega)
        · exact .inr (by have := HON.out.size; omega))
      have HF2 : Hid (∀ k, F2 k → F0 k ∨ p + 1 + 1 + 1 + 1 ≤ k) := fun k hk => by
        rcases HF8.out k hk with h | h
        · exact HF1.out k h
        · have := HB7.out.size; have := HWS.out; exact .inr (by omega)
      have HF2N : Hid (∀ q, p ≤ q → q < p + 1 + 1 + 1 + 1 → ¬ F2 q) := fun q h1 h2 hq => by
        rcases HF8.out q hq with h | h
        · exact HFN.out q h1 h2 h
        · have := HB7.out.size; have := HWS.out; omega
      clear S0 S1 SC HYB
      by_cases hc2 : C2 = 0
      case neg =>
        have q1 : (C2 != 0) = true := by simp [hc2]
        gi_wp2
        have hfin : Only (fun k => (F1 k ∨ wx.heap.size ≤ k) ∨ k = p + 1) wx (w8.setCell ⟨p + 1, 0, none⟩ (.int .i64 C2)) := (HOX.out.mono (fun k _ h => .inl h)).setCell (p := fun k => (F1 k ∨ wx.heap.size ≤ k) ∨ k = p + 1) (q := ⟨p + 1, 0, none⟩) (.inl (.inr rfl)) _
        refine ⟨keeps_of' hfin (fun k hk => ?_), rfl, pre.length, ⟨?_, ?_, ?_, ?_, ⟨F2, ?_, ?_⟩, ?_⟩, ?_⟩
        · rcases hk with (hk | hk) | rfl
          · exact .inl (dev_cells HD1.out k hk)
          · exact .inr hk
          · exact .inl ⟨_, HWX.out.h4, rfl⟩
        · rw [Below.heap_setCell _ _ _ _ (by show p ≠ p + 1; omega)]; exact b2.out
        · rw [HMP.out, HW2.out]; exact heap_setCell0 b4.out _
        · rw [Below.heap_setCell _ _ _ _ (by show p + 1 + 1 ≠ p + 1; omega), HKI.out]; exact b5.out
        · exact HONX.out.setCell (q := ⟨p + 1, 0, none⟩) (.inr (by have := HP.out; show _ ≤ p + 1; omega)) _
        · rw [HMP.out, HW2.out]; exact secCon.keep (p := fun k => k = p + 1) HD8.out (only_cell _ _ _ _) (fun k hk e => HF2N.out _ (by omega) (by omega) (e ▸ hk))
        · exact HF2.out
        · have := HB7.out.size; have := HWS.out; have := HO8.out.size; have := hfin.size; omega
        · rw [HMP.out, HW2.out]; exact hc2
      case pos =>
        subst hc2
        gi_wp2
        have hfin : Only (fun k => (F1 k ∨ wx.heap.size ≤ k) ∨ k = p + 1 + 1) wx (w8.setCell ⟨p + 1 + 1, 0, none⟩ (.int .i64 ((k : Int) + 1))) := (HOX.out.mono (fun k _ h => .inl h)).setCell (p := fun k => (F1 k ∨ wx.heap.size ≤ k) ∨ k = p + 1 + 1) (q := ⟨p + 1 + 1, 0, none⟩) (.inl (.inr rfl)) _
        refine ⟨keeps_of' hfin (fun k hk => ?_), trivial, ⟨?_, ?_, ?_, ?_, ⟨F2, ?_, ?_⟩, ?_⟩, ?_⟩
        · rcases hk with (hk | hk) | rfl
          · exact .inl (dev_cells HD1.out k hk)
          · exact .inr hk
          · exact .inl ⟨_, HWX.out.h5, rfl⟩
        · rw [Below.heap_setCell _ _ _ _ (by show p ≠ p + 1 + 1; omega)]; exact b2.out
        · rw [Below.heap_setCell _ _ _ _ (by show p + 1 ≠ p + 1 + 1; omega)]; exact b4.out
        · rw [List.length_append, List.length_singleton, heap_setCell0 b5.out, show at_ + ((pre.length + 1 : Nat) : Int) = (k : Int) + 1 by have := HKI.out; omega]
        · exact HONX.out.setCell (q := ⟨p + 1 + 1, 0, none⟩) (.inr (by have := HP.out; show _ ≤ p + 1 + 1; omega)) _
        · rw [HMP.out, HW2.out]; exact secCon.keep (p := fun k => k = p + 1 + 1) HD8.out (only_cell _ _ _ _) (fun k hk e => HF2N.out _ (by omega) (by omega) (e ▸ hk))
        · exact HF2.out
        · have := HB7.out.size; have := HWS.out; have := HO8.out.size; have := hfin.size; omega
        · rw [HMP.out, HW2.out]
    refine AllReadyH.cons rfl (fun K hK => ?_) AllReadyH.nil
    refine step_alloc_of rfl 93 rfl z Z HZ.out HZ1.out ?_
    have HB5 : Hid (Below wx.heap.size wx (wx.drew.alloc (.cells Z 93))) := (below_drew0 _ : Below wx.heap.size wx wx.drew).alloc (Nat.le_refl _) _
    have S1 := Lib.hid (SB.out _ HB5.out)
    refine hK.out _ _ S1.out (fun _ => ?_)
    clear hK K
    try simp only [Act.put, List.getElem_toArray, List.getElem_cons_succ, List.getElem_cons_zero, List.setIfInBounds_toArray, List.set_cons_zero, List.set_cons_succ]
    refine wpAnyH_ready (rs := [9]) (by kernel_rfl) (by simp) ?_
    refine AllReadyH.cons rfl (fun K hK => ?_) AllReadyH.nil
    go_simp
    go_wp2_with (go_at_call 55; refine (HFB.out _ (HB5.out)).mono ?_; rintro e w6 ⟨rfl, hb6⟩)
    have HB6 : Hid (Below wx.heap.size wx w6) := HB5.out.trans (hb6.mono HB5.out.size)
    have S2 := Lib.hid (SB.out _ HB6.out)
    refine hK.out _ _ S2.out (fun _ => ?_)
    clear hK K
    try simp only [Act.put, List.getElem_toArray, List.getElem_cons_succ, List.getElem_cons_zero, List.setIfInBounds_toArray, List.set_cons_zero, List.set_cons_succ]
    refine wpAnyH_ready (rs := [11]) (by kernel_rfl) (by simp) ?_
    refine AllReadyH.cons rfl (fun K hK => ?_) AllReadyH.nil
    obtain ⟨q, hq⟩ : ∃ q, q = wx.heap.size := ⟨_, rfl⟩
    have HQ : Hid (wx.heap.size ≤ q) := by rw [hq]; exact Nat.le_refl _
    have HQ6 : Hid (w6.heap[q]? = some (.cells Z 93 (0, 0))) := by
      show _ = _
      rw [hb6.block q (by rw [hq]; simp), hq]; exact heap_alloc_new wx.drew _
    rw [← hq]
    clear hq hb6 S0 S1 S2 HB5
    refine step_store_mid rfl 93 (.tmp 8) (.tmp 27) rfl q 0 (yc S) rfl rfl (there_new HQ6.out (by rw [yc_length, HSL.out, HZS.out]; exact Nat.le_refl _)) (by rw [yc_length, HSL.out]; exact infoL2) (yc_one S) ?_
    have HB7 : Hid (Below wx.heap.size wx (w6.setCells q 0 (yc S))) := only_bel ((only_of HB6.out).setCells (.inl HQ.out) 0 (yc S)) (Nat.le_refl _) (fun k hk hp => by omega)
    have S3 := Lib.hid (SB.out _ HB7.out)
    refine hK.out _ _ S3.out (fun _ => ?_)
    clear hK K
    try simp only [Act.put, List.getElem_toArray, List.getElem_cons_succ, List.getElem_cons_zero]
    refine wpAnyH_done (by kernel_rfl) ?_ _
    refine Calm.normal ?_
    have HYB : Hid (Yt (.slice (some ⟨q, 0, none⟩) 64 64) S (w6.setCells q 0 (yc S))) := yt_range (World.rangeAt_setCells_same _ _ _ _ (there_new HQ6.out (by rw [yc_length, HSL.out, HZS.out]; exact Nat.le_refl _))) (by rw [size_setCells]; exact heap_lt HQ6.out) HSL.out.symm
    obtain ⟨w7, hw7⟩ : ∃ w7, w7 = w6.setCells q 0 (yc S) := ⟨_, rfl⟩
    rw [← hw7] at HB7 HYB ⊢
    clear hw7 S3 HQ6 HB6
    have HD7 : Hid (DevK g D F1 w7) := secCon.below HD1.out HB7.out
    have SC : Hid (∀ w', w'.cell? ⟨p, 0, none⟩ = w7.cell? ⟨p, 0, none⟩ → w'.cell? ⟨gl, 0, none⟩ = w7.cell? ⟨gl, 0, none⟩ → w'.cell? ⟨p + 1 + 1, 0, none⟩ = w7.cell? ⟨p + 1 + 1, 0, none⟩ → Sc p gl g (k : Int) w') := fun w' h1 h2 h3 =>
      ⟨h1.trans (SB.out _ HB7.out).1, h2.trans ((HB7.out.cell (p := ⟨gl, 0, none⟩) HGX.out).trans HG0.out), h3.trans (SB.out _ HB7.out).2.2.1⟩
    have HQF : Hid (¬ F1 q) := fun hq => by have := secCon.lt HD1.out q hq; have := HQ.out; omega
    gi_wp2
    refine region_round (Sc p gl g (k : Int)) (by kernel_rfl) (by kernel_rfl) (SC.out _ rfl rfl rfl) (fun _ => ?_)
    have S0 := Lib.hid (SC.out w7.drew rfl rfl rfl)
    refine wpAnyH_take (i := 0) (v := ?u10) rfl (by kernel_rfl) (by kernel_rfl) (by kernel_rfl) (fun _ _ _ h => h) (Or.inl ⟨by rfl, ?hz10⟩) S0.out ?rust10
    case hz10 => (intro w' hSw; obtain ⟨_, _, _⟩ := hSw; go_simp; with_reducible rfl)
    try simp only [Act.put, List.getElem_toArray, List.getElem_cons_zero, List.setIfInBounds_toArray, List.set_cons_zero, List.set_cons_succ]
    refine wpAnyH_take (i := 1) (v := ?u11) rfl (by kernel_rfl) (by kernel_rfl) (by kernel_rfl) (fun _ _ _ h => h) (Or.inl ⟨by rfl, ?hz11⟩) S0.out ?rust11
    case hz11 => (intro w' hSw; obtain ⟨_, _, _⟩ := hSw; go_simp; with_reducible rfl)
    try simp only [Act.put, List.getElem_toArray, List.getElem_cons_succ, List.getElem_cons_zero, List.setIfInBounds_toArray, List.set_cons_zero, List.set_cons_succ]
    refine wpAnyH_take (i := 2) (v := ?u12) rfl (by kernel_rfl) (by kernel_rfl) (by kernel_rfl) (fun _ _ _ h => h) (Or.inl ⟨by rfl, ?hz12⟩) S0.out ?rust12
    case hz12 => (intro w' hSw; obtain ⟨_, _, _⟩ := hSw; go_simp; with_reducible rfl)
    try simp only [Act.put, List.getElem_toArray, List.getElem_cons_succ, List.getElem_cons_zero, List.setIfInBounds_toArray, List.set_cons_zero, List.set_cons_succ]
    refine wpAnyH_take (i := 3) (v := ?u13) rfl (by kernel_rfl) (by kernel_rfl) (by kernel_rfl) (fun _ _ _ h => h) (Or.inl ⟨by rfl, ?hz13⟩) S0.out ?rust13
    case hz13 => (intro w' hSw; obtain ⟨_, _, _⟩ := hSw; go_simp; with_reducible rfl)
    try simp only [Act.put, List.getElem_toArray, List.getElem_cons_succ, List.getElem_cons_zero, List.setIfInBounds_toArray, List.set_cons_zero, List.set_cons_succ]
    refine wpAnyH_take (i := 4) (v := ?u14) rfl (by kernel_rfl) (by kernel_rfl) (by kernel_rfl) (fun _ _ _ h => h) (Or.inl ⟨by rfl, ?hz14⟩) S0.out ?rust14
    case hz14 => (intro w' hSw; obtain ⟨_, _, _⟩ := hSw; go_simp; with_reducible rfl)
    try simp only [Act.put, List.getElem_toArray, List.getElem_cons_succ, List.getElem_cons_zero, List.setIfInBounds_toArray, List.set_cons_zero, List.set_cons_succ]
    refine wpAnyH_take (i := 5) (v := ?u15) rfl (by kernel_rfl) (by kernel_rfl) (by kernel_rfl) (fun _ _ _ h => h) (Or.inl ⟨by rfl, ?hz15⟩) S0.out ?rust15
    case hz15 => (intro w' hSw; obtain ⟨_, _, _⟩ := hSw; go_simp; with_reducible rfl)
    try simp only [Act.put, List.getElem_toArray, List.getElem_cons_succ, List.getElem_cons_zero, List.setIfInBounds_toArray, List.set_cons_zero, List.set_cons_succ]
    refine wpAnyH_take (i := 6) (v := ?u16) rfl (by kernel_rfl) (by kernel_rfl) (by kernel_rfl) (fun _ _ _ h => h) (Or.inl ⟨by rfl, ?hz16⟩) S0.out ?rust16
    case hz16 => (intro w' hSw; obtain ⟨_, _, _⟩ := hSw; go_simp; with_reducible rfl)
    try simp only [Act.put, List.getElem_toArray, List.getElem_cons_succ, List.getElem_cons_zero, List.setIfInBounds_toArray, List.set_cons_zero, List.set_cons_succ]
    refine wpAnyH_ready (rs := [7]) (by kernel_rfl) (by simp) ?_
    refine AllReadyH.cons rfl (fun K hK => ?_) AllReadyH.nil
    go_simp
    go_wp2_with (go_at_call 20; refine (HWR.out _ q (secCon.below HD7.out (below_drew0 _)) (HYB.out.keep (below_drew0 _)) HQF.out).mono ?_; rintro e w8 ⟨rfl, F2, hd8, ho8, hf8⟩)
    have HD8 := Lib.hid hd8
    have HO8 : Hid (Only F1 w7 w8) := ((Only.refl F1 w7).drew).trans ho8
    have HF8 : Hid (∀ k, F2 k → F1 k ∨ w7.heap.size ≤ k) := hf8
    clear hd8 ho8 hf8
    have S1 := Lib.hid (SC.out w8 (cell_only HO8.out (q := ⟨p, 0, none⟩) (by show p < _; have := HPX.out; have := HB7.out.size; omega) (HFN.out p (Nat.le_refl _) (by omega))) (cell_only HO8.out (q := ⟨gl, 0, none⟩) (by show gl < _; have := HGX.out; have := HB7.out.size; omega) HFG.out) (cell_only HO8.out (q := ⟨p + 1 + 1, 0, none⟩) (by show p + 1 + 1 < _; have := HPX.out; have := HB7.out.size; omega) (HFN.out (p + 1 + 1) (by omega) (by omega))))
    refine hK.out _ _ S1.out (fun _ => ?_)
    clear hK K
    try simp only [Act.put, List.getElem_toArray, List.getElem_cons_succ, List.getElem_cons_zero, List.setIfInBounds_toArray, List.set_cons_zero, List.set_cons_succ]
    refine wpAnyH_take (i := 8) (v := ?u17) rfl (by kernel_rfl) (by kernel_rfl) (by kernel_rfl) (fun _ _ _ h => h) (Or.inl ⟨by rfl, ?hz17⟩) S1.out ?rust17
    case hz17 => (intro w' hSw; obtain ⟨_, _, _⟩ := hSw; go_simp; with_reducible rfl)
    try simp only [Act.put, List.getElem_toArray, List.getElem_cons_succ, List.getElem_cons_zero, List.setIfInBounds_toArray, List.set_cons_zero, List.set_cons_succ]
    refine wpAnyH_done (by kernel_rfl) ?_ _
    refine Calm.normal ?_
    have HOX : Hid (Only (fun k => F1 k ∨ wx.heap.size ≤ k) wx w8) := ((only_of HB7.out).mono (q := fun k => F1 k ∨ wx.heap.size ≤ k) (fun k _ h => .inr h)).trans (HO8.out.mono (fun k _ h => .inl h))
    have b4 : Hid (w8.heap[p + 1]? = some (.cells #[.int .i64 0] 27 (0, 0))) := (HOX.out.block _ (by have := HPX.out; omega) (fun h => by rcases h with h | h; exact HFN.out _ (by omega) (by omega) h; have := HPX.out; omega)).trans HWX.out.h4
    have b5 : Hid (w8.heap[p + 1 + 1]? = some (.cells #[.int .i64 (k : Int)] 3 (0, 0))) := (HOX.out.block _ HPX.out (fun h => by rcases h with h | h; exact HFN.out _ (by omega) (by omega) h; have := HPX.out; omega)).trans (by rw [HWX.out.h5, HKI.out])
    have b2 : Hid (w8.heap[p]? = some (.cells #[.pointer (some ⟨gl, 0, none⟩)] 32 (0, 0))) := (HOX.out.block _ (by have := HPX.out; omega) (fun h => by rcases h with h | h; exact HFN.out _ (by omega) (by omega) h; have := HPX.out; omega)).trans HWX.out.h2
    have m4 : w8.cell? ⟨p + 1, 0, none⟩ = some (.int .i64 0) := by rw [Lib.cell_of_heap b4.out]; rfl
    have m5 : w8.cell? ⟨p + 1 + 1, 0, none⟩ = some (.int .i64 (k : Int)) := by rw [Lib.cell_of_heap b5.out]; rfl
    have f4 : w8.frozen? ⟨p + 1, 0, none⟩ = false := Lib.frozen_of_heap b4.out _
    have f5 : w8.frozen? ⟨p + 1 + 1, 0, none⟩ = false := Lib.frozen_of_heap b5.out _
    have HONX : Hid (Only F0 W w8) := HON.out.trans' HOX.out (fun k hk => by
      rcases hk with h | h
      · rcases HF1.out k h with h | h
        · exact .inl h
        · exact .inr (by have := HP.out; omega)
      · exact .inr (by have := HON.out.size; omega))
    have HF2 : Hid (∀ k, F2 k → F0 k ∨ p + 1 + 1 + 1 + 1 ≤ k) := fun k hk => by
      rcases HF8.out k hk with h | h
      · exact HF1.out k h
      · have := HB7.out.size; have := HWS.out; exact .inr (by omega)
    have HF2N : Hid (∀ q, p ≤ q → q < p + 1 + 1 + 1 + 1 → ¬ F2 q) := fun q h1 h2 hq => by
      rcases HF8.out q hq with h | h
      · exact HFN.out q h1 h2 h
      · have := HB7.out.size; have := HWS.out; omega
    clear S0 S1 SC HYB
    by_cases hc2 : C2 = 0
    case neg =>
      have q1 : (C2 != 0) = true := by simp [hc2]
      gi_wp2
      have hfin : Only (fun k => (F1 k ∨ wx.heap.size ≤ k) ∨ k = p + 1) wx (w8.setCell ⟨p + 1, 0, none⟩ (.int .i64 C2)) := (HOX.out.mono (fun k _ h => .inl h)).setCell (p := fun k => (F1 k ∨ wx.heap.size ≤ k) ∨ k = p + 1) (q := ⟨p + 1, 0, none⟩) (.inl (.inr rfl)) _
      refine ⟨keeps_of' hfin (fun k hk => ?_), rfl, pre.length, ⟨?_, ?_, ?_, ?_, ⟨F2, ?_, ?_⟩, ?_⟩, ?_⟩
      · rcases hk with (hk | hk) | rfl
        · exact .inl (dev_cells HD1.out k hk)
        · exact .inr hk
        · exact .inl ⟨_, HWX.out.h4, rfl⟩
      · rw [Below.heap_setCell _ _ _ _ (by show p ≠ p + 1; omega)]; exact b2.out
      · rw [HMP.out, HW2.out]; exact heap_setCell0 b4.out _
      · rw [Below.heap_setCell _ _ _ _ (by show p + 1 + 1 ≠ p + 1; omega), HKI.out]; exact b5.out
      · exact HONX.out.setCell (q := ⟨p + 1, 0, none⟩) (.inr (by have := HP.out; show _ ≤ p + 1; omega)) _
      · rw [HMP.out, HW2.out]; exact secCon.keep (p := fun k => k = p + 1) HD8.out (only_cell _ _ _ _) (fun k hk e => HF2N.out _ (by omega) (by omega) (e ▸ hk))
      · exact HF2.out
      · have := HB7.out.size; have := HWS.out; have := HO8.out.size; have := hfin.size; omega
      · rw [HMP.out, HW2.out]; exact hc2
    case pos =>
      subst hc2
      gi_wp2
      have hfin : Only (fun k => (F1 k ∨ wx.heap.size ≤ k) ∨ k = p + 1 + 1) wx (w8.setCell ⟨p + 1 + 1, 0, none⟩ (.int .i64 ((k : Int) + 1))) := (HOX.out.mono (fun k _ h => .inl h)).setCell (p := fun k => (F1 k ∨ wx.heap.size ≤ k) ∨ k = p + 1 + 1) (q := ⟨p + 1 + 1, 0, none⟩) (.inl (.inr rfl)) _
      refine ⟨keeps_of' hfin (fun k hk => ?_), trivial, ⟨?_, ?_, ?_, ?_, ⟨F2, ?_, ?_⟩, ?_⟩, ?_⟩
      · rcases hk with (hk | hk) | rfl
        · exact .inl (dev_cells HD1.out k hk)
        · exact .inr hk
        · exact .inl ⟨_, HWX.out.h5, rfl⟩
      · rw [Below.heap_setCell _ _ _ _ (by show p ≠ p + 1 + 1; omega)]; exact b2.out
      · rw [Below.heap_setCell _ _ _ _ (by show p + 1 ≠ p + 1 + 1; omega)]; exact b4.out
      · rw [List.length_append, List.length_singleton, heap_setCell0 b5.out, show at_ + ((pre.length + 1 : Nat) : Int) = (k : Int) + 1 by have := HKI.out; omega]
      · exact HONX.out.setCell (q := ⟨p + 1 + 1, 0, none⟩) (.inr (by have := HP.out; show _ ≤ p + 1 + 1; omega)) _
      · rw [HMP.out, HW2.out]; exact secCon.keep (p := fun k => k = p + 1 + 1) HD8.out (only_cell _ _ _ _) (fun k hk e => HF2N.out _ (by omega) (by omega) (e ▸ hk))
      · exact HF2.out
      · have := HB7.out.size; have := HWS.out; have := HO8.out.size; have := hfin.size; omega
      · rw [HMP.out, HW2.out]
  case done =>
    rintro D ys wx hDl hS ⟨hWx, hz⟩ hK
    have hS' : ys.map Pts.tag = T := hS.trans HTT.out.symm
    rw [hS'] at hWx hz
    obtain ⟨F1, hd1, hf1⟩ := hWx.dev
    have hon := hWx.on
    obtain ⟨d1, hd1e⟩ : ∃ d1, d1 = (wq T).1 := ⟨_, rfl⟩
    rw [← hd1e] at hd1
    have hgr := HGW.out T
    rw [← hd1e] at hgr
    have hlim : Lim d1 := ⟨by have := hgr.w; have := HDL.out.w; have := HTL.out; omega, by have := hgr.c0; have := HDL.out.c0; omega, by have := hgr.c1; have := HDL.out.c1; have := HTL.out; omega, hgr.l0, hgr.l1⟩
    have hput : Lm.put L.h.epoch (Lm.parts b) L.at_ d = (d1, 0) := by rw [← HQT.out, hd1e]; exact Prod.ext rfl hz
    obtain ⟨D3, hD3⟩ : ∃ D3, D3 = (Sm.flush d1).1 := ⟨_, rfl⟩
    obtain ⟨C3, hC3⟩ : ∃ C3, C3 = (Sm.flush d1).2 := ⟨_, rfl⟩
    have HPF : Hid (Lm.putF L.h.epoch (Lm.parts b) L.at_ d = (D3, C3)) := by
      show _ = _; unfold Lm.putF; rw [hput, if_neg (fun c => c rfl), hD3, hC3]
    have HFL : Hid (∀ w, DevK g d1 F1 w → Calls Try.prog 52 #[.pointer (some ⟨g, 0, none⟩)] w fun e w' => e = .returned (.int .i64 C3) ∧ Did DevK g F1 D3 w w') := fun w hdv => by
      rw [hD3, hC3]; exact secCon.flush hdv hlim
    have k2 : wx.cell? ⟨p, 0, none⟩ = some (.pointer (some ⟨gl, 0, none⟩)) := by rw [Lib.cell_of_heap hWx.h2]; rfl
    have g0 : wx.cell? ⟨gl, 0, none⟩ = some (.pointer (some ⟨g, 0, none⟩)) := (cell_only hon (q := ⟨gl, 0, none⟩) hgl hap).trans c0
    have hFn : ∀ q, p ≤ q → q < p + 1 + 1 + 1 + 1 → ¬ F1 q := fun q h1 h2 hq => by
      rcases hf1 q hq with h | h
      · have := secCon.lt HD.out q h; have := HP.out; omega
      · omega
    have HFD : Hid (¬ F1 D) := fun hq => by
      obtain ⟨o, h1, h2⟩ := dev_cells hd1 D hq
      rw [hK] at h1
      injection h1 with h1
      subst h1
      cases h2
    have HKK := Lib.hid hK; have HD1 := Lib.hid hd1; have HFN := Lib.hid hFn; have HON := Lib.hid hon; have HF1 := Lib.hid hf1; have HWX := Lib.hid hWx
    have HDP : Hid (p + 1 < D) := by show _ < _; have := HS1.out; omega
    clear hS hS' hWx hz hd1 hf1 hd1e hgr hlim hput hD3 hC3 hFn hon hK hDl hp hs1 hWb hBX c0 c3 c7
    gi_wp2_with (refine ⟨trivial, ?_⟩; gi_at_call 52; refine (callsIn_wide.2 (HFL.out _ HD1.out)).mono ?_; rintro e w8 ⟨rfl, hdid⟩; have HDID := Lib.hid hdid; clear hdid; have m4 : w8.cell? ⟨p + 1, 0, none⟩ = some (.int .i64 0) := (by obtain ⟨F2, _, ho, _⟩ := HDID.out; rw [cell_only ho (q := ⟨p + 1, 0, none⟩) (by show p + 1 < _; have := HWX.out.sz; omega) (HFN.out (p + 1) (by omega) (by omega)), Lib.cell_of_heap HWX.out.h4]; rfl); have f4 : w8.frozen? ⟨p + 1, 0, none⟩ = false := (by obtain ⟨F2, _, ho, _⟩ := HDID.out; exact Lib.frozen_of_heap ((ho.block _ (by have := HWX.out.sz; omega) (HFN.out (p + 1) (by omega) (by omega))).trans HWX.out.h4) _))
    have hdd := HDID.out
    obtain ⟨F2, hd8, ho8, hf8⟩ := hdd
    have HD8 := Lib.hid hd8
    have hsz := ho8.size
    have hwsz := HWX.out.sz
    have hKD : D < wx.heap.size := heap_lt HKK.out
    have hF2N : ∀ q, q < wx.heap.size → ¬ F1 q → ¬ F2 q := fun q h1 h2 hq => by
      rcases hf8 q hq with h | h
      · exact h2 h
      · omega
    have hKz : (w8.setCell ⟨p + 1, 0, none⟩ (.int .i64 C3)).heap[D]? = some (.deferred (some [])) := by
      rw [Below.heap_setCell _ _ _ _ (by show D ≠ p + 1; have := HDP.out; omega), ho8.block D hKD HFD.out]; exact HKK.out
    have hr : ((w8.setCell ⟨p + 1, 0, none⟩ (.int .i64 C3)).putObj D (.deferred none)).cell? ⟨p + 1, 0, none⟩ = some (.int .i64 C3) := by
      have h8 : w8.heap[p + 1]? = some (.cells #[.int .i64 0] 27 (0, 0)) := (ho8.block _ (by omega) (HFN.out _ (by omega) (by omega))).trans HWX.out.h4
      have : ((w8.setCell ⟨p + 1, 0, none⟩ (.int .i64 C3)).putObj D (.deferred none)).heap[p + 1]? = some (.cells #[.int .i64 C3] 27 (0, 0)) := by
        rw [World.putObj_heap_other (by have := HDP.out; omega)]; exact heap_setCell0 h8 _
      rw [Lib.cell_of_heap this]; rfl
    refine ⟨by simp, .inl ⟨_, _, rfl, run_takeDeferred hKz, ?_⟩⟩
    refine ⟨_, results_cell1 rfl _ _ (p + 1) C3 rfl hr, by rw [HPF.out], F2, ?_, ?_, fun k hk => ?_⟩
    · rw [HPF.out]
      refine secCon.keep (p := fun k => k = p + 1 ∨ k = D) HD8.out (((Only.refl (fun k => k = p + 1 ∨ k = D) w8).setCell (q := ⟨p + 1, 0, none⟩) (.inl (.inl rfl)) _).grown (grownBy_putObj' _ D _) (fun k e => by injection e with e; exact .inl (.inr e.symm))) (fun k hk e => ?_)
      rcases e with rfl | rfl
      · exact hF2N _ (by omega) (HFN.out _ (by omega) (by omega)) hk
      · exact hF2N _ hKD HFD.out hk
    · have h1 : Only F0 W w8 := HON.out.trans' ho8 (fun k hk => by
        rcases HF1.out k hk with h | h
        · exact .inl h
        · have := HP.out; exact .inr (by omega))
      exact (h1.setCell (q := ⟨p + 1, 0, none⟩) (.inr (by show _ ≤ p + 1; have := HP.out; omega)) _).grown (grownBy_putObj' _ D _) (fun k e => by injection e with e; exact .inr (by have := HP.out; have := HDP.out; omega))
    · rcases hf8 k hk with h | h
      · rcases HF1.out k h with h | h
        · exact .inl h
        · have := HP.out; exact .inr (by omega)
      · have := HON.out.size; exact .inr (by omega)
  case stop =>
    rintro D cd pre wx hDl hS ⟨rfl, j, hWx, hz⟩ hK
    have hq := HQS.out _ hz (by rw [HTT.out]; exact hS)
    have hput : Lm.put L.h.epoch (Lm.parts b) L.at_ d = wq (pre.map Pts.tag) := by rw [← HQT.out, hq]
    have HPF : Hid (Lm.putF L.h.epoch (Lm.parts b) L.at_ d = wq (pre.map Pts.tag)) := by
      show _ = _; unfold Lm.putF; rw [hput, if_pos hz]
    obtain ⟨F1, hd1, hf1⟩ := hWx.dev
    have HD1 := Lib.hid hd1; have HF1 := Lib.hid hf1; have HON := Lib.hid hWx.on; have HWX := Lib.hid hWx; have HKK := Lib.hid hK
    have HFD : Hid (¬ F1 D) := fun hq => by
      obtain ⟨o, h1, h2⟩ := dev_cells HD1.out D hq
      rw [HKK.out] at h1
      injection h1 with h1
      subst h1
      cases h2
    have HDP : Hid (p + 1 < D) := by show _ < _; have := HS1.out; omega
    clear hq hput hd1 hf1 hWx hz hK hS hDl hp hs1 hWb hBX c0 c3 c7
    gi_wp2
    have hr : (wx.putObj D (.deferred none)).cell? ⟨p + 1, 0, none⟩ = some (.int .i64 (wq (pre.map Pts.tag)).2) := by
      have : (wx.putObj D (.deferred none)).heap[p + 1]? = some (.cells #[.int .i64 (wq (pre.map Pts.tag)).2] 27 (0, 0)) := by
        rw [World.putObj_heap_other (by have := HDP.out; omega)]; exact HWX.out.h4
      rw [Lib.cell_of_heap this]; rfl
    refine ⟨by simp, .inl ⟨_, _, rfl, run_takeDeferred HKK.out, ?_⟩⟩
    refine ⟨_, results_cell1 rfl _ _ (p + 1) (wq (pre.map Pts.tag)).2 rfl hr, by rw [HPF.out], F1, ?_, ?_, fun k hk => ?_⟩
    · rw [HPF.out]
      refine secCon.keep (p := fun k => k = D) HD1.out ((Only.refl (fun k => k = D) wx).grown (grownBy_putObj' _ D _) (fun k e => by injection e with e; exact .inl e.symm)) (fun k hk e => by subst e; exact HFD.out hk)
    · exact HON.out.grown (grownBy_putObj' _ D _) (fun k e => by injection e with e; exact .inr (by have := HP.out; have := HDP.out; omega))
    · rcases HF1.out k hk with h | h
      · exact .inl h
      · have := HP.out; exact .inr (by omega)
end Go.Proofs.Ytofbignggadkiaa
