/- Package row: readValue, Parse. -/
import Derived.Test.YtmipomglbccjbaaDoorRowGd
import Derived.Test.YtmipomglbccjbaaDoorRowGc
namespace Go.Proofs.YtmipomglbccjbaaDoor
open Go.RowKit

theorem Fx.put1 {g : Nat} {k n sc : Int} {s : ByteArray} {w : World} (h : Fx g k n sc s w) (n' : Int) : Fx g k n' sc s (w.setCell ⟨g, 1, none⟩ (.int .i64 n')) := by
  refine ⟨⟨?_, ?_, ?_, ?_, ?_⟩, fun o => ?_⟩
  · rw [World.cell?_setCell_other (h := ad_ne (.inr (by decide)))]; exact h.bx.c0
  · exact World.cell?_setCell_same _ _ _ h.bx.c1
  · rw [World.cell?_setCell_other (h := ad_ne (.inr (by decide)))]; exact h.bx.c2
  · rw [World.cell?_setCell_other (h := ad_ne (.inr (by decide)))]; exact h.bx.c3
  · simp; exact h.bx.lt
  · simp; exact h.fz o
theorem Fx.put2 {g : Nat} {k n sc : Int} {s : ByteArray} {w : World} (h : Fx g k n sc s w) (n' : Int) : Fx g k n n' s (w.setCell ⟨g, 2, none⟩ (.int .i64 n')) := by
  refine ⟨⟨?_, ?_, ?_, ?_, ?_⟩, fun o => ?_⟩
  · rw [World.cell?_setCell_other (h := ad_ne (.inr (by decide)))]; exact h.bx.c0
  · rw [World.cell?_setCell_other (h := ad_ne (.inr (by decide)))]; exact h.bx.c1
  · exact World.cell?_setCell_same _ _ _ h.bx.c2
  · rw [World.cell?_setCell_other (h := ad_ne (.inr (by decide)))]; exact h.bx.c3
  · simp; exact h.bx.lt
  · simp; exact h.fz o
theorem Fx.put3 {g : Nat} {k n sc : Int} {s : ByteArray} {w : World} (h : Fx g k n sc s w) (s' : ByteArray) : Fx g k n sc s' (w.setCell ⟨g, 3, none⟩ (.string s')) := by
  refine ⟨⟨?_, ?_, ?_, ?_, ?_⟩, fun o => ?_⟩
  · rw [World.cell?_setCell_other (h := ad_ne (.inr (by decide)))]; exact h.bx.c0
  · rw [World.cell?_setCell_other (h := ad_ne (.inr (by decide)))]; exact h.bx.c1
  · rw [World.cell?_setCell_other (h := ad_ne (.inr (by decide)))]; exact h.bx.c2
  · exact World.cell?_setCell_same _ _ _ h.bx.c3
  · simp; exact h.bx.lt
  · simp; exact h.fz o
theorem Fx.off {g g' o' : Nat} {k n sc : Int} {s : ByteArray} {w : World} (h : Fx g k n sc s w) (hg : g' ≠ g) (x : Value) : Fx g k n sc s (w.setCell ⟨g', o', none⟩ x) := by
  have e : ∀ o, (⟨g', o', none⟩ : Addr) ≠ ⟨g, o, none⟩ := fun o => ad_ne (.inl hg)
  refine ⟨⟨?_, ?_, ?_, ?_, ?_⟩, fun o => ?_⟩
  · rw [World.cell?_setCell_other (h := e 0)]; exact h.bx.c0
  · rw [World.cell?_setCell_other (h := e 1)]; exact h.bx.c1
  · rw [World.cell?_setCell_other (h := e 2)]; exact h.bx.c2
  · rw [World.cell?_setCell_other (h := e 3)]; exact h.bx.c3
  · simp; exact h.bx.lt
  · simp; exact h.fz o
/-- what is known while a value is being read: the block of the answer, the block of the value, the reader -/
structure Rv11 (B b q2 q3 : Nat) (st : Rm.St) (F : Nat → Prop) (W w : World) (v : Vm.Cl) (wx : World) : Prop where
  x2 : Fx q2 0 0 0 ⟨#[]⟩ wx
  x3 : Fx q3 v.k v.n v.sc v.s wx
  ro : Ro B b st F W wx
  on : Only (fun k => k = b) w wx
  h2 : w.heap.size ≤ q2
  h3 : q2 < q3
  fl : ∀ k, F k → k < w.heap.size
theorem Rv11.call {B b q2 q3 : Nat} {st st' : Rm.St} {F : Nat → Prop} {W w wx wy : World} {v : Vm.Cl} (h : Rv11 B b q2 q3 st F W w v wx) (hr : Rod B b st' F W wx wy) : Rv11 B b q2 q3 st' F W w v wy := by
  have hb := h.fl b h.ro.fbb
  have := h.h2; have := h.h3
  exact ⟨h.x2.keepO hr.on (by omega), h.x3.keepO hr.on (by omega), hr.ro, h.on.trans hr.on, h.h2, h.h3, h.fl⟩
theorem Rv11.put {B b q2 q3 : Nat} {st : Rm.St} {F : Nat → Prop} {W w wx : World} {v v' : Vm.Cl} (h : Rv11 B b q2 q3 st F W w v wx) (o : Nat) (x : Value) (hx : Fx q3 v'.k v'.n v'.sc v'.s (wx.setCell ⟨q3, o, none⟩ x)) : Rv11 B b q2 q3 st F W w v' (wx.setCell ⟨q3, o, none⟩ x) := by
  have := h.h2; have := h.h3
  have hf : ¬ F q3 := fun e => by have := h.fl q3 e; omega
  have ho : Only (fun k => k = q3) wx (wx.setCell ⟨q3, o, none⟩ x) := Only.setCell (p := fun k => k = q3) (q := ⟨q3, o, none⟩) (Only.refl _ _) (.inl rfl) _
  refine ⟨h.x2.off (by omega) x, hx, h.ro.keepO ho (fun k hk e => hf (e ▸ hk)) (fun k e => ?_), h.on.setCell (.inr (by show _ ≤ q3; omega)) _, h.h2, h.h3, h.fl⟩
  have h1 := h.ro.fb b h.ro.fbb; have h2 := h.fl b h.ro.fbb
  omega
theorem Rv11.done {B b q2 q3 : Nat} {st : Rm.St} {F : Nat → Prop} {W w wx : World} {v : Vm.Cl} (h : Rv11 B b q2 q3 st F W w v wx) (x y z u : Value) : Ro B b st F W ((((wx.setCell ⟨q2, 0, none⟩ x).setCell ⟨q2, 1, none⟩ y).setCell ⟨q2, 2, none⟩ z).setCell ⟨q2, 3, none⟩ u) ∧ Only (fun k => k = b) w ((((wx.setCell ⟨q2, 0, none⟩ x).setCell ⟨q2, 1, none⟩ y).setCell ⟨q2, 2, none⟩ z).setCell ⟨q2, 3, none⟩ u) := by
  have := h.h2
  have hf : ¬ F q2 := fun e => by have := h.fl q2 e; omega
  have ho : Only (fun k => k = q2) wx ((((wx.setCell ⟨q2, 0, none⟩ x).setCell ⟨q2, 1, none⟩ y).setCell ⟨q2, 2, none⟩ z).setCell ⟨q2, 3, none⟩ u) :=
    Only.setCell (p := fun k => k = q2) (q := ⟨q2, 3, none⟩) (Only.setCell (p := fun k => k = q2) (q := ⟨q2, 2, none⟩) (Only.setCell (p := fun k => k = q2) (q := ⟨q2, 1, none⟩) (Only.setCell (p := fun k => k = q2) (q := ⟨q2, 0, none⟩) (Only.refl _ _) (.inl rfl) _) (.inl rfl) _) (.inl rfl) _) (.inl rfl) _
  refine ⟨h.ro.keepO ho (fun k hk e => hf (e ▸ hk)) (fun k e => ?_), ?_⟩
  · have h1 := h.ro.fb b h.ro.fbb; have h2 := h.fl b h.ro.fbb
    omega
  · exact Only.setCell (q := ⟨q2, 3, none⟩) (Only.setCell (q := ⟨q2, 2, none⟩) (Only.setCell (q := ⟨q2, 1, none⟩) (Only.setCell (q := ⟨q2, 0, none⟩) h.on (.inr this) _) (.inr this) _) (.inr this) _) (.inr this) _
/-- what readValue leaves -/
def RvA (B b : Nat) (F : Nat → Prop) (W w : World) (p : Vm.Cl × Rm.St) (e : Ending) (w' : World) : Prop :=
  e = .returned (.agg #[.int .i64 p.1.k, .int .i64 p.1.n, .int .i64 p.1.sc, .string p.1.s]) ∧ Ro B b p.2 F W w' ∧ Only (fun k => k = b) w w'
theorem bf_le (st : Rm.St) : ((Rm.bf st).2.getD []).length ≤ (st.getD []).length := btw_le
set_option maxHeartbeats 4000000 in
set_option maxRecDepth 100000 in
theorem row_readValue {B b : Nat} {st : Rm.St} {F : Nat → Prop} {W w : World} (h : Ro B b st F W w) (hl : (st.getD []).length ≤ 1000000000) :
    Calls Tryd.prog 32 #[.pointer (some ⟨b, 0, none⟩)] w (RvA B b F W w (Rm.cval (Rm.bf st).1 (Rm.bf st).2)) := by
  obtain ⟨W0, hW0⟩ : ∃ W0, W0 = w.alloc (.cells #[.int .i64 0, .int .i64 0, .int .i64 0, .string ⟨#[]⟩] 36) := ⟨_, rfl⟩
  obtain ⟨q2, hq2⟩ : ∃ q2, q2 = w.heap.size := ⟨_, rfl⟩
  have HX2 : Hid (Fx q2 0 0 0 ⟨#[]⟩ W0) := by show Fx _ _ _ _ _ _; rw [hW0, hq2]; exact Fx.new w 0 0 0 ⟨#[]⟩ _
  have hb0 : Below w.heap.size w W0 := by rw [hW0]; exact one_r w _
  have HRO := Lib.hid (h.below hb0)
  have HFL : Hid (∀ k, F k → k < w.heap.size) := h.fl
  have HON : Hid (Only (fun k => k = b) w W0) := (only_of8 hb0).mono (fun _ _ e => e.elim)
  have HQ : Hid (W0 = w.alloc (.cells #[.int .i64 0, .int .i64 0, .int .i64 0, .string ⟨#[]⟩] 36) ∧ q2 = w.heap.size) := ⟨hW0, hq2⟩
  have hl1 := bf_le st
  have HNU := Lib.hid (ro_number HRO.out (by omega))
  obtain ⟨k, hk⟩ : ∃ k, k = (Rm.bf st).1 := ⟨_, rfl⟩
  obtain ⟨s1, hs1⟩ : ∃ s1, s1 = (Rm.bf st).2 := ⟨_, rfl⟩
  rw [← hk, ← hs1] at HNU ⊢
  rw [← hs1] at hl1
  have hl2 : (s1.getD []).length ≤ 1000000000 := by omega
  clear hk hs1 h hW0 hq2 hb0 hl1
  obtain ⟨R, hR⟩ : ∃ R, R = Rm.cval k s1 := ⟨_, rfl⟩
  rw [← hR]
  unfold RvA
  go_enter Tryd.func32, Tryd.ntmps32
  go_wp2_with (rw [← HQ.out.1, ← HQ.out.2])
  refine HNU.out.mono ?_
  rintro e w1 ⟨rfl, hw⟩
  obtain ⟨q3, hq3⟩ : ∃ q3, q3 = w1.heap.size := ⟨_, rfl⟩
  obtain ⟨W1, hW1⟩ : ∃ W1, W1 = w1.alloc (.cells #[.int .i64 k, .int .i64 0, .int .i64 0, .string ⟨#[]⟩] 36) := ⟨_, rfl⟩
  have HI : Hid (Rv11 B b q2 q3 s1 F W w ⟨k, 0, 0, ⟨#[]⟩⟩ W1) := by
    show Rv11 _ _ _ _ _ _ _ _ _ _
    have hb1 : Below w1.heap.size w1 W1 := by rw [hW1]; exact one_r w1 _
    have hlt : q2 < w1.heap.size := by have := HX2.out.bx.lt; have := hw.on.size; omega
    refine ⟨(HX2.out.keepO hw.on (by have := HFL.out b hw.ro.fbb; have := HQ.out.2; omega)).keep hb1, ?_, hw.ro.below hb1, (HON.out.trans hw.on).trans ((only_of8 hb1).mono (fun _ _ e => e.elim)), by have := HQ.out.2; omega, by omega, HFL.out⟩
    rw [hW1, hq3]; exact Fx.new w1 _ _ _ _ _
  have HQ3 : Hid (W1 = w1.alloc (.cells #[.int .i64 k, .int .i64 0, .int .i64 0, .string ⟨#[]⟩] 36) ∧ q3 = w1.heap.size) := ⟨hW1, hq3⟩
  clear hw hW1 hq3 HNU HX2 HRO HON
  by_cases k1 : k = 1
  · subst k1
    have y0 := HI.out.x3.bx.c0; have y1 := HI.out.x3.bx.c1; have y2 := HI.out.x3.bx.c2; have y3 := HI.out.x3.bx.c3
    have yf0 := HI.out.x3.fz 0; have yf1 := HI.out.x3.fz 1; have yf2 := HI.out.x3.fz 2; have yf3 := HI.out.x3.fz 3
    obtain ⟨f, hf⟩ : ∃ f, f = ((btw 0 1 s1).1 == 1) := ⟨_, rfl⟩
    have HFL2 := Lib.hid (ro_flag HI.out.ro (by omega))
    rw [← hf] at HFL2
    have HRV : Hid (R = (⟨1, if f then 1 else 0, 0, ⟨#[]⟩⟩, (btw 0 1 s1).2)) := by
      show _ = _
      rw [hR, hf]; unfold Rm.cval; rw [if_pos rfl]
      by_cases e : (btw 0 1 s1).1 = 1 <;> simp [e]
    clear hR hf
    go_wp2_with (rw [← HQ3.out.1, ← HQ3.out.2])
    refine HFL2.out.mono ?_
    rintro e w2 ⟨rfl, hw⟩
    have HI2 := Lib.hid (HI.out.call hw)
    clear hw HI HFL2 HQ3 y0 y1 y2 y3 yf0 yf1 yf2 yf3
    have y0 := HI2.out.x3.bx.c0; have y1 := HI2.out.x3.bx.c1; have y2 := HI2.out.x3.bx.c2; have y3 := HI2.out.x3.bx.c3
    have yf0 := HI2.out.x3.fz 0; have yf1 := HI2.out.x3.fz 1; have yf2 := HI2.out.x3.fz 2; have yf3 := HI2.out.x3.fz 3
    have g0 := HI2.out.x2.bx.c0; have g1 := HI2.out.x2.bx.c1; have g2 := HI2.out.x2.bx.c2; have g3 := HI2.out.x2.bx.c3
    have gf0 := HI2.out.x2.fz 0; have gf1 := HI2.out.x2.fz 1; have gf2 := HI2.out.x2.fz 2; have gf3 := HI2.out.x2.fz 3
    cases f
    · go_wp2
      have HS := HI2.out.x2.set 1 0 0 ⟨#[]⟩
      have r0 := HS.bx.c0; have r1 := HS.bx.c1; have r2 := HS.bx.c2; have r3 := HS.bx.c3
      rw [HRV.out]
      refine bodyPost_ret (v := .agg #[.int .i64 1, .int .i64 0, .int .i64 0, .string ⟨#[]⟩]) (by simp [results, Tryd.results32, go_sem, r0, r1, r2, r3]) rfl ⟨rfl, (HI2.out.done _ _ _ _).1, (HI2.out.done _ _ _ _).2⟩
    · have HI3 := Lib.hid (HI2.out.put (v' := ⟨1, 1, 0, ⟨#[]⟩⟩) 1 _ (HI2.out.x3.put1 1))
      clear g0 g1 g2 g3 gf0 gf1 gf2 gf3
      have z0 := HI3.out.x3.bx.c0; have z1 := HI3.out.x3.bx.c1; have z2 := HI3.out.x3.bx.c2; have z3 := HI3.out.x3.bx.c3
      have zf0 := HI3.out.x3.fz 0; have zf1 := HI3.out.x3.fz 1; have zf2 := HI3.out.x3.fz 2; have zf3 := HI3.out.x3.fz 3
      have g0 := HI3.out.x2.bx.c0; have g1 := HI3.out.x2.bx.c1; have g2 := HI3.out.x2.bx.c2; have g3 := HI3.out.x2.bx.c3
      have gf0 := HI3.out.x2.fz 0; have gf1 := HI3.out.x2.fz 1; have gf2 := HI3.out.x2.fz 2; have gf3 := HI3.out.x2.fz 3
      go_wp2
      have HS := HI3.out.x2.set 1 1 0 ⟨#[]⟩
      have r0 := HS.bx.c0; have r1 := HS.bx.c1; have r2 := HS.bx.c2; have r3 := HS.bx.c3
      rw [HRV.out]
      refine bodyPost_ret (v := .agg #[.int .i64 1, .int .i64 1, .int .i64 0, .string ⟨#[]⟩]) (by simp [results, Tryd.results32, go_sem, r0, r1, r2, r3]) rfl ⟨rfl, (HI3.out.done _ _ _ _).1, (HI3.out.done _ _ _ _).2⟩
  have q1 : (k == 1) = false := by simpa using k1
  by_cases k2 : k = 2
  · subst k2
    have y0 := HI.out.x3.bx.c0; have y1 := HI.out.x3.bx.c1; have y2 := HI.out.x3.bx.c2; have y3 := HI.out.x3.bx.c3
    have yf0 := HI.out.x3.fz 0; have yf1 := HI.out.x3.fz 1; have yf2 := HI.out.x3.fz 2; have yf3 := HI.out.x3.fz 3
    have HNU2 := Lib.hid (ro_number HI.out.ro (by omega))
    have HRV : Hid (R = (⟨2, (Rm.bf s1).1, 0, ⟨#[]⟩⟩, (Rm.bf s1).2)) := by
      show _ = _
      rw [hR]; unfold Rm.cval; rw [if_neg (by decide), if_pos rfl]
    obtain ⟨x, hx⟩ : ∃ x, x = (Rm.bf s1).1 := ⟨_, rfl⟩
    obtain ⟨s2, hs2⟩ : ∃ s2, s2 = (Rm.bf s1).2 := ⟨_, rfl⟩
    rw [← hx, ← hs2] at HNU2 HRV
    clear hR hx hs2
    go_wp2_with (rw [← HQ3.out.1, ← HQ3.out.2])
    refine HNU2.out.mono ?_
    rintro e w2 ⟨rfl, hw⟩
    have HI2 := Lib.hid (HI.out.call hw)
    clear hw HI HNU2 HQ3 y0 y1 y2 y3 yf0 yf1 yf2 yf3
    have y0 := HI2.out.x3.bx.c0; have y1 := HI2.out.x3.bx.c1; have y2 := HI2.out.x3.bx.c2; have y3 := HI2.out.x3.bx.c3
    have yf0 := HI2.out.x3.fz 0; have yf1 := HI2.out.x3.fz 1; have yf2 := HI2.out.x3.fz 2; have yf3 := HI2.out.x3.fz 3
    have HI3 := Lib.hid (HI2.out.put (v' := ⟨2, x, 0, ⟨#[]⟩⟩) 1 _ (HI2.out.x3.put1 x))
    have z0 := HI3.out.x3.bx.c0; have z1 := HI3.out.x3.bx.c1; have z2 := HI3.out.x3.bx.c2; have z3 := HI3.out.x3.bx.c3
    have zf0 := HI3.out.x3.fz 0; have zf1 := HI3.out.x3.fz 1; have zf2 := HI3.out.x3.fz 2; have zf3 := HI3.out.x3.fz 3
    have g0 := HI3.out.x2.bx.c0; have g1 := HI3.out.x2.bx.c1; have g2 := HI3.out.x2.bx.c2; have g3 := HI3.out.x2.bx.c3
    have gf0 := HI3.out.x2.fz 0; have gf1 := HI3.out.x2.fz 1; have gf2 := HI3.out.x2.fz 2; have gf3 := HI3.out.x2.fz 3
    go_wp2
    have HS := HI3.out.x2.set 2 x 0 ⟨#[]⟩
    have r0 := HS.bx.c0; have r1 := HS.bx.c1; have r2 := HS.bx.c2; have r3 := HS.bx.c3
    rw [HRV.out]
    refine bodyPost_ret (v := .agg #[.int .i64 2, .int .i64 x, .int .i64 0, .string ⟨#[]⟩]) (by simp [results, Tryd.results32, go_sem, r0, r1, r2, r3]) rfl ⟨rfl, (HI3.out.done _ _ _ _).1, (HI3.out.done _ _ _ _).2⟩
  have q2 : (k == 2) = false := by simpa using k2
  by_cases k3 : k = 3
  · subst k3
    have y0 := HI.out.x3.bx.c0; have y1 := HI.out.x3.bx.c1; have y2 := HI.out.x3.bx.c2; have y3 := HI.out.x3.bx.c3
    have yf0 := HI.out.x3.fz 0; have yf1 := HI.out.x3.fz 1; have yf2 := HI.out.x3.fz 2; have yf3 := HI.out.x3.fz 3
    have HNU2 := Lib.hid (ro_number HI.out.ro (by omega))
    have hl3 := bf_le s1
    have HRV : Hid (R = (⟨3, (Rm.bf (Rm.bf s1).2).1, (Rm.bf s1).1, ⟨#[]⟩⟩, (Rm.bf (Rm.bf s1).2).2)) := by
      show _ = _
      rw [hR]; unfold Rm.cval; rw [if_neg (by decide), if_neg (by decide), if_pos rfl]
    obtain ⟨x, hx⟩ : ∃ x, x = (Rm.bf s1).1 := ⟨_, rfl⟩
    obtain ⟨s2, hs2⟩ : ∃ s2, s2 = (Rm.bf s1).2 := ⟨_, rfl⟩
    rw [← hx, ← hs2] at HNU2 HRV
    rw [← hs2] at hl3
    clear hR hx hs2
    go_wp2_with (rw [← HQ3.out.1, ← HQ3.out.2])
    refine HNU2.out.mono ?_
    rintro e w2 ⟨rfl, hw⟩
    have HI2 := Lib.hid (HI.out.call hw)
    clear hw HI HNU2 HQ3 y0 y1 y2 y3 yf0 yf1 yf2 yf3
    have y0 := HI2.out.x3.bx.c0; have y1 := HI2.out.x3.bx.c1; have y2 := HI2.out.x3.bx.c2; have y3 := HI2.out.x3.bx.c3
    have yf0 := HI2.out.x3.fz 0; have yf1 := HI2.out.x3.fz 1; have yf2 := HI2.out.x3.fz 2; have yf3 := HI2.out.x3.fz 3
    have HI3 := Lib.hid (HI2.out.put (v' := ⟨3, 0, x, ⟨#[]⟩⟩) 2 _ (HI2.out.x3.put2 x))
    have HNU3 := Lib.hid (ro_number HI3.out.ro (by omega))
    obtain ⟨y, hy⟩ : ∃ y, y = (Rm.bf s2).1 := ⟨_, rfl⟩
    obtain ⟨s3, hs3⟩ : ∃ s3, s3 = (Rm.bf s2).2 := ⟨_, rfl⟩
    rw [← hy, ← hs3] at HNU3 HRV
    clear hy hs3
    go_wp2_with fail
    refine HNU3.out.mono ?_
    rintro e w3 ⟨rfl, hw⟩
    have HI4 := Lib.hid (HI3.out.call hw)
    clear hw HI2 HI3 HNU3 y0 y1 y2 y3 yf0 yf1 yf2 yf3
    have y0 := HI4.out.x3.bx.c0; have y1 := HI4.out.x3.bx.c1; have y2 := HI4.out.x3.bx.c2; have y3 := HI4.out.x3.bx.c3
    have yf0 := HI4.out.x3.fz 0; have yf1 := HI4.out.x3.fz 1; have yf2 := HI4.out.x3.fz 2; have yf3 := HI4.out.x3.fz 3
    have HI5 := Lib.hid (HI4.out.put (v' := ⟨3, y, x, ⟨#[]⟩⟩) 1 _ (HI4.out.x3.put1 y))
    have z0 := HI5.out.x3.bx.c0; have z1 := HI5.out.x3.bx.c1; have z2 := HI5.out.x3.bx.c2; have z3 := HI5.out.x3.bx.c3
    have zf0 := HI5.out.x3.fz 0; have zf1 := HI5.out.x3.fz 1; have zf2 := HI5.out.x3.fz 2; have zf3 := HI5.out.x3.fz 3
    have g0 := HI5.out.x2.bx.c0; have g1 := HI5.out.x2.bx.c1; have g2 := HI5.out.x2.bx.c2; have g3 := HI5.out.x2.bx.c3
    have gf0 := HI5.out.x2.fz 0; have gf1 := HI5.out.x2.fz 1; have gf2 := HI5.out.x2.fz 2; have gf3 := HI5.out.x2.fz 3
    go_wp2
    have HS := HI5.out.x2.set 3 y x ⟨#[]⟩
    have r0 := HS.bx.c0; have r1 := HS.bx.c1; have r2 := HS.bx.c2; have r3 := HS.bx.c3
    rw [HRV.out]
    refine bodyPost_ret (v := .agg #[.int .i64 3, .int .i64 y, .int .i64 x, .string ⟨#[]⟩]) (by simp [results, Tryd.results32, go_sem, r0, r1, r2, r3]) rfl ⟨rfl, (HI5.out.done _ _ _ _).1, (HI5.out.done _ _ _ _).2⟩
  have q3 : (k == 3) = false := by simpa using k3
  by_cases k4 : k = 4
  · subst k4
    have y0 := HI.out.x3.bx.c0; have y1 := HI.out.x3.bx.c1; have y2 := HI.out.x3.bx.c2; have y3 := HI.out.x3.bx.c3
    have yf0 := HI.out.x3.fz 0; have yf1 := HI.out.x3.fz 1; have yf2 := HI.out.x3.fz 2; have yf3 := HI.out.x3.fz 3
    have HTX := Lib.hid (ro_text HI.out.ro (by omega))
    have HRV : Hid (R = (⟨4, 0, 0, bstr (rtext s1).1⟩, (rtext s1).2)) := by
      show _ = _
      rw [hR]; unfold Rm.cval; rw [if_neg (by decide), if_neg (by decide), if_neg (by decide), if_pos (by decide)]
    obtain ⟨x, hx⟩ : ∃ x, x = bstr (rtext s1).1 := ⟨_, rfl⟩
    obtain ⟨s2, hs2⟩ : ∃ s2, s2 = (rtext s1).2 := ⟨_, rfl⟩
    rw [← hx, ← hs2] at HTX HRV
    clear hR hx hs2
    go_wp2_with (rw [← HQ3.out.1, ← HQ3.out.2])
    refine HTX.out.mono ?_
    rintro e w2 ⟨rfl, hw⟩
    have HI2 := Lib.hid (HI.out.call hw)
    clear hw HI HTX HQ3 y0 y1 y2 y3 yf0 yf1 yf2 yf3
    have y0 := HI2.out.x3.bx.c0; have y1 := HI2.out.x3.bx.c1; have y2 := HI2.out.x3.bx.c2; have y3 := HI2.out.x3.bx.c3
    have yf0 := HI2.out.x3.fz 0; have yf1 := HI2.out.x3.fz 1; have yf2 := HI2.out.x3.fz 2; have yf3 := HI2.out.x3.fz 3
    have HI3 := Lib.hid (HI2.out.put (v' := ⟨4, 0, 0, x⟩) 3 _ (HI2.out.x3.put3 x))
    have z0 := HI3.out.x3.bx.c0; have z1 := HI3.out.x3.bx.c1; have z2 := HI3.out.x3.bx.c2; have z3 := HI3.out.x3.bx.c3
    have zf0 := HI3.out.x3.fz 0; have zf1 := HI3.out.x3.fz 1; have zf2 := HI3.out.x3.fz 2; have zf3 := HI3.out.x3.fz 3
    have g0 := HI3.out.x2.bx.c0; have g1 := HI3.out.x2.bx.c1; have g2 := HI3.out.x2.bx.c2; have g3 := HI3.out.x2.bx.c3
    have gf0 := HI3.out.x2.fz 0; have gf1 := HI3.out.x2.fz 1; have gf2 := HI3.out.x2.fz 2; have gf3 := HI3.out.x2.fz 3
    go_wp2
    have HS := HI3.out.x2.set 4 0 0 x
    have r0 := HS.bx.c0; have r1 := HS.bx.c1; have r2 := HS.bx.c2; have r3 := HS.bx.c3
    rw [HRV.out]
    refine bodyPost_ret (v := .agg #[.int .i64 4, .int .i64 0, .int .i64 0, .string x]) (by simp [results, Tryd.results32, go_sem, r0, r1, r2, r3]) rfl ⟨rfl, (HI3.out.done _ _ _ _).1, (HI3.out.done _ _ _ _).2⟩
  have q4 : (k == 4) = false := by simpa using k4
  by_cases k5 : k = 5
  · subst k5
    have y0 := HI.out.x3.bx.c0; have y1 := HI.out.x3.bx.c1; have y2 := HI.out.x3.bx.c2; have y3 := HI.out.x3.bx.c3
    have yf0 := HI.out.x3.fz 0; have yf1 := HI.out.x3.fz 1; have yf2 := HI.out.x3.fz 2; have yf3 := HI.out.x3.fz 3
    have HTX := Lib.hid (ro_text HI.out.ro (by omega))
    have HRV : Hid (R = (⟨5, 0, 0, bstr (rtext s1).1⟩, (rtext s1).2)) := by
      show _ = _
      rw [hR]; unfold Rm.cval; rw [if_neg (by decide), if_neg (by decide), if_neg (by decide), if_pos (by decide)]
    obtain ⟨x, hx⟩ : ∃ x, x = bstr (rtext s1).1 := ⟨_, rfl⟩
    obtain ⟨s2, hs2⟩ : ∃ s2, s2 = (rtext s1).2 := ⟨_, rfl⟩
    rw [← hx, ← hs2] at HTX HRV
    clear hR hx hs2
    go_wp2_with (rw [← HQ3.out.1, ← HQ3.out.2])
    refine HTX.out.mono ?_
    rintro e w2 ⟨rfl, hw⟩
    have HI2 := Lib.hid (HI.out.call hw)
    clear hw HI HTX HQ3 y0 y1 y2 y3 yf0 yf1 yf2 yf3
    have y0 := HI2.out.x3.bx.c0; have y1 := HI2.out.x3.bx.c1; have y2 := HI2.out.x3.bx.c2; have y3 := HI2.out.x3.bx.c3
    have yf0 := HI2.out.x3.fz 0; have yf1 := HI2.out.x3.fz 1; have yf2 := HI2.out.x3.fz 2; have yf3 := HI2.out.x3.fz 3
    have HI3 := Lib.hid (HI2.out.put (v' := ⟨5, 0, 0, x⟩) 3 _ (HI2.out.x3.put3 x))
    have z0 := HI3.out.x3.bx.c0; have z1 := HI3.out.x3.bx.c1; have z2 := HI3.out.x3.bx.c2; have z3 := HI3.out.x3.bx.c3
    have zf0 := HI3.out.x3.fz 0; have zf1 := HI3.out.x3.fz 1; have zf2 := HI3.out.x3.fz 2; have zf3 := HI3.out.x3.fz 3
    have g0 := HI3.out.x2.bx.c0; have g1 := HI3.out.x2.bx.c1; have g2 := HI3.out.x2.bx.c2; have g3 := HI3.out.x2.bx.c3
    have gf0 := HI3.out.x2.fz 0; have gf1 := HI3.out.x2.fz 1; have gf2 := HI3.out.x2.fz 2; have gf3 := HI3.out.x2.fz 3
    go_wp2
    have HS := HI3.out.x2.set 5 0 0 x
    have r0 := HS.bx.c0; have r1 := HS.bx.c1; have r2 := HS.bx.c2; have r3 := HS.bx.c3
    rw [HRV.out]
    refine bodyPost_ret (v := .agg #[.int .i64 5, .int .i64 0, .int .i64 0, .string x]) (by simp [results, Tryd.results32, go_sem, r0, r1, r2, r3]) rfl ⟨rfl, (HI3.out.done _ _ _ _).1, (HI3.out.done _ _ _ _).2⟩
  have q5 : (k == 5) = false := by simpa using k5
  have y0 := HI.out.x3.bx.c0; have y1 := HI.out.x3.bx.c1; have y2 := HI.out.x3.bx.c2; have y3 := HI.out.x3.bx.c3
  have yf0 := HI.out.x3.fz 0; have yf1 := HI.out.x3.fz 1; have yf2 := HI.out.x3.fz 2; have yf3 := HI.out.x3.fz 3
  have g0 := HI.out.x2.bx.c0; have g1 := HI.out.x2.bx.c1; have g2 := HI.out.x2.bx.c2; have g3 := HI.out.x2.bx.c3
  have gf0 := HI.out.x2.fz 0; have gf1 := HI.out.x2.fz 1; have gf2 := HI.out.x2.fz 2; have gf3 := HI.out.x2.fz 3
  have HRV : Hid (R = (⟨k, 0, 0, ⟨#[]⟩⟩, s1)) := by
    show _ = _
    rw [hR]; unfold Rm.cval; rw [if_neg k1, if_neg k2, if_neg k3, if_neg (by omega)]
  clear hR
  go_upto_region 2 with (fail)
  rw [← HQ3.out.1, ← HQ3.out.2]
  go_wp2
  have HS := HI.out.x2.set k 0 0 ⟨#[]⟩
  have r0 := HS.bx.c0; have r1 := HS.bx.c1; have r2 := HS.bx.c2; have r3 := HS.bx.c3
  rw [HRV.out]
  refine bodyPost_ret (v := .agg #[.int .i64 k, .int .i64 0, .int .i64 0, .string ⟨#[]⟩]) (by simp [results, Tryd.results32, go_sem, r0, r1, r2, r3]) rfl ⟨rfl, (HI.out.done _ _ _ _).1, (HI.out.done _ _ _ _).2⟩
end Go.Proofs.YtmipomglbccjbaaDoor
/- Package row: Parse. -/
namespace Go.Proofs.YtmipomglbccjbaaDoor
open Go.RowKit

theorem rtext_le (st : Rm.St) : (rtext st).1.length ≤ (st.getD []).length ∧ ((rtext st).2.getD []).length ≤ (st.getD []).length := by
  have h := btw_le (lo := 0) (hi := 9223372036854775807) (st := st)
  unfold rtext
  rcases hs : (btw 0 9223372036854775807 st).2 with _ | l
  · simp [rt2]
  · rw [hs] at h
    simp only [Option.getD_some] at h
    simp only [rt2]
    split
    · simp
    · simp only [Option.getD_some, List.length_take, List.length_drop]; omega
theorem cval_le (k : Int) (st : Rm.St) : (Rm.cval k st).1.s.size ≤ (st.getD []).length ∧ ((Rm.cval k st).2.getD []).length ≤ (st.getD []).length := by
  have h1 := btw_le (lo := 0) (hi := 1) (st := st)
  have h2 := bf_le st
  have h3 := bf_le (Rm.bf st).2
  have h4 := rtext_le st
  have h0 : (⟨#[]⟩ : ByteArray).size = 0 := rfl
  unfold Rm.cval
  split
  · exact ⟨by rw [h0]; omega, h1⟩
  · split
    · exact ⟨by rw [h0]; omega, h2⟩
    · split
      · exact ⟨by rw [h0]; omega, by dsimp only; omega⟩
      · split
        · exact ⟨by show (bstr _).size ≤ _; rw [bstr_size]; exact h4.1, h4.2⟩
        · exact ⟨by rw [h0]; omega, Nat.le_refl _⟩
theorem ccell_le (st : Rm.St) : (Rm.ccell st).1.v.s.size ≤ (st.getD []).length ∧ ((Rm.ccell st).2.getD []).length ≤ (st.getD []).length := by
  have h1 := bf_le st
  have h2 := bf_le (Rm.bf st).2
  have h3 := cval_le (Rm.bf (Rm.bf st).2).1 (Rm.bf (Rm.bf st).2).2
  unfold Rm.ccell
  exact ⟨by dsimp only; omega, by dsimp only; omega⟩
theorem own_keepO11 {p : Nat → Prop} {w w' : World} {B : Nat} {e : TypeId} {size n : Nat} {v : Value} {xs : List Value} (h : w.ownsRow B e size v n xs) (ho : Only p w w') (hp : ∀ i, v.ownBlock = some i → ¬ p i) : w'.ownsRow B e size v n xs := by
  obtain ⟨h1, h2⟩ := h
  refine ⟨h1, ?_⟩
  rcases h2 with h2 | ⟨g, cap, cur, rfl, hB, hg, r⟩
  · exact .inl h2
  · exact .inr ⟨g, cap, cur, rfl, hB, (ho.block g (Array.getElem?_eq_some_iff.1 hg).1 (hp g rfl)).trans hg, r⟩
/-- what a function that answers a row and a truth leaves -/
def GtR (p : Option (List Rm.C)) (w : World) (e : Ending) (w' : World) : Prop :=
  ∃ a n c, e = .returned (.tuple #[.slice a n c, .bool p.isSome]) ∧ n = (p.getD []).length ∧ Rs (.slice a n c) (p.getD []) w' ∧ Below w.heap.size w w'
theorem end_of {st : Rm.St} : (st.isSome && (st.getD []).isEmpty) = true ↔ st = some [] := by
  cases st with
  | none => simp
  | some l => cases l <;> simp
/-- behind some turns of the loop: m are left -/
structure Pl11 (B b : Nat) (F : Nat → Prop) (T : List Rm.C × Rm.St) (m k : Nat) (v : Value) (cs : List Rm.C) (st : Rm.St) (w wr : World) : Prop where
  tot : T = (cs ++ (Rm.ccells m st).1, (Rm.ccells m st).2)
  own : wr.ownsRow B 38 5 v k (rcs cs)
  ro : Ro B b st F w wr
  nf : ∀ i, v.ownBlock = some i → ¬ F i
  sz : ∀ c ∈ cs, c.v.s.size ≤ 100000
  sl : (st.getD []).length ≤ 100000
theorem Pl11.stop {B b m k : Nat} {F : Nat → Prop} {T : List Rm.C × Rm.St} {v : Value} {cs : List Rm.C} {st : Rm.St} {w wr : World} (h : Pl11 B b F T m k v cs st w wr) (e : m = 0 ∨ st = none) : T = (cs, st) := by
  rw [h.tot]
  rcases e with rfl | rfl
  · rw [Rm.ccells]; simp
  · rw [Rm.ccells_none]; simp

set_option maxHeartbeats 4000000 in
set_option maxRecDepth 100000 in
theorem row_parse (a : Option Addr) (n cap : Nat) (l : List UInt8) (w : World) (he : EnvV w) (hv : Yt (.slice a n cap) l w) (hl : n ≤ 100000) :
    Calls Tryd.prog 12 #[.slice a n cap] w (GtR (Rm.cpar l) w) := by
  obtain ⟨i0, hi0, hz0, hz1, hz2⟩ := info_of11 info5r
  have HI0 := Lib.hid hi0; have HZ0 := Lib.hid hz0; have HZ1 := Lib.hid hz1; have HZ2 := Lib.hid hz2
  have hnl := hv.len11
  obtain ⟨R, hR⟩ : ∃ R, R = Rm.cpar l := ⟨_, rfl⟩
  rw [← hR]
  have HE := Lib.hid he
  have HV := Lib.hid hv
  obtain ⟨st0, hst0⟩ : ∃ st0 : Rm.St, st0 = (btw 0 (n : Int) (some l)).2 := ⟨_, rfl⟩
  obtain ⟨c0, hc0⟩ : ∃ c0 : Int, c0 = (btw 0 (n : Int) (some l)).1 := ⟨_, rfl⟩
  have hcr : 0 ≤ c0 ∧ c0 ≤ (n : Int) := by
    rw [hc0]
    rcases hs : (btw 0 (n : Int) (some l)).2 with _ | t
    · rw [btw_none hs]; omega
    · exact btw_in hs
  obtain ⟨m0, hm0⟩ : ∃ m0 : Nat, c0 = (m0 : Int) := ⟨c0.toNat, by omega⟩
  have hmn : m0 ≤ n := by omega
  obtain ⟨T, hT⟩ : ∃ T, T = Rm.ccells m0 st0 := ⟨_, rfl⟩
  have HRT : Hid (R = if T.2 = some [] ∧ Rm.right T.1 = true then some T.1 else none) := by
    show _ = _
    rw [hR, hT, hst0]; unfold Rm.cpar
    rw [← hnl, ← hc0, hm0, Int.toNat_natCast]
  have hs0 : (st0.getD []).length ≤ 100000 := by
    rw [hst0]
    have := btw_le (lo := 0) (hi := (n : Int)) (st := some l)
    simp only [Option.getD_some] at this
    omega
  have HN := Lib.hid hnl
  have HCO : Hid (∀ W b F, Ro w.heap.size b (some l) F w W → Calls Tryd.prog 29 #[.pointer (some ⟨b, 0, none⟩), .int .i64 (n : Int)] W fun e w' => e = .returned (.int .i64 (m0 : Int)) ∧ Rod w.heap.size b st0 F w W w') := fun W b F h => by
    have := ro_count h (n : Int) (by simp only [Option.getD_some]; omega)
    rw [← hst0, ← hc0, hm0] at this
    exact this
  have HRD : Hid (Calls Tryd.prog 28 #[.slice a n cap] w fun e w' => ∃ b F, e = .returned (.pointer (some ⟨b, 0, none⟩)) ∧ Hid (Ro w.heap.size b (some l) F w w')) := ro_read hv (by omega)
  have HTT : Hid (T = Rm.ccells m0 st0) := hT
  clear hi0 hz0 hz1 hz2 hnl hR he hv hst0 hc0 hcr hm0 hT
  go_enter Tryd.func12, Tryd.ntmps12
  go_wp2_with fail
  refine HRD.out.mono ?_
  rintro e w1 ⟨b, F, rfl, HR1⟩
  clear HRD
  go_wp2_with fail
  refine (HCO.out _ _ _ HR1.out).mono ?_
  rintro e w2 ⟨rfl, hw⟩
  have HP0 : Hid (Pl11 w.heap.size b F T m0 0 (.slice none 0 0) [] st0 w w2) := ⟨by rw [HTT.out]; simp, World.ownsRow_nil _ _ _ _, hw.ro, fun i h => by simp [Value.ownBlock] at h, fun c hc => (by cases hc), hs0⟩
  clear hw HCO HR1 hs0
  go_wp2_with fail
  go_loopw [4, 6] (fun rv lv wr => ∃ (m k : Nat) (aa : Option Addr) (cc : Nat) (cs : List Rm.C) (st : Rm.St), m ≤ m0 ∧ lv = .int .i64 (m : Int) ∧ rv = .slice aa k cc ∧ k + m ≤ m0 ∧ Hid (Pl11 w.heap.size b F T m k (.slice aa k cc) cs st w wr)) (fun _ lv _ => (Lib.intOf lv).toNat)
  case atStart => exact ⟨m0, 0, none, 0, [], st0, Nat.le_refl _, rfl, rfl, by omega, HP0.out⟩
  case round =>
    clear HP0
    obtain ⟨m, k, aa, cc, cs, st, hm, rfl, rfl, hkm, HP⟩ := hrel
    have hkm2 : k ≤ 100000 := by omega
    rcases Nat.eq_zero_or_pos m with h0 | h0
    · subst h0
      have HTS : Hid (T = (cs, st)) := HP.out.stop (.inl rfl)
      obtain ⟨E, hE⟩ : ∃ E, E = (st.isSome && (st.getD []).isEmpty) := ⟨_, rfl⟩
      have HEN := Lib.hid (ro_end HP.out.ro)
      rw [← hE] at HEN
      have HEE := Lib.hid hE
      clear hE
      go_wp2_with fail
      refine HEN.out.mono ?_
      rintro e w4 ⟨rfl, rfl⟩
      clear HEN
      cases E
      · have HF : Hid (R = none) := by
          show _ = _
          rw [HRT.out, HTS.out, if_neg]
          rintro ⟨e, _⟩
          have := end_of.2 e
          rw [← HEE.out] at this; cases this
        have HB := Lib.hid HP.out.ro.bel
        clear HP HRT HTS HEE
        go_wp2
        go_ret2
        rw [HF.out]
        exact ⟨none, 0, 0, rfl, rfl, .inl ⟨_, _, rfl, rfl⟩, HB.out⟩
      · have HSE : Hid (st = some []) := end_of.1 HEE.out.symm
        have HRR := Lib.hid (row_right aa k cc cs wr (HE.out.keep HP.out.ro.bel) (Rs.of_own HP.out.own) (by unfold maxLen; omega) (fun c hc => by have := HP.out.sz c hc; unfold maxLen; omega))
        obtain ⟨Q, hQ⟩ : ∃ Q, Q = Rm.right cs := ⟨_, rfl⟩
        rw [← hQ] at HRR
        have HF : Hid (R = if Q = true then some cs else none) := by
          show _ = _
          rw [HRT.out, HTS.out, hQ, HSE.out]; simp
        clear HRT HTS HEE HSE hQ
        go_wp2_with fail
        refine HRR.out.mono ?_
        rintro e w5 ⟨rfl, hb⟩
        have HB := Lib.hid (HP.out.ro.bel.trans (hb.mono HP.out.ro.bel.size))
        have HY := Lib.hid ((Rs.of_own HP.out.own).keep hb)
        have hkc := own_lenr HP.out.own
        have HKC := Lib.hid hkc
        clear hb hkc HP HRR
        cases Q
        · go_wp2
          go_ret2
          rw [HF.out]
          exact ⟨none, 0, 0, rfl, rfl, .inl ⟨_, _, rfl, rfl⟩, HB.out⟩
        · go_wp2
          go_ret2
          rw [HF.out]
          exact ⟨aa, k, cc, rfl, HKC.out, HY.out, HB.out⟩
    · have hm1 : (0 : Int) < (m : Int) := by omega
      rcases hst : st with _ | t
      · have HTS : Hid (T = (cs, st)) := HP.out.stop (.inr hst)
        have HOK := Lib.hid (ro_ok HP.out.ro)
        rw [hst] at HOK
        clear hst
        go_wp2_with fail
        refine HOK.out.mono ?_
        rintro e w3 ⟨rfl, rfl⟩
        have hno : (none : Rm.St).isSome = false := rfl
        rw [hno]
        clear HOK
        obtain ⟨E, hE⟩ : ∃ E, E = (st.isSome && (st.getD []).isEmpty) := ⟨_, rfl⟩
        have HEN := Lib.hid (ro_end HP.out.ro)
        rw [← hE] at HEN
        have HEE := Lib.hid hE
        clear hE
        go_wp2_with fail
        refine HEN.out.mono ?_
        rintro e w4 ⟨rfl, rfl⟩
        clear HEN
        cases E
        · have HF : Hid (R = none) := by
            show _ = _
            rw [HRT.out, HTS.out, if_neg]
            rintro ⟨e, _⟩
            have := end_of.2 e
            rw [← HEE.out] at this; cases this
          have HB := Lib.hid HP.out.ro.bel
          clear HP HRT HTS HEE
          go_wp2
          go_ret2
          rw [HF.out]
          exact ⟨none, 0, 0, rfl, rfl, .inl ⟨_, _, rfl, rfl⟩, HB.out⟩
        · have HSE : Hid (st = some []) := end_of.1 HEE.out.symm
          have HRR := Lib.hid (row_right aa k cc cs wr (HE.out.keep HP.out.ro.bel) (Rs.of_own HP.out.own) (by unfold maxLen; omega) (fun c hc => by have := HP.out.sz c hc; unfold maxLen; omega))
          obtain ⟨Q, hQ⟩ : ∃ Q, Q = Rm.right cs := ⟨_, rfl⟩
          rw [← hQ] at HRR
          have HF : Hid (R = if Q = true then some cs else none) := by
            show _ = _
            rw [HRT.out, HTS.out, hQ, HSE.out]; simp
          clear HRT HTS HEE HSE hQ
          go_wp2_with fail
          refine HRR.out.mono ?_
          rintro e w5 ⟨rfl, hb⟩
          have HB := Lib.hid (HP.out.ro.bel.trans (hb.mono HP.out.ro.bel.size))
          have HY := Lib.hid ((Rs.of_own HP.out.own).keep hb)
          have hkc := own_lenr HP.out.own
          have HKC := Lib.hid hkc
          clear hb hkc HP HRR
          cases Q
          · go_wp2
            go_ret2
            rw [HF.out]
            exact ⟨none, 0, 0, rfl, rfl, .inl ⟨_, _, rfl, rfl⟩, HB.out⟩
          · go_wp2
            go_ret2
            rw [HF.out]
            exact ⟨aa, k, cc, rfl, HKC.out, HY.out, HB.out⟩
      · subst hst
        obtain ⟨m', rfl⟩ : ∃ m', m = m' + 1 := ⟨m - 1, by omega⟩
        have hm2 : ((m' + 1 : Nat) : Int) - 1 = (m' : Int) := by omega
        have HOK := Lib.hid (ro_ok HP.out.ro)
        have hle := ccell_le (some t)
        have hle1 := bf_le (some t)
        have hle2 := bf_le (Rm.bf (some t)).2
        have HST : Hid (T = ((cs ++ [(Rm.ccell (some t)).1]) ++ (Rm.ccells m' (Rm.ccell (some t)).2).1, (Rm.ccells m' (Rm.ccell (some t)).2).2)) := by
          show _ = _
          rw [HP.out.tot, Rm.ccells]; simp
        have hsl := HP.out.sl
        have HNU := Lib.hid (ro_number HP.out.ro (by omega))
        obtain ⟨cl, hcl⟩ : ∃ cl, cl = (Rm.bf (some t)).1 := ⟨_, rfl⟩
        obtain ⟨s1, hs1⟩ : ∃ s1, s1 = (Rm.bf (some t)).2 := ⟨_, rfl⟩
        have hcc : Rm.ccell (some t) = (⟨cl, (Rm.cval (Rm.bf s1).1 (Rm.bf s1).2).1⟩, (Rm.cval (Rm.bf s1).1 (Rm.bf s1).2).2) := by unfold Rm.ccell; rw [hcl, hs1]
        rw [← hcl, ← hs1] at HNU
        rw [hcc] at HST hle
        rw [← hs1] at hle1
        obtain ⟨cv, hcv⟩ : ∃ cv, cv = (Rm.cval (Rm.bf s1).1 (Rm.bf s1).2).1 := ⟨_, rfl⟩
        obtain ⟨s2, hs2⟩ : ∃ s2, s2 = (Rm.cval (Rm.bf s1).1 (Rm.bf s1).2).2 := ⟨_, rfl⟩
        have hcval : Rm.cval (Rm.bf s1).1 (Rm.bf s1).2 = (cv, s2) := by rw [hcv, hs2]
        rw [← hcv, ← hs2] at HST hle
        dsimp only at HST hle
        have HCV := Lib.hid hcval
        have hs1l : (s1.getD []).length ≤ 100000 := by omega
        have HLE : Hid (cv.s.size ≤ 100000 ∧ (s2.getD []).length ≤ 100000) := ⟨by omega, by omega⟩
        clear hcl hs1 hcc hcv hs2 hcval hle hle1 hle2 hsl
        go_wp2_with fail
        refine HOK.out.mono ?_
        rintro e w3 ⟨rfl, rfl⟩
        have hyes : (some t : Rm.St).isSome = true := rfl
        rw [hyes]
        clear HOK hyes
        go_wp2_with fail
        refine HNU.out.mono ?_
        rintro e w4 ⟨rfl, hw⟩
        have hbF : F b := HP.out.ro.fbb
        have HO4 := Lib.hid (own_keepO11 HP.out.own hw.on (fun i hi e => HP.out.nf i hi (e ▸ hbF)))
        have HR4 := Lib.hid hw.ro
        clear hw HNU
        have HRV := Lib.hid (row_readValue HR4.out (by omega))
        rw [HCV.out] at HRV
        go_wp2_with fail
        refine HRV.out.mono ?_
        rintro e w5 ⟨rfl, hr5, ho5⟩
        have HO5 := Lib.hid (own_keepO11 HO4.out ho5 (fun i hi e => HP.out.nf i hi (e ▸ hbF)))
        have HR5 := Lib.hid hr5
        have hs5 := hr5.bel.size
        clear hr5 ho5 HRV HO4 HR4
        obtain ⟨ck, cn, cz, cx⟩ := cv
        dsimp only
        go_wp2_with (at_builtin; refine wpList_append_src _ rfl _ _ 22 22 rfl w.heap.size 38 i0 zero5 5 48 Tryd.underlying22 HI0.out HZ0.out HZ1.out HZ2.out rfl (.slice aa k cc) k (rcs cs) rfl (HO5.out.alloc _) _ 1 (rcs [(⟨cl, ⟨ck, cn, cz, cx⟩⟩ : Rm.C)]) rfl (lit_srcr w5 (⟨cl, ⟨ck, cn, cz, cx⟩⟩ : Rm.C)) ?qa ?qb ?qc ?_)
        case qa => unfold maxLen; omega
        case qb => omega
        case qc => first | omega | (simp; omega)
        intro v6 w6 hown hgrow hat
        rw [← rcs_append] at hown
        obtain ⟨a6, c6, rfl⟩ := own_formr hown
        have HP6 : Hid (Pl11 w.heap.size b F T m' (k + 1) (.slice a6 (k + 1) c6) (cs ++ [⟨cl, ⟨ck, cn, cz, cx⟩⟩]) s2 w w6) := by
          have hr6 : Ro w.heap.size b s2 F w (w5.alloc (.cells #[.int .i64 cl, .int .i64 ck, .int .i64 cn, .int .i64 cz, .string cx] 38)) := HR5.out.below (one_r _ _)
          refine ⟨HST.out, hown, ?_, ?_, ?_, HLE.out.2⟩
          · refine hr6.keepO (p := fun i => (Value.slice aa k cc).ownBlock = some i) ?_ (fun i hf e => HP.out.nf i e hf) (fun i e => (HP.out.own.lt i e).1)
            exact ⟨hgrow.os, hgrow.tape, hgrow.output, hgrow.size, fun i hi hp => hgrow.block i hi (fun e => hp e.symm)⟩
          · intro i hi hf
            rcases hat with e | e
            · rw [e] at hi; exact HP.out.nf i hi hf
            · rw [e] at hi
              injection hi with hi
              have := HR5.out.fl i hf
              first | omega | (simp at hi; omega)
          · intro c hc
            rcases List.mem_append.1 hc with hc | hc
            · exact HP.out.sz c hc
            · rw [List.mem_singleton] at hc; subst hc; exact HLE.out.1
        clear hown hgrow hat HP HO5 HR5 HST HLE HCV
        go_wp2
        go_roundw
        case rel => exact ⟨m', k + 1, a6, c6, _, s2, by omega, by go_num, (by first | rfl | trivial), by omega, HP6⟩
        case measure => simp [Lib.intOf]
end Go.Proofs.YtmipomglbccjbaaDoor
