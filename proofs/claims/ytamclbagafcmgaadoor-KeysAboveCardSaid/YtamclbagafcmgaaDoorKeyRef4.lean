/- The reference of layer 5: Next. -/
import Derived.Test.YtamclbagafcmgaaDoorKeyRef3
import Derived.Test.YtamclbagafcmgaaDoorKeyNext
import Derived.OrdersHeld
import Derived.BigQuiet
namespace Go.Proofs.YtamclbagafcmgaaDoor
open Go.RowKit

theorem Fx.set1 {g : Nat} {k n sc : Int} {s : ByteArray} {w : World} (h : Fx g k n sc s w) (n' : Int) : Fx g k n' sc s (w.setCell ⟨g, 1, none⟩ (.int .i64 n')) := by
  refine ⟨⟨?_, ?_, ?_, ?_, ?_⟩, fun o => ?_⟩
  · rw [World.cell?_setCell_other (h := ad_ne (.inr (by decide)))]; exact h.bx.c0
  · exact World.cell?_setCell_same _ _ _ h.bx.c1
  · rw [World.cell?_setCell_other (h := ad_ne (.inr (by decide)))]; exact h.bx.c2
  · rw [World.cell?_setCell_other (h := ad_ne (.inr (by decide)))]; exact h.bx.c3
  · have := h.bx.lt; simpa using this
  · have := h.fz o; simpa using this
theorem Fx.set2 {g : Nat} {k n sc : Int} {s : ByteArray} {w : World} (h : Fx g k n sc s w) (sc' : Int) : Fx g k n sc' s (w.setCell ⟨g, 2, none⟩ (.int .i64 sc')) := by
  refine ⟨⟨?_, ?_, ?_, ?_, ?_⟩, fun o => ?_⟩
  · rw [World.cell?_setCell_other (h := ad_ne (.inr (by decide)))]; exact h.bx.c0
  · rw [World.cell?_setCell_other (h := ad_ne (.inr (by decide)))]; exact h.bx.c1
  · exact World.cell?_setCell_same _ _ _ h.bx.c2
  · rw [World.cell?_setCell_other (h := ad_ne (.inr (by decide)))]; exact h.bx.c3
  · have := h.bx.lt; simpa using this
  · have := h.fz o; simpa using this
theorem Fx.set3 {g : Nat} {k n sc : Int} {s : ByteArray} {w : World} (h : Fx g k n sc s w) (s' : ByteArray) : Fx g k n sc s' (w.setCell ⟨g, 3, none⟩ (.string s')) := by
  refine ⟨⟨?_, ?_, ?_, ?_, ?_⟩, fun o => ?_⟩
  · rw [World.cell?_setCell_other (h := ad_ne (.inr (by decide)))]; exact h.bx.c0
  · rw [World.cell?_setCell_other (h := ad_ne (.inr (by decide)))]; exact h.bx.c1
  · rw [World.cell?_setCell_other (h := ad_ne (.inr (by decide)))]; exact h.bx.c2
  · exact World.cell?_setCell_same _ _ _ h.bx.c3
  · have := h.bx.lt; simpa using this
  · have := h.fz o; simpa using this
theorem cell_off (w : World) (g b o j : Nat) (x : Value) (hne : g ≠ b) : (w.setCell ⟨b, o, none⟩ x).cell? ⟨g, j, none⟩ = w.cell? ⟨g, j, none⟩ := World.cell?_setCell_other w ⟨b, o, none⟩ ⟨g, j, none⟩ x (ad_ne (.inl hne.symm))
theorem Fx.other {g b o : Nat} {k n sc : Int} {s : ByteArray} {w : World} (h : Fx g k n sc s w) (hne : g ≠ b) (x : Value) : Fx g k n sc s (w.setCell ⟨b, o, none⟩ x) := by
  refine ⟨⟨?_, ?_, ?_, ?_, ?_⟩, fun o => ?_⟩
  · rw [cell_off _ _ _ _ _ _ hne]; exact h.bx.c0
  · rw [cell_off _ _ _ _ _ _ hne]; exact h.bx.c1
  · rw [cell_off _ _ _ _ _ _ hne]; exact h.bx.c2
  · rw [cell_off _ _ _ _ _ _ hne]; exact h.bx.c3
  · have := h.bx.lt; simpa using this
  · have := h.fz o; simpa using this

theorem one_b (w : World) (x : Obj) : Below w.heap.size w (w.alloc x) := (Below.refl _ _).alloc (Nat.le_refl _) _
/-- the answer and a value, each in a block of its own -/
structure Nx (w : World) (k n sc : Int) (s : ByteArray) (W : World) : Prop where
  r : Fx w.heap.size 0 0 0 ⟨#[]⟩ W
  v : Fx (w.heap.size + 1) k n sc s W
  bel : Below w.heap.size w W
theorem Nx.new (w : World) (k n sc : Int) (s : ByteArray) (u : TypeId) : Nx w k n sc s ((w.alloc (.cells #[.int .i64 0, .int .i64 0, .int .i64 0, .string ⟨#[]⟩] u)).alloc (.cells #[.int .i64 k, .int .i64 n, .int .i64 sc, .string s] u)) := by
  have h1 : Below w.heap.size w (w.alloc (.cells #[.int .i64 0, .int .i64 0, .int .i64 0, .string ⟨#[]⟩] u)) := (Below.refl _ _).alloc (Nat.le_refl _) _
  have h := Fx.new (w.alloc (.cells #[.int .i64 0, .int .i64 0, .int .i64 0, .string ⟨#[]⟩] u)) k n sc s u
  rw [show (w.alloc (.cells #[.int .i64 0, .int .i64 0, .int .i64 0, .string ⟨#[]⟩] u)).heap.size = w.heap.size + 1 by simp] at h
  exact ⟨(Fx.new w 0 0 0 ⟨#[]⟩ u).keep ((Below.refl _ _).alloc (Nat.le_refl _) _), h, h1.alloc (by simp) _⟩
theorem Nx.keep {w w1 w2 : World} {k n sc : Int} {s : ByteArray} (h : Nx w k n sc s w1) (hb : Below w1.heap.size w1 w2) : Nx w k n sc s w2 := ⟨h.r.keep hb, h.v.keep hb, h.bel.trans (hb.mono h.bel.size)⟩
theorem Nx.set1 {w w1 : World} {k n sc : Int} {s : ByteArray} (h : Nx w k n sc s w1) (n' : Int) : Nx w k n' sc s (w1.setCell ⟨w.heap.size + 1, 1, none⟩ (.int .i64 n')) := ⟨h.r.other (by omega) _, h.v.set1 n', h.bel.setCell (Nat.le_succ _) _⟩
theorem Nx.set2 {w w1 : World} {k n sc : Int} {s : ByteArray} (h : Nx w k n sc s w1) (n' : Int) : Nx w k n n' s (w1.setCell ⟨w.heap.size + 1, 2, none⟩ (.int .i64 n')) := ⟨h.r.other (by omega) _, h.v.set2 n', h.bel.setCell (Nat.le_succ _) _⟩
theorem Nx.set3 {w w1 : World} {k n sc : Int} {s : ByteArray} (h : Nx w k n sc s w1) (n' : ByteArray) : Nx w k n sc n' (w1.setCell ⟨w.heap.size + 1, 3, none⟩ (.string n')) := ⟨h.r.other (by omega) _, h.v.set3 n', h.bel.setCell (Nat.le_succ _) _⟩

theorem Fx.keepB {B g : Nat} {k n sc : Int} {s : ByteArray} {w w' : World} (h : Fx g k n sc s w) (hb : Below B w w') (hg : g < B) : Fx g k n sc s w' :=
  ⟨⟨(hb.cell (p := ⟨g, 0, none⟩) hg).trans h.bx.c0, (hb.cell (p := ⟨g, 1, none⟩) hg).trans h.bx.c1, (hb.cell (p := ⟨g, 2, none⟩) hg).trans h.bx.c2, (hb.cell (p := ⟨g, 3, none⟩) hg).trans h.bx.c3, by have := h.bx.lt; have := hb.size; omega⟩,
    fun o => (hb.frozen (p := ⟨g, o, none⟩) hg).trans (h.fz o)⟩
theorem Nx.keepB {w w1 w2 : World} {k n sc : Int} {s : ByteArray} (h : Nx w k n sc s w1) (hb : Below (w.heap.size + 1 + 1) w1 w2) : Nx w k n sc s w2 :=
  ⟨h.r.keepB hb (by omega), h.v.keepB hb (by omega), h.bel.trans (hb.mono (by omega))⟩

abbrev NxC (w : World) (k n sc : Int) (s : ByteArray) (w' : World) : Prop :=
  w'.cell? ⟨w.heap.size + 1, 0, none⟩ = some (.int .i64 k) ∧ w'.cell? ⟨w.heap.size + 1, 1, none⟩ = some (.int .i64 n) ∧ w'.cell? ⟨w.heap.size + 1, 2, none⟩ = some (.int .i64 sc) ∧ w'.cell? ⟨w.heap.size + 1, 3, none⟩ = some (.string s) ∧
  Hid (Nx w k n sc s w')
theorem NxC.of {w W : World} {k n sc : Int} {s : ByteArray} (h : Nx w k n sc s W) : NxC w k n sc s W := ⟨h.v.bx.c0, h.v.bx.c1, h.v.bx.c2, h.v.bx.c3, h⟩
theorem NxC.nx {w W : World} {k n sc : Int} {s : ByteArray} (h : NxC w k n sc s W) : Nx w k n sc s W := h.2.2.2.2
theorem NxC.keep {w w1 w2 : World} {k n sc : Int} {s : ByteArray} (h : NxC w k n sc s w1) (hb : Below w1.heap.size w1 w2) : NxC w k n sc s w2 := NxC.of (h.nx.keep hb)

/-- what a function that answers a value and a length leaves -/
def NxA (p : Vm.Cl × Nat) (w : World) (e : Ending) (w' : World) : Prop := e = .returned (.tuple #[.agg #[.int .i64 p.1.k, .int .i64 p.1.n, .int .i64 p.1.sc, .string p.1.s], .int .i64 (p.2 : Int)]) ∧ Below w.heap.size w w'
theorem NxA.mk {p : Vm.Cl × Nat} {k n sc x : Int} {s : ByteArray} {w w' : World} (h : p.1 = ⟨k, n, sc, s⟩) (hx : (p.2 : Int) = x) (hb : Below w.heap.size w w') : NxA p w (.returned (.tuple #[.agg #[.int .i64 k, .int .i64 n, .int .i64 sc, .string s], .int .i64 x])) w' := by
  subst hx; exact ⟨by rw [h], hb⟩

theorem at_list (s : ByteArray) (l : List UInt8) (hs : s.data.toList = l) (j : Nat) (h : j < s.size) (h2 : j < l.length) : s[j].toNat = l[j].toNat := by
  subst hs
  have : s[j] = s.data.toList[j]'(h2) := by simp; rfl
  rw [this]

set_option maxHeartbeats 4000000 in
set_option maxRecDepth 100000 in
theorem next_cut (s : ByteArray) (k : UInt8) (r : List UInt8) (w : World) (hs : s.data.toList = k :: r) (hz : s.size ≤ 1000) : Calls Tryd.prog 17 #[.string s] w (NxA (Vm.nxt (k :: r)) w) := by
  have hlen : r.length + 1 = s.size := by
    have h : s.data.toList.length = s.size := by simp
    rw [hs, List.length_cons] at h; exact h
  have hsz : 0 < s.size := by omega
  have hq : s.toList.isEmpty = false := by rw [Lib.toList_data, hs]; rfl
  obtain ⟨K, hK⟩ : ∃ K : Int, (k.toNat : Int) = K := ⟨_, rfl⟩
  have hk0 : (s[0].toNat : Int) = K := by rw [at_list s _ hs 0 hsz (by simp), ← hK]; rfl
  have hKb : 0 ≤ K ∧ K < 256 := by have := k.toNat_lt; omega
  obtain ⟨hKa, hKz⟩ := hKb
  have hkw : wrap64 K = K := by unfold wrap64; omega
  have N0 := Lib.hid (Nx.new w K 0 0 ⟨#[]⟩ 29)
  obtain ⟨PL, hPL⟩ : ∃ PL, PL = Vm.nxt (k :: r) := ⟨_, rfl⟩
  rw [← hPL]
  have HPL := Lib.hid hPL
  have HS := Lib.hid hs
  have HKK := Lib.hid hK
  clear hPL hs hK
  go_enter Tryd.func17, Tryd.ntmps17
  go_upto_block 0 with (fail)
  go_cut [5] (fun nv wx => ∃ (n : Nat) (N sc : Int) (S : ByteArray), nv = .int .i64 (n : Int) ∧ n ≤ 2000 ∧ S.size ≤ 1000 ∧ Hid (Nx w K N sc S wx) ∧ Hid (i64 N) ∧ Hid (Vm.Tl (k :: r) ⟨K, N, sc, S⟩ n))
  case first =>
    rcases (show K = 0 ∨ K = 1 ∨ K = 2 ∨ K = 3 ∨ K = 4 ∨ K = 5 ∨ 6 ≤ K by omega) with rfl | rfl | rfl | rfl | rfl | rfl | h6
    · have hT := Vm.tl_0 r
      rw [show (0 : UInt8) = k from (UInt8.toNat_inj.1 (by have := HKK.out; show k.toNat = _; exact Int.ofNat_inj.1 this)).symm] at hT
      have HT := Lib.hid hT
      clear hT
      go_wp2_with fail
      go_meet
      exact ⟨1, 0, 0, ⟨#[]⟩, rfl, by omega, by decide, N0, Vm.i64_z, HT⟩
    · have hk : k = 1 := UInt8.toNat_inj.1 (by have := HKK.out; show k.toNat = _; exact Int.ofNat_inj.1 this)
      cases r with
      | nil =>
        have HT : Hid (Vm.Tl [k] ⟨1, 0, 0, ⟨#[]⟩⟩ 2) := by show Vm.Tl _ _ _; rw [hk]; exact Vm.tl_1a
        have h1 : (s.size : Int) ≤ 1 := by simp at hlen; omega
        clear hlen
        go_wp2_with fail
        go_meet
        exact ⟨2, 0, 0, ⟨#[]⟩, rfl, by omega, by decide, N0, Vm.i64_z, HT⟩
      | cons b r =>
        rw [List.length_cons] at hlen
        have h1 : (1 : Int) < (s.size : Int) := by omega
        have hb1 : s[1].toNat = b.toNat := by rw [at_list s _ HS.out 1 (by omega) (by simp)]; rfl
        have hbw : wrap64 (b.toNat : Int) = (b.toNat : Int) := IntWalk.wrap64_in _ (by have := b.toNat_lt; omega)
        have HT : Hid (Vm.Tl (k :: b :: r) ⟨1, (b.toNat : Int), 0, ⟨#[]⟩⟩ 2) := by show Vm.Tl _ _ _; rw [hk]; exact Vm.tl_1b b r
        have hbi : i64 (b.toNat : Int) := by have := b.toNat_lt; exact ⟨by omega, by omega⟩
        have HBI := Lib.hid hbi
        clear hbi hk
        go_wp2_with fail
        go_meet
        first
        | exact ⟨2, _, 0, ⟨#[]⟩, rfl, by omega, by decide, Nx.new w 1 _ 0 ⟨#[]⟩ _, HBI, HT⟩
        | exact ⟨2, _, 0, ⟨#[]⟩, rfl, by omega, by decide, N0.out.set1 _, HBI, HT⟩
    · have hk : k = 2 := UInt8.toNat_inj.1 (by have := HKK.out; show k.toNat = _; exact Int.ofNat_inj.1 this)
      by_cases hs9 : s.size < 9
      · have HN : Hid (PL = (Vm.nil, 0)) := by show _ = _; rw [HPL.out, hk]; exact Vm.nxt_none (by rw [Vm.next_2, if_pos (by omega)])
        have hs9' : (s.size : Int) < 9 := by omega
        clear hk
        go_wp2_with fail
        refine bodyPost_ret (v := .tuple #[.agg #[.int .i64 0, .int .i64 0, .int .i64 0, .string ⟨#[]⟩], .int .i64 0]) (by simp [results, Tryd.results17, go_sem]) rfl ?_
        exact NxA.mk (by rw [HN.out]; rfl) (by rw [HN.out]; rfl) (two w _ _)
      have hs9' : (9 : Int) ≤ (s.size : Int) := by omega
      have HT : Hid (Vm.Tl (k :: r) ⟨2, (Wm.val (r.take 8) : Int) - 9223372036854775808, 0, ⟨#[]⟩⟩ 9) := by
        show Vm.Tl _ _ _
        rw [hk]; exact Vm.tl_2 r (by omega)
      have HI : ∀ (m : Nat) (h : m < r.length) (h2 : m + 1 < s.size), s[m + 1].toNat = r[m].toNat := fun m h h2 => by rw [at_list s _ HS.out (m + 1) h2 (by simp; omega)]; rfl
      have HI' := Lib.hid HI
      clear HI hk
      go_wp2_with fail
      go_loop [6, 7] (fun uv iv => ∃ (m U : Nat), m ≤ 8 ∧ iv = .int .i64 ((m : Int) + 1) ∧ uv = .int .u64 (U : Int) ∧ Hid (U = Wm.val (r.take m))) (fun _ iv => 9 - (Lib.intOf iv).toNat)
      case atStart => exact ⟨0, 0, by omega, by first | rfl | go_num, rfl, rfl⟩
      case round =>
        obtain ⟨m, U, hm, rfl, rfl, HU⟩ := hrel
        by_cases hlt : m < 8
        · have hmr : m < r.length := by omega
          obtain ⟨c, hc⟩ : ∃ c, r[m] = c := ⟨_, rfl⟩
          have hix := HI'.out m hmr (by omega)
          rw [hc] at hix
          have HU2 : Hid (256 * U + c.toNat = Wm.val (r.take (m + 1))) := by show _ = _; rw [Vm.val_next r m hmr, HU.out, hc]
          have hU7 : (U : Int) ≤ 72057594037927935 := by have := Vm.val_b7 r m (by omega); rw [HU.out]; omega
          have hcb : (c.toNat : Int) ≤ 255 := by have := c.toNat_lt; omega
          clear hc
          go_wp2
          go_round
          case rel => exact ⟨m + 1, 256 * U + c.toNat, by omega, by go_num, by go_num, HU2⟩
          case measure => simp [Lib.intOf]; omega
        · have hm8 : m = 8 := by omega
          have hV := Vm.val_b8 r
          obtain ⟨V, hVe⟩ : ∃ V : Int, V = (Wm.val (r.take 8) : Int) := ⟨_, rfl⟩
          have hUV : (U : Int) = V := by rw [HU.out, hm8, hVe]
          have h0 : 0 ≤ V := by omega
          rw [← hVe] at HT hV
          have hcv : wrap64 (IntKind.u64.wrap (V + 9223372036854775808)) = V - 9223372036854775808 := by
            rw [IntKind.wrap_u64]; unfold wrap64; omega
          have HIV := Lib.hid (Vm.i64_val V h0 hV)
          clear hVe hV h0 HU hm8
          rw [hUV]
          go_wp2_with fail
          go_meet
          exact ⟨9, _, 0, ⟨#[]⟩, rfl, by omega, by decide, Nx.new w 2 _ 0 ⟨#[]⟩ _, HIV, HT⟩
    · have hk : k = 3 := UInt8.toNat_inj.1 (by have := HKK.out; show k.toNat = _; exact Int.ofNat_inj.1 this)
      by_cases hs9 : s.size < 10
      · have HN : Hid (PL = (Vm.nil, 0)) := by show _ = _; rw [HPL.out, hk]; exact Vm.nxt_none (Vm.next_3s r (by omega))
        have hs9' : (s.size : Int) < 10 := by omega
        clear hk
        go_wp2_with fail
        refine bodyPost_ret (v := .tuple #[.agg #[.int .i64 0, .int .i64 0, .int .i64 0, .string ⟨#[]⟩], .int .i64 0]) (by simp [results, Tryd.results17, go_sem]) rfl ?_
        exact NxA.mk (by rw [HN.out]; rfl) (by rw [HN.out]; rfl) (two w _ _)
      obtain ⟨b, t, rfl⟩ : ∃ b t, r = b :: t := by
        cases r with
        | nil => simp at hlen; omega
        | cons b t => exact ⟨b, t, rfl⟩
      rw [List.length_cons] at hlen
      have hs9' : (10 : Int) ≤ (s.size : Int) := by omega
      obtain ⟨B, hB⟩ : ∃ B : Int, (b.toNat : Int) = B := ⟨_, rfl⟩
      have hb1 : (s[1].toNat : Int) = B := by rw [at_list s _ HS.out 1 (by omega) (by simp), ← hB]; rfl
      have hB0 : 0 ≤ B := by omega
      have hB1 : B ≤ 255 := by have := b.toNat_lt; omega
      have HT : Hid (Vm.Tl (k :: b :: t) ⟨3, (Wm.val (t.take 8) : Int) - 9223372036854775808, B, ⟨#[]⟩⟩ 10) := by
        show Vm.Tl _ _ _
        rw [hk, ← hB]; exact Vm.tl_3 b t (by omega)
      clear hB
      have HI : ∀ (m : Nat) (h : m < t.length) (h2 : m + 2 < s.size), s[m + 2].toNat = t[m].toNat := fun m h h2 => by rw [at_list s _ HS.out (m + 2) h2 (by simp; omega)]; rfl
      have HI' := Lib.hid HI
      clear HI hk
      go_wp2_with fail
      go_loop [6, 7] (fun uv iv => ∃ (m U : Nat), m ≤ 8 ∧ iv = .int .i64 ((m : Int) + 2) ∧ uv = .int .u64 (U : Int) ∧ Hid (U = Wm.val (t.take m))) (fun _ iv => 10 - (Lib.intOf iv).toNat)
      case atStart => exact ⟨0, 0, by omega, by first | rfl | go_num, rfl, rfl⟩
      case round =>
        obtain ⟨m, U, hm, rfl, rfl, HU⟩ := hrel
        by_cases hlt : m < 8
        · have hmr : m < t.length := by omega
          obtain ⟨c, hc⟩ : ∃ c, t[m] = c := ⟨_, rfl⟩
          have hix := HI'.out m hmr (by omega)
          rw [hc] at hix
          have HU2 : Hid (256 * U + c.toNat = Wm.val (t.take (m + 1))) := by show _ = _; rw [Vm.val_next t m hmr, HU.out, hc]
          have hU7 : (U : Int) ≤ 72057594037927935 := by have := Vm.val_b7 t m (by omega); rw [HU.out]; omega
          have hcb : (c.toNat : Int) ≤ 255 := by have := c.toNat_lt; omega
          clear hc
          go_wp2
          go_round
          case rel => exact ⟨m + 1, 256 * U + c.toNat, by omega, by go_num, by go_num, HU2⟩
          case measure => simp [Lib.intOf]; omega
        · have hm8 : m = 8 := by omega
          have hV := Vm.val_b8 t
          obtain ⟨V, hVe⟩ : ∃ V : Int, V = (Wm.val (t.take 8) : Int) := ⟨_, rfl⟩
          have hUV : (U : Int) = V := by rw [HU.out, hm8, hVe]
          have h0 : 0 ≤ V := by omega
          rw [← hVe] at HT hV
          have hcv : wrap64 (IntKind.u64.wrap (V + 9223372036854775808)) = V - 9223372036854775808 := by
            rw [IntKind.wrap_u64]; unfold wrap64; omega
          have HIV := Lib.hid (Vm.i64_val V h0 hV)
          clear hVe hV h0 HU hm8
          rw [hUV]
          go_wp2_with fail
          go_meet
          exact ⟨10, _, _, ⟨#[]⟩, rfl, by omega, by decide, Nx.new w 3 _ _ ⟨#[]⟩ _, HIV, HT⟩
    · have hk : k = 4 := UInt8.toNat_inj.1 (by have := HKK.out; show k.toNat = _; exact Int.ofNat_inj.1 this)
      have hk45 : k = 4 ∨ k = 5 := by rw [hk]; decide
      obtain ⟨i0, hi0, hz0, hz1, hz2⟩ := info_parts info5y
      have HI0 := Lib.hid hi0; have HZ0 := Lib.hid hz0; have HZ1 := Lib.hid hz1; have HZ2 := Lib.hid hz2
      clear hi0 hz0 hz1 hz2
      have HI : Hid (∀ (m : Nat) (h : m < r.length) (h2 : m + 1 < s.size), s[m + 1].toNat = r[m].toNat) := fun m h h2 => by rw [at_list s _ HS.out (m + 1) h2 (by simp; omega)]; rfl
      go_wp2_with fail
      go_loopw [8, 9] (fun tv iv wr => ∃ (i nn : Nat) (aa : Option Addr) (cc : Nat) (t : List UInt8), i ≤ r.length ∧ iv = .int .i64 ((i : Int) + 1) ∧ tv = .slice aa nn cc ∧ nn ≤ i ∧ Hid (t.length = nn) ∧ Hid (wr.ownsRow (w.heap.size + 1 + 1) 5 1 (.slice aa nn cc) nn (yc t)) ∧ Hid (Vm.Un r i t) ∧ Hid (Nx w 4 0 0 ⟨#[]⟩ wr)) (fun _ iv _ => 2000 - (Lib.intOf iv).toNat)
      case atStart => exact ⟨0, 0, none, 0, [], by omega, by first | rfl | go_num, rfl, by omega, rfl, World.ownsRow_nil _ _ _ _, Vm.un_start r, N0.out⟩
      case round =>
        obtain ⟨i, nn, aa, cc, t, hir, rfl, rfl, hni, HTL, HO, HUN, NX⟩ := hrel
        have hsz := NX.out.v.bx.lt
        by_cases hin : i + 1 < r.length
        · obtain ⟨c, hc⟩ : ∃ c, r[i] = c := ⟨_, rfl⟩
          obtain ⟨d, hd⟩ : ∃ d, r[i + 1] = d := ⟨_, rfl⟩
          have hix := HI.out i (by omega) (by omega)
          have hix2 := HI.out (i + 1) (by omega) (by omega)
          rw [hc] at hix
          rw [hd] at hix2
          by_cases c0 : c = 0
          · by_cases d1 : d = 1
            · have p1 : ((c.toNat : Int) == 0) = true := by rw [c0]; rfl
              have p2 : ((d.toNat : Int) == 1) = true := by rw [d1]; rfl
              have HT : Hid (Vm.Tl (k :: r) ⟨4, 0, 0, ⟨t.toArray⟩⟩ (i + 3)) := by
                have := Vm.tl_end k hk45 r i t HUN.out hin (by rw [hc, c0]) (by rw [hd, d1])
                rw [hk] at this ⊢
                exact this
              have hcv := (Yt.of_own HO.out).str
              have r0 := NX.out.v.bx.c0; have r1 := NX.out.v.bx.c1; have r2 := NX.out.v.bx.c2; have r3 := NX.out.v.bx.c3; have rf := NX.out.v.fz; have rl := NX.out.v.bx.lt
              have htz : (bstr t).size ≤ 1000 := by rw [bstr_size, HTL.out]; omega
              have HZ := Lib.hid htz
              clear htz
              go_wp2
              go_meet
              exact ⟨i + 3, 0, 0, bstr t, by go_num, by omega, HZ.out, NX.out.set3 _, Vm.i64_z, HT⟩

            have p1 : ((c.toNat : Int) == 0) = true := by rw [c0]; rfl
            have p2 : ((d.toNat : Int) == 1) = false := by rw [beq_eq_false_iff_ne]; intro e; exact d1 (UInt8.toNat_inj.1 (by show d.toNat = 1; omega))
            by_cases d2 : d = 255
            · have p3 : ((d.toNat : Int) != 255) = false := by rw [d2]; rfl
              have HU2 : Hid (Vm.Un r (i + 2) (t ++ [c])) := by show Vm.Un _ _ _; rw [c0]; exact Vm.un_zero HUN.out hin (by rw [hc, c0]) (by rw [hd, d2])
              clear hc hd c0 d1 d2
              go_wp2_with (at_builtin; refine wpList_append_src _ rfl (.tmp 88) (.tmp 92) 25 25 rfl (w.heap.size + 1 + 1) 5 i0 (.int .u8 0) 1 1 Tryd.underlying25 HI0.out HZ0.out HZ1.out HZ2.out rfl (.slice aa nn cc) nn (yc t) rfl (HO.out.alloc _) _ 1 (yc [c]) rfl ?qs ?qa ?qb ?qc ?_)
              case qs => exact lit_srcy wr c
              case qa => unfold maxLen; omega
              case qb => omega
              case qc => simp; omega
              intro v2 w2 hown hgrow hat
              have hN2 := NX.out.keepB (((Below.refl _ wr).alloc hsz _).grown hgrow (by simp; omega) (fun i hi => (HO.out.lt i hi).1))
              rw [← yc_append] at hown
              obtain ⟨a2, c2, hv2⟩ : ∃ a2 c2, v2 = .slice a2 (nn + 1) c2 := by
                obtain ⟨a2, c2, e⟩ := (Yt.of_own hown).form
                rw [List.length_append, HTL.out] at e; exact ⟨a2, c2, e⟩
              rw [hv2] at hown ⊢
              have HO2 := Lib.hid hown
              have HN2 := Lib.hid hN2
              clear hown hgrow hat hN2 hv2

              go_wp2
              go_roundw
              case rel => exact ⟨i + 2, nn + 1, a2, c2, t ++ [c], by omega, by go_num, rfl, by omega, by show (t ++ [c]).length = nn + 1; rw [List.length_append, HTL.out]; rfl, HO2, HU2, HN2⟩
              case measure => simp [Lib.intOf]; omega
            · have p3 : ((d.toNat : Int) != 255) = true := by
                rw [bne_iff_ne]; intro e; exact d2 (UInt8.toNat_inj.1 (by show d.toNat = 255; omega))
              have HN : Hid (PL = (Vm.nil, 0)) := by show _ = _; rw [HPL.out]; exact Vm.nxt_none (Vm.next_tn k hk45 r (Vm.un_bad HUN.out hin (by rw [hc, c0]) (by rw [hd]; exact d1) (by rw [hd]; exact d2)))
              clear hc hd c0 d1 d2
              go_wp2_with (at_builtin; refine wpList_append_src _ rfl (.tmp 88) (.tmp 92) 25 25 rfl (w.heap.size + 1 + 1) 5 i0 (.int .u8 0) 1 1 Tryd.underlying25 HI0.out HZ0.out HZ1.out HZ2.out rfl (.slice aa nn cc) nn (yc t) rfl (HO.out.alloc _) _ 1 (yc [c]) rfl ?qs ?qa ?qb ?qc ?_)
              case qs => exact lit_srcy wr c
              case qa => unfold maxLen; omega
              case qb => omega
              case qc => simp; omega
              intro v2 w2 hown hgrow hat
              have hN2 := NX.out.keepB (((Below.refl _ wr).alloc hsz _).grown hgrow (by simp; omega) (fun i hi => (HO.out.lt i hi).1))
              rw [← yc_append] at hown
              obtain ⟨a2, c2, hv2⟩ : ∃ a2 c2, v2 = .slice a2 (nn + 1) c2 := by
                obtain ⟨a2, c2, e⟩ := (Yt.of_own hown).form
                rw [List.length_append, HTL.out] at e; exact ⟨a2, c2, e⟩
              rw [hv2] at hown ⊢
              have HO2 := Lib.hid hown
              have HN2 := Lib.hid hN2
              clear hown hgrow hat hN2 hv2

              have r0 := HN2.out.r.bx.c0; have r1 := HN2.out.r.bx.c1; have r2 := HN2.out.r.bx.c2; have r3 := HN2.out.r.bx.c3; have rf := HN2.out.r.fz; have rl := HN2.out.r.bx.lt
              go_wp2
              refine bodyPost_ret (v := .tuple #[.agg #[.int .i64 0, .int .i64 0, .int .i64 0, .string ⟨#[]⟩], .int .i64 0]) (by simp [results, Tryd.results17, go_sem, r0, r1, r2, r3]) rfl ?_
              exact NxA.mk (by rw [HN.out]; rfl) (by rw [HN.out]; rfl) (set4 HN2.out.bel (Nat.le_refl _) _ _ _ _)
          · have p1 : ((c.toNat : Int) == 0) = false := by rw [beq_eq_false_iff_ne]; intro e; exact c0 (UInt8.toNat_inj.1 (by show c.toNat = 0; omega))
            have HU2 : Hid (Vm.Un r (i + 1) (t ++ [c])) := by
              have := Vm.un_one HUN.out hin (by rw [hc]; exact c0)
              rw [hc] at this; exact this
            clear hc hd c0
            go_wp2_with (at_builtin; refine wpList_append_src _ rfl (.tmp 88) (.tmp 92) 25 25 rfl (w.heap.size + 1 + 1) 5 i0 (.int .u8 0) 1 1 Tryd.underlying25 HI0.out HZ0.out HZ1.out HZ2.out rfl (.slice aa nn cc) nn (yc t) rfl (HO.out.alloc _) _ 1 (yc [c]) rfl ?qs ?qa ?qb ?qc ?_)
            case qs => exact lit_srcy wr c
            case qa => unfold maxLen; omega
            case qb => omega
            case qc => simp; omega
            intro v2 w2 hown hgrow hat
            have hN2 := NX.out.keepB (((Below.refl _ wr).alloc hsz _).grown hgrow (by simp; omega) (fun i hi => (HO.out.lt i hi).1))
            rw [← yc_append] at hown
            obtain ⟨a2, c2, hv2⟩ : ∃ a2 c2, v2 = .slice a2 (nn + 1) c2 := by
              obtain ⟨a2, c2, e⟩ := (Yt.of_own hown).form
              rw [List.length_append, HTL.out] at e; exact ⟨a2, c2, e⟩
            rw [hv2] at hown ⊢
            have HO2 := Lib.hid hown
            have HN2 := Lib.hid hN2
            clear hown hgrow hat hN2 hv2

            go_wp2
            go_roundw
            case rel => exact ⟨i + 1, nn + 1, a2, c2, t ++ [c], by omega, by go_num, rfl, by omega, by show (t ++ [c]).length = nn + 1; rw [List.length_append, HTL.out]; rfl, HO2, HU2, HN2⟩
            case measure => simp [Lib.intOf]; omega
        · 
          have HT : Hid (Vm.Tl (k :: r) ⟨4, 0, 0, ⟨t.toArray⟩⟩ (i + 3)) := by
            have := Vm.tl_short k hk45 r i t ⟨4, 0, 0, ⟨t.toArray⟩⟩ HUN.out (by omega)
            rw [hk] at this ⊢
            exact this
          have hcv := (Yt.of_own HO.out).str
          have r0 := NX.out.v.bx.c0; have r1 := NX.out.v.bx.c1; have r2 := NX.out.v.bx.c2; have r3 := NX.out.v.bx.c3; have rf := NX.out.v.fz; have rl := NX.out.v.bx.lt
          have htz : (bstr t).size ≤ 1000 := by rw [bstr_size, HTL.out]; omega
          have HZ := Lib.hid htz
          clear htz
          go_wp2
          go_meet
          exact ⟨i + 3, 0, 0, bstr t, by go_num, by omega, HZ.out, NX.out.set3 _, Vm.i64_z, HT⟩
    · have hk : k = 5 := UInt8.toNat_inj.1 (by have := HKK.out; show k.toNat = _; exact Int.ofNat_inj.1 this)
      have hk45 : k = 4 ∨ k = 5 := by rw [hk]; decide
      obtain ⟨i0, hi0, hz0, hz1, hz2⟩ := info_parts info5y
      have HI0 := Lib.hid hi0; have HZ0 := Lib.hid hz0; have HZ1 := Lib.hid hz1; have HZ2 := Lib.hid hz2
      clear hi0 hz0 hz1 hz2
      have HI : Hid (∀ (m : Nat) (h : m < r.length) (h2 : m + 1 < s.size), s[m + 1].toNat = r[m].toNat) := fun m h h2 => by rw [at_list s _ HS.out (m + 1) h2 (by simp; omega)]; rfl
      go_wp2_with fail
      go_loopw [8, 9] (fun tv iv wr => ∃ (i nn : Nat) (aa : Option Addr) (cc : Nat) (t : List UInt8), i ≤ r.length ∧ iv = .int .i64 ((i : Int) + 1) ∧ tv = .slice aa nn cc ∧ nn ≤ i ∧ Hid (t.length = nn) ∧ Hid (wr.ownsRow (w.heap.size + 1 + 1) 5 1 (.slice aa nn cc) nn (yc t)) ∧ Hid (Vm.Un r i t) ∧ Hid (Nx w 5 0 0 ⟨#[]⟩ wr)) (fun _ iv _ => 2000 - (Lib.intOf iv).toNat)
      case atStart => exact ⟨0, 0, none, 0, [], by omega, by first | rfl | go_num, rfl, by omega, rfl, World.ownsRow_nil _ _ _ _, Vm.un_start r, N0.out⟩
      case round =>
        obtain ⟨i, nn, aa, cc, t, hir, rfl, rfl, hni, HTL, HO, HUN, NX⟩ := hrel
        have hsz := NX.out.v.bx.lt
        by_cases hin : i + 1 < r.length
        · obtain ⟨c, hc⟩ : ∃ c, r[i] = c := ⟨_, rfl⟩
          obtain ⟨d, hd⟩ : ∃ d, r[i + 1] = d := ⟨_, rfl⟩
          have hix := HI.out i (by omega) (by omega)
          have hix2 := HI.out (i + 1) (by omega) (by omega)
          rw [hc] at hix
          rw [hd] at hix2
          by_cases c0 : c = 0
          · by_cases d1 : d = 1
            · have p1 : ((c.toNat : Int) == 0) = true := by rw [c0]; rfl
              have p2 : ((d.toNat : Int) == 1) = true := by rw [d1]; rfl
              have HT : Hid (Vm.Tl (k :: r) ⟨5, 0, 0, ⟨t.toArray⟩⟩ (i + 3)) := by
                have := Vm.tl_end k hk45 r i t HUN.out hin (by rw [hc, c0]) (by rw [hd, d1])
                rw [hk] at this ⊢
                exact this
              have hcv := (Yt.of_own HO.out).str
              have r0 := NX.out.v.bx.c0; have r1 := NX.out.v.bx.c1; have r2 := NX.out.v.bx.c2; have r3 := NX.out.v.bx.c3; have rf := NX.out.v.fz; have rl := NX.out.v.bx.lt
              have htz : (bstr t).size ≤ 1000 := by rw [bstr_size, HTL.out]; omega
              have HZ := Lib.hid htz
              clear htz
              go_wp2
              go_meet
              exact ⟨i + 3, 0, 0, bstr t, by go_num, by omega, HZ.out, NX.out.set3 _, Vm.i64_z, HT⟩

            have p1 : ((c.toNat : Int) == 0) = true := by rw [c0]; rfl
            have p2 : ((d.toNat : Int) == 1) = false := by rw [beq_eq_false_iff_ne]; intro e; exact d1 (UInt8.toNat_inj.1 (by show d.toNat = 1; omega))
            by_cases d2 : d = 255
            · have p3 : ((d.toNat : Int) != 255) = false := by rw [d2]; rfl
              have HU2 : Hid (Vm.Un r (i + 2) (t ++ [c])) := by show Vm.Un _ _ _; rw [c0]; exact Vm.un_zero HUN.out hin (by rw [hc, c0]) (by rw [hd, d2])
              clear hc hd c0 d1 d2
              go_wp2_with (at_builtin; refine wpList_append_src _ rfl (.tmp 88) (.tmp 92) 25 25 rfl (w.heap.size + 1 + 1) 5 i0 (.int .u8 0) 1 1 Tryd.underlying25 HI0.out HZ0.out HZ1.out HZ2.out rfl (.slice aa nn cc) nn (yc t) rfl (HO.out.alloc _) _ 1 (yc [c]) rfl ?qs ?qa ?qb ?qc ?_)
              case qs => exact lit_srcy wr c
              case qa => unfold maxLen; omega
              case qb => omega
              case qc => simp; omega
              intro v2 w2 hown hgrow hat
              have hN2 := NX.out.keepB (((Below.refl _ wr).alloc hsz _).grown hgrow (by simp; omega) (fun i hi => (HO.out.lt i hi).1))
              rw [← yc_append] at hown
              obtain ⟨a2, c2, hv2⟩ : ∃ a2 c2, v2 = .slice a2 (nn + 1) c2 := by
                obtain ⟨a2, c2, e⟩ := (Yt.of_own hown).form
                rw [List.length_append, HTL.out] at e; exact ⟨a2, c2, e⟩
              rw [hv2] at hown ⊢
              have HO2 := Lib.hid hown
              have HN2 := Lib.hid hN2
              clear hown hgrow hat hN2 hv2

              go_wp2
              go_roundw
              case rel => exact ⟨i + 2, nn + 1, a2, c2, t ++ [c], by omega, by go_num, rfl, by omega, by show (t ++ [c]).length = nn + 1; rw [List.length_append, HTL.out]; rfl, HO2, HU2, HN2⟩
              case measure => simp [Lib.intOf]; omega
            · have p3 : ((d.toNat : Int) != 255) = true := by
                rw [bne_iff_ne]; intro e; exact d2 (UInt8.toNat_inj.1 (by show d.toNat = 255; omega))
              have HN : Hid (PL = (Vm.nil, 0)) := by show _ = _; rw [HPL.out]; exact Vm.nxt_none (Vm.next_tn k hk45 r (Vm.un_bad HUN.out hin (by rw [hc, c0]) (by rw [hd]; exact d1) (by rw [hd]; exact d2)))
              clear hc hd c0 d1 d2
              go_wp2_with (at_builtin; refine wpList_append_src _ rfl (.tmp 88) (.tmp 92) 25 25 rfl (w.heap.size + 1 + 1) 5 i0 (.int .u8 0) 1 1 Tryd.underlying25 HI0.out HZ0.out HZ1.out HZ2.out rfl (.slice aa nn cc) nn (yc t) rfl (HO.out.alloc _) _ 1 (yc [c]) rfl ?qs ?qa ?qb ?qc ?_)
              case qs => exact lit_srcy wr c
              case qa => unfold maxLen; omega
              case qb => omega
              case qc => simp; omega
              intro v2 w2 hown hgrow hat
              have hN2 := NX.out.keepB (((Below.refl _ wr).alloc hsz _).grown hgrow (by simp; omega) (fun i hi => (HO.out.lt i hi).1))
              rw [← yc_append] at hown
              obtain ⟨a2, c2, hv2⟩ : ∃ a2 c2, v2 = .slice a2 (nn + 1) c2 := by
                obtain ⟨a2, c2, e⟩ := (Yt.of_own hown).form
                rw [List.length_append, HTL.out] at e; exact ⟨a2, c2, e⟩
              rw [hv2] at hown ⊢
              have HO2 := Lib.hid hown
              have HN2 := Lib.hid hN2
              clear hown hgrow hat hN2 hv2

              have r0 := HN2.out.r.bx.c0; have r1 := HN2.out.r.bx.c1; have r2 := HN2.out.r.bx.c2; have r3 := HN2.out.r.bx.c3; have rf := HN2.out.r.fz; have rl := HN2.out.r.bx.lt
              go_wp2
              refine bodyPost_ret (v := .tuple #[.agg #[.int .i64 0, .int .i64 0, .int .i64 0, .string ⟨#[]⟩], .int .i64 0]) (by simp [results, Tryd.results17, go_sem, r0, r1, r2, r3]) rfl ?_
              exact NxA.mk (by rw [HN.out]; rfl) (by rw [HN.out]; rfl) (set4 HN2.out.bel (Nat.le_refl _) _ _ _ _)
          · have p1 : ((c.toNat : Int) == 0) = false := by rw [beq_eq_false_iff_ne]; intro e; exact c0 (UInt8.toNat_inj.1 (by show c.toNat = 0; omega))
            have HU2 : Hid (Vm.Un r (i + 1) (t ++ [c])) := by
              have := Vm.un_one HUN.out hin (by rw [hc]; exact c0)
              rw [hc] at this; exact this
            clear hc hd c0
            go_wp2_with (at_builtin; refine wpList_append_src _ rfl (.tmp 88) (.tmp 92) 25 25 rfl (w.heap.size + 1 + 1) 5 i0 (.int .u8 0) 1 1 Tryd.underlying25 HI0.out HZ0.out HZ1.out HZ2.out rfl (.slice aa nn cc) nn (yc t) rfl (HO.out.alloc _) _ 1 (yc [c]) rfl ?qs ?qa ?qb ?qc ?_)
            case qs => exact lit_srcy wr c
            case qa => unfold maxLen; omega
            case qb => omega
            case qc => simp; omega
            intro v2 w2 hown hgrow hat
            have hN2 := NX.out.keepB (((Below.refl _ wr).alloc hsz _).grown hgrow (by simp; omega) (fun i hi => (HO.out.lt i hi).1))
            rw [← yc_append] at hown
            obtain ⟨a2, c2, hv2⟩ : ∃ a2 c2, v2 = .slice a2 (nn + 1) c2 := by
              obtain ⟨a2, c2, e⟩ := (Yt.of_own hown).form
              rw [List.length_append, HTL.out] at e; exact ⟨a2, c2, e⟩
            rw [hv2] at hown ⊢
            have HO2 := Lib.hid hown
            have HN2 := Lib.hid hN2
            clear hown hgrow hat hN2 hv2

            go_wp2
            go_roundw
            case rel => exact ⟨i + 1, nn + 1, a2, c2, t ++ [c], by omega, by go_num, rfl, by omega, by show (t ++ [c]).length = nn + 1; rw [List.length_append, HTL.out]; rfl, HO2, HU2, HN2⟩
            case measure => simp [Lib.intOf]; omega
        · 
          have HT : Hid (Vm.Tl (k :: r) ⟨5, 0, 0, ⟨t.toArray⟩⟩ (i + 3)) := by
            have := Vm.tl_short k hk45 r i t ⟨5, 0, 0, ⟨t.toArray⟩⟩ HUN.out (by omega)
            rw [hk] at this ⊢
            exact this
          have hcv := (Yt.of_own HO.out).str
          have r0 := NX.out.v.bx.c0; have r1 := NX.out.v.bx.c1; have r2 := NX.out.v.bx.c2; have r3 := NX.out.v.bx.c3; have rf := NX.out.v.fz; have rl := NX.out.v.bx.lt
          have htz : (bstr t).size ≤ 1000 := by rw [bstr_size, HTL.out]; omega
          have HZ := Lib.hid htz
          clear htz
          go_wp2
          go_meet
          exact ⟨i + 3, 0, 0, bstr t, by go_num, by omega, HZ.out, NX.out.set3 _, Vm.i64_z, HT⟩
    · have q1 : (K == 1) = false := by rw [beq_eq_false_iff_ne]; omega
      have q2 : (K == 2) = false := by rw [beq_eq_false_iff_ne]; omega
      have q3 : (K == 3) = false := by rw [beq_eq_false_iff_ne]; omega
      have q4 : (K == 4) = false := by rw [beq_eq_false_iff_ne]; omega
      have q5 : (K == 5) = false := by rw [beq_eq_false_iff_ne]; omega
      have HT : Hid (Vm.Tl (k :: r) ⟨K, 0, 0, ⟨#[]⟩⟩ 1) := by
        have := Vm.tl_x k r (by have := HKK.out; omega)
        rw [HKK.out] at this; exact this
      clear h6
      go_wp2_with fail
      go_meet
      exact ⟨1, 0, 0, ⟨#[]⟩, rfl, by omega, by decide, N0, Vm.i64_z, HT⟩
  case rest =>
    obtain ⟨n, N, sc, S, rfl, hn, hS, NX, HN, HT⟩ := hcut
    have hll : (k :: r).length = s.size := by rw [List.length_cons]; exact hlen
    clear N0 HKK hk0 hkw hKa hKz hq hsz hlen
    by_cases hnl : s.size < n
    · have hi : (s.size : Int) < (n : Int) := by omega
      have HP : Hid (PL = (Vm.nil, 0)) := by show _ = _; rw [HPL.out]; exact Vm.nxt_none (HT.out.big (by omega))
      clear HT hll hnl
      have S0 := NX.out.keep (bdr _)
      have r0 := S0.r.bx.c0; have r1 := S0.r.bx.c1; have r2 := S0.r.bx.c2; have r3 := S0.r.bx.c3; have rf := S0.r.fz; have rl := S0.r.bx.lt
      have HS0 := Lib.hid S0
      clear S0
      go_wp2_with fail
      go_quiet (fail)
      have HQ := Lib.hid (NX.out.keep (below_n (Below.refl _ _) nq))
      have r0 := HQ.out.r.bx.c0; have r1 := HQ.out.r.bx.c1; have r2 := HQ.out.r.bx.c2; have r3 := HQ.out.r.bx.c3; have rf := HQ.out.r.fz; have rl := HQ.out.r.bx.lt
      go_wp2
      refine bodyPost_ret (v := .tuple #[.agg #[.int .i64 0, .int .i64 0, .int .i64 0, .string ⟨#[]⟩], .int .i64 0]) (by simp [results, Tryd.results17, go_sem, r0, r1, r2, r3]) rfl ?_
      exact NxA.mk (by rw [HP.out]; rfl) (by rw [HP.out]; rfl) (set4 HQ.out.bel (Nat.le_refl _) _ _ _ _)
    have hi : (n : Int) ≤ (s.size : Int) := by omega
    have hd : decide ((s.size : Int) < (n : Int)) = false := by simp; omega
    have hd2 : decide (s.size < n) = false := by simp; omega
    have HR := Lib.hid (ref3_right K N sc S · (by unfold maxLen; omega))
    cases hb : Vm.rightB ⟨K, N, sc, S⟩
    · have HP : Hid (PL = (Vm.nil, 0)) := by show _ = _; rw [HPL.out]; exact Vm.nxt_none (HT.out.bad (by omega) hb)
      rw [hb] at HR
      clear HT hll hnl hb
      go_upto_region 36 with (fail)
      have S0 := Lib.hid (NxC.of (NX.out.keep (bdr _)))
      have s0 := S0.out.1; have s1 := S0.out.2.1; have s2 := S0.out.2.2.1; have s3 := S0.out.2.2.2.1
      first
      | go_region_with (go_at_call 18; refine (HR.out _).mono ?_; rintro e w4 ⟨rfl, hb⟩; have HQ := Lib.hid (S0.out.keep hb); clear hb)
      | fail
      all_goals
        have r0 := HQ.out.nx.r.bx.c0; have r1 := HQ.out.nx.r.bx.c1; have r2 := HQ.out.nx.r.bx.c2; have r3 := HQ.out.nx.r.bx.c3; have rf := HQ.out.nx.r.fz; have rl := HQ.out.nx.r.bx.lt
        go_wp2
        refine bodyPost_ret (v := .tuple #[.agg #[.int .i64 0, .int .i64 0, .int .i64 0, .string ⟨#[]⟩], .int .i64 0]) (by simp [results, Tryd.results17, go_sem, r0, r1, r2, r3]) rfl ?_
        exact NxA.mk (by rw [HP.out]; rfl) (by rw [HP.out]; rfl) (set4 HQ.out.nx.bel (Nat.le_refl _) _ _ _ _)
    · have hg := HT.out.good (by omega) hb
      have HP : Hid (PL = (⟨K, N, sc, S⟩, n)) := by show _ = _; rw [HPL.out]; exact Vm.nxt_some hg
      obtain ⟨T, hT⟩ : ∃ T, s.extract 0 n = T := ⟨_, rfl⟩
      have ho : bstr (Vm.one (Vm.plain ⟨K, N, sc, S⟩)) = T := by
        rw [← hT, ext_take, HS.out, (Vm.next_some _ _ _ hg).2.2.1]
        unfold Vm.plain; rw [hb]; rfl
      have HO : Hid (∀ W, Calls Tryd.prog 25 #[.agg #[.int .i64 K, .int .i64 N, .int .i64 sc, .string S]] W fun e w' => e = .returned (.string T) ∧ Below W.heap.size W w') := by
        rw [← ho]; exact fun W => ref5_one ⟨K, N, sc, S⟩ W HN.out (by show S.size ≤ maxLen; unfold maxLen; omega)
      rw [hb] at HR
      have hTT : (T.toList == T.toList) = true := by simp
      have hTz : T.size ≤ 1000 := by rw [← hT]; simp; omega
      clear HT hll hnl hb hg ho
      go_upto_region 36 with (fail)
      have S0 := Lib.hid (NxC.of (NX.out.keep (bdr _)))
      go_region_held3 (fun w' => w'.cell? ⟨w.heap.size + 1, 0, none⟩ = some (.int .i64 K) ∧ w'.cell? ⟨w.heap.size + 1, 1, none⟩ = some (.int .i64 N) ∧ w'.cell? ⟨w.heap.size + 1, 2, none⟩ = some (.int .i64 sc) ∧ w'.cell? ⟨w.heap.size + 1, 3, none⟩ = some (.string S) ∧
        Hid (Nx w K N sc S w')) (first | exact S0.out | exact NxC.keep (by assumption) hb) (first | (go_at_call 18; refine (HR.out _).mono ?_; rintro e w4 ⟨rfl, hb⟩) | (go_at_call 25; refine (HO.out _).mono ?_; rintro e w4 ⟨rfl, hb⟩))
      all_goals
        rename_i w9 hHeld
        have HQ := Lib.hid (NxC.nx hHeld)
        clear hHeld
        have d0 := HQ.out.v.bx.c0; have d1 := HQ.out.v.bx.c1; have d2 := HQ.out.v.bx.c2; have d3 := HQ.out.v.bx.c3
        have r0 := HQ.out.r.bx.c0; have r1 := HQ.out.r.bx.c1; have r2 := HQ.out.r.bx.c2; have r3 := HQ.out.r.bx.c3; have rf := HQ.out.r.fz; have rl := HQ.out.r.bx.lt
        go_wp2
        refine bodyPost_ret (v := .tuple #[.agg #[.int .i64 K, .int .i64 N, .int .i64 sc, .string S], .int .i64 (n : Int)]) (by simp [results, Tryd.results17, go_sem, r0, r1, r2, r3]) rfl ?_
        exact NxA.mk (by rw [HP.out]) (by rw [HP.out]) (set4 HQ.out.bel (Nat.le_refl _) _ _ _ _)

set_option maxRecDepth 100000 in
theorem next_nil (w : World) : Calls Tryd.prog 17 #[.string ⟨#[]⟩] w (NxA (Vm.nxt []) w) := by
  go_enter Tryd.func17, Tryd.ntmps17
  go_wp2
  refine bodyPost_ret (v := .tuple #[.agg #[.int .i64 0, .int .i64 0, .int .i64 0, .string ⟨#[]⟩], .int .i64 0]) (by simp [results, Tryd.results17, go_sem]) rfl ?_
  exact NxA.mk rfl rfl (one_b w _)
theorem ref5_next (s : ByteArray) (w : World) (hz : s.size ≤ 1000) : Calls Tryd.prog 17 #[.string s] w (NxA (Vm.nxt s.data.toList) w) := by
  cases hs : s.data.toList with
  | nil =>
    have : s = ⟨#[]⟩ := ByteArray.ext (Array.toList_inj.1 hs)
    subst this
    exact next_nil w
  | cons k r => exact next_cut s k r w hs hz
end Go.Proofs.YtamclbagafcmgaaDoor
