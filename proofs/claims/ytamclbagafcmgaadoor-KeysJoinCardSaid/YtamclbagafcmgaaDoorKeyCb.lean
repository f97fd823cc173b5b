/- Package keys: cutValue. -/
import Derived.Test.YtamclbagafcmgaaDoorKeyCa
import Derived.Test.YtamclbagafcmgaaDoorKeyRef4
import Derived.Test.YtamclbagafcmgaaDoorValC1
import Derived.Test.YtamclbagafcmgaaDoorKeyRef5
import Derived.Test.YtamclbagafcmgaaDoorKeyRef6
namespace Go.Proofs.YtamclbagafcmgaaDoor
open Go.RowKit

/-- what cutValue leaves -/
def CvA (l : List UInt8) (v : Value) (w : World) (e : Ending) (w' : World) : Prop :=
  Below w.heap.size w w' ∧ ∃ (c : Vm.Cl) (a2 : Option Addr) (n2 c2 : Nat), e = .returned (.tuple #[.agg #[.int .i64 c.k, .int .i64 c.n, .int .i64 c.sc, .string c.s], .slice a2 n2 c2, .bool (Vm.next l).isSome]) ∧
    ∀ d m, Vm.next l = some (d, m) → d = c ∧ (∃ a3, a2 = some a3) ∧ Behind v (.slice a2 n2 c2) m l
/-- what stands behind the switch -/
def Tv (l : List UInt8) (v : Value) (c : Vm.Cl) (a2 : Option Addr) (n2 c2 : Nat) (ok : Bool) : Prop :=
  (ok = false → Vm.next l = none) ∧ (ok = true → Vm.rightB c = false → Vm.next l = none) ∧
  (ok = true → Vm.rightB c = true → ∃ m, Vm.next l = some (c, m) ∧ (∃ a3, a2 = some a3) ∧ Behind v (.slice a2 n2 c2) m l)
theorem tv_of {l : List UInt8} {v : Value} {c : Vm.Cl} {n m : Nat} {a2 : Addr} {n2 c2 : Nat} (h : Vm.Tl l c n) (hn : n ≤ l.length) (hm : m = n) (hb : Behind v (.slice (some a2) n2 c2) m l) : Tv l v c (some a2) n2 c2 true :=
  ⟨(fun h => by cases h), fun _ h1 => h.bad hn h1, fun _ h1 => ⟨n, h.good hn h1, ⟨a2, rfl⟩, hm ▸ hb⟩⟩
theorem tv_no {l : List UInt8} {v : Value} {c : Vm.Cl} {a2 : Option Addr} {n2 c2 : Nat} (h : Vm.next l = none) : Tv l v c a2 n2 c2 false :=
  ⟨fun _ => h, (fun h => by cases h), (fun h => by cases h)⟩
theorem bel_drew {B : Nat} {w W : World} (h : Below B w W) : Below B w W.drew := h.trans ⟨rfl, rfl, rfl, Nat.le_refl _, fun _ _ => rfl⟩
theorem Yb.up {B C : Nat} {v : Value} {l : List UInt8} {w : World} (h : Yb B v l w) (hc : B ≤ C) : Yb C v l w := by
  rcases h with h | ⟨g, off, cap, hv, hcap, hg, hcell⟩
  · exact .inl h
  · exact .inr ⟨g, off, cap, hv, hcap, by omega, hcell⟩
theorem Vm.esc0_ge : ∀ t : List UInt8, t.length ≤ (Vm.esc0 t).length
  | [] => Nat.le_refl _
  | c :: r => by
    have := Vm.esc0_ge r
    rw [Vm.esc0]; split <;> simp <;> omega
theorem tv_text {v : Value} (k : UInt8) (hk : k = 4 ∨ k = 5) (r t : List UInt8) (m : Nat) {a1 a2 : Addr} {n1 c1 n2 c2 : Nat} (h1 : Behind v (.slice (some a1) n1 c1) 1 (k :: r)) (hu : Vm.unesc0 r = some (t, m)) (h2 : Behind (.slice (some a1) n1 c1) (.slice (some a2) n2 c2) m r) :
    Tv (k :: r) v ⟨(k.toNat : Int), 0, 0, bstr t⟩ (some a2) n2 c2 true := by
  have e := Vm.next_t k hk r
  rw [hu] at e
  dsimp only at e
  refine ⟨(fun h => by cases h), fun _ h => ?_, fun _ h => ?_⟩
  · rw [e, show Vm.rightB ⟨(k.toNat : Int), 0, 0, ⟨t.toArray⟩⟩ = false from h]; rfl
  · refine ⟨m + 1, ?_, ⟨a2, rfl⟩, ?_⟩
    · rw [e, show Vm.rightB ⟨(k.toNat : Int), 0, 0, ⟨t.toArray⟩⟩ = true from h]; rfl
    · have := h1.trans (m := m) (show Behind _ _ m ((k :: r).drop 1) from h2)
      rwa [Nat.add_comm] at this
theorem CvA.none {l : List UInt8} {v : Value} {w w' : World} (h : Vm.next l = none) (hb : Below w.heap.size w w') (k n sc : Int) (s : ByteArray) (a2 : Option Addr) (n2 c2 : Nat) : CvA l v w (.returned (.tuple #[.agg #[.int .i64 k, .int .i64 n, .int .i64 sc, .string s], .slice a2 n2 c2, .bool false])) w' :=
  ⟨hb, ⟨k, n, sc, s⟩, a2, n2, c2, by rw [h]; rfl, fun d m e => by rw [h] at e; cases e⟩

theorem Nx.new2 (w : World) (q : Nat) (k n sc : Int) (s : ByteArray) (u : TypeId) : Nx w k n sc s (((w.alloc (.cells #[.int .i64 0, .int .i64 0, .int .i64 0, .string ⟨#[]⟩] u)).drewN q).alloc (.cells #[.int .i64 k, .int .i64 n, .int .i64 sc, .string s] u)) := by
  have h0 : Below w.heap.size w (w.alloc (.cells #[.int .i64 0, .int .i64 0, .int .i64 0, .string ⟨#[]⟩] u)) := (Below.refl _ _).alloc (Nat.le_refl _) _
  have h1 := bs_dn h0 q
  have h := Fx.new ((w.alloc (.cells #[.int .i64 0, .int .i64 0, .int .i64 0, .string ⟨#[]⟩] u)).drewN q) k n sc s u
  rw [show ((w.alloc (.cells #[.int .i64 0, .int .i64 0, .int .i64 0, .string ⟨#[]⟩] u)).drewN q).heap.size = w.heap.size + 1 by rw [size_dn]; simp] at h
  exact ⟨((Fx.new w 0 0 0 ⟨#[]⟩ u).keep (bs_dn (Below.refl _ _) q)).keep ((Below.refl _ _).alloc (Nat.le_refl _) _), h, h1.alloc (by rw [size_dn]; simp) _⟩

set_option maxHeartbeats 1000000 in
set_option maxRecDepth 100000 in
theorem cutValue_nil (a : Option Addr) (c : Nat) (w : World) : Calls Tryd.prog 24 #[.slice a 0 c] w (CvA [] (.slice a 0 c) w) := by
  have N0 := Lib.hid (Nx.new w 0 0 0 ⟨#[]⟩ 29)
  go_enter Tryd.func24, Tryd.ntmps24
  go_wp2_with fail
  refine (cutByte_nil a c _).mono ?_
  rintro e w1 ⟨rfl, rfl⟩
  go_upto_region 14 with (fail)
  have r0 := N0.out.r.bx.c0; have r1 := N0.out.r.bx.c1; have r2 := N0.out.r.bx.c2; have r3 := N0.out.r.bx.c3; have rf := N0.out.r.fz; have rl := N0.out.r.bx.lt
  have v0 := N0.out.v.bx.c0; have v1 := N0.out.v.bx.c1; have v2 := N0.out.v.bx.c2; have v3 := N0.out.v.bx.c3
  go_region
  all_goals go_wp2
  all_goals refine bodyPost_ret (v := .tuple #[.agg #[.int .i64 0, .int .i64 0, .int .i64 0, .string ⟨#[]⟩], .slice none 0 0, .bool false]) (by simp [results, Tryd.results24, go_sem, r0, r1, r2, r3]) rfl ?_
  all_goals exact CvA.none rfl (bel_drew N0.out.bel) 0 0 0 ⟨#[]⟩ none 0 0

set_option maxHeartbeats 4000000 in
set_option maxRecDepth 100000 in
theorem cutValue_cons (a : Addr) (n c : Nat) (k : UInt8) (r : List UInt8) (w : World) (he : EnvV w) (hv : Yb w.heap.size (.slice (some a) n c) (k :: r) w) (hl : n ≤ 100000) :
    Calls Tryd.prog 24 #[.slice (some a) n c] w (CvA (k :: r) (.slice (some a) n c) w) := by
  have hnl : n = r.length + 1 := by obtain ⟨_, _, e⟩ := hv.form; injection e
  obtain ⟨K, hK⟩ : ∃ K : Int, (k.toNat : Int) = K := ⟨_, rfl⟩
  have hKb : 0 ≤ K ∧ K < 256 := by have := k.toNat_lt; omega
  obtain ⟨hKa, hKz⟩ := hKb
  have hkw : wrap64 K = K := by unfold wrap64; omega
  have hw1 : Below w.heap.size w (w.alloc (.cells #[.int .i64 0, .int .i64 0, .int .i64 0, .string ⟨#[]⟩] 29)) := one_b w _
  obtain ⟨a1, n1, c1, e1⟩ := dropS_form a n c 1
  have hb1 := behind_drop a n c 1 (k :: r) (by omega) (by simp)
  rw [e1] at hb1
  have hn1 : n1 = r.length := by have := e1; unfold dropS at this; split at this <;> (injection this with _ h; omega)
  have HC1 := Lib.hid (cutByte_cons w.heap.size a n c k r _ (hv.keep hw1 (Nat.le_refl _)) (by omega))
  rw [e1, hK] at HC1
  have HY1 := Lib.hid (fun W (h : Below w.heap.size w W) => hb1 w.heap.size W (hv.keep h (Nat.le_refl _)))
  have HB1 := Lib.hid hb1
  have HE := Lib.hid he
  have HKK := Lib.hid hK
  have HL : Hid (n1 = r.length ∧ n = r.length + 1) := ⟨hn1, hnl⟩
  have hl1 : n1 ≤ 100000 := by omega
  clear hK hb1 e1 hn1 hw1 hv he hnl
  go_enter Tryd.func24, Tryd.ntmps24
  go_wp2_with fail
  refine HC1.out.mono ?_
  rintro e w1 ⟨rfl, q, rfl⟩
  have N0 := Lib.hid (Nx.new2 w q K 0 0 ⟨#[]⟩ 29)
  clear HC1
  go_upto_block 0 with (fail)
  obtain ⟨W0, hW0⟩ : ∃ W0, W0 = (((w.alloc (.cells #[.int .i64 0, .int .i64 0, .int .i64 0, .string ⟨#[]⟩] 29)).drewN q).alloc (.cells #[.int .i64 K, .int .i64 0, .int .i64 0, .string ⟨#[]⟩] 29)) := ⟨_, rfl⟩
  rw [← hW0] at N0 ⊢
  clear hW0
  go_cut [0, 6] (fun bv okv wx => ∃ (N sc : Int) (S : ByteArray) (a2 : Option Addr) (n2 c2 : Nat) (ok : Bool), bv = .slice a2 n2 c2 ∧ okv = .bool ok ∧ S.size ≤ 100000 ∧ Hid (Nx w K N sc S wx) ∧ Hid (Tv (k :: r) (.slice (some a) n c) ⟨K, N, sc, S⟩ a2 n2 c2 ok))
  case first =>
    rcases (show K = 0 ∨ K = 1 ∨ K = 2 ∨ K = 3 ∨ K = 4 ∨ K = 5 ∨ 6 ≤ K by omega) with rfl | rfl | rfl | rfl | rfl | rfl | h6
    · have hk : k = 0 := UInt8.toNat_inj.1 (by have := HKK.out; show k.toNat = _; exact Int.ofNat_inj.1 this)
      have HT : Hid (Tv (k :: r) (.slice (some a) n c) ⟨0, 0, 0, ⟨#[]⟩⟩ (some a1) n1 c1 true) := tv_of (by rw [hk]; exact Vm.tl_0 r) (by simp) rfl HB1.out
      clear hk
      go_wp2_with fail
      go_meet
      exact ⟨0, 0, ⟨#[]⟩, some a1, n1, c1, true, rfl, rfl, by decide, N0, HT⟩
    · have hk : k = 1 := UInt8.toNat_inj.1 (by have := HKK.out; show k.toNat = _; exact Int.ofNat_inj.1 this)
      cases r with
      | nil =>
        have HF : Hid (Tv [k] (.slice (some a) n c) ⟨1, 0, 0, ⟨#[]⟩⟩ none 0 0 false) := tv_no (by rw [hk]; rfl)
        have hn10 : n1 = 0 := by have := HL.out.1; simpa using this
        subst hn10
        clear hk
        go_wp2_with fail
        refine (cutByte_nil (some a1) c1 _).mono ?_
        rintro e w1 ⟨rfl, rfl⟩
        have v0 := N0.out.v.bx.c0; have v1 := N0.out.v.bx.c1; have v2 := N0.out.v.bx.c2; have v3 := N0.out.v.bx.c3; have vf := N0.out.v.fz; have vl := N0.out.v.bx.lt
        go_wp2_with fail
        go_meet
        exact ⟨0, 0, ⟨#[]⟩, none, 0, 0, false, rfl, rfl, by decide, N0.out.set1 0, HF⟩
      | cons x t =>
        obtain ⟨a2, n2, c2, e2⟩ := dropS_form a1 n1 c1 1
        have hb2 := behind_drop a1 n1 c1 1 (x :: t) (by omega) (by simp)
        have HC2 := Lib.hid (cutByte_cons w.heap.size a1 n1 c1 x t W0 (HY1.out W0 N0.out.bel) (by omega))
        rw [e2] at HC2 hb2
        have HT : Hid (Tv (k :: x :: t) (.slice (some a) n c) ⟨1, (x.toNat : Int), 0, ⟨#[]⟩⟩ (some a2) n2 c2 true) := tv_of (by rw [hk]; exact Vm.tl_1b x t) (by simp) rfl (HB1.out.trans (m := 1) hb2)
        clear hk e2 hb2
        go_wp2_with fail
        refine HC2.out.mono ?_
        rintro e w1 ⟨rfl, q2, rfl⟩
        have N1 := Lib.hid (N0.out.keep (bs_dn (Below.refl _ _) q2))
        have v0 := N1.out.v.bx.c0; have v1 := N1.out.v.bx.c1; have v2 := N1.out.v.bx.c2; have v3 := N1.out.v.bx.c3; have vf := N1.out.v.fz; have vl := N1.out.v.bx.lt
        go_wp2_with fail
        go_meet
        exact ⟨_, 0, ⟨#[]⟩, some a2, n2, c2, true, rfl, rfl, by decide, N1.out.set1 _, HT⟩
    · have hk : k = 2 := UInt8.toNat_inj.1 (by have := HKK.out; show k.toNat = _; exact Int.ofNat_inj.1 this)
      by_cases h8 : n1 < 8
      · have HF : Hid (Tv (k :: r) (.slice (some a) n c) ⟨2, 0, 0, ⟨#[]⟩⟩ none 0 0 false) := tv_no (by rw [hk, Vm.next_2, if_pos (by have := HL.out.1; omega)])
        clear hk
        go_wp2_with fail
        refine (cutNumber_short (some a1) n1 c1 _ h8).mono ?_
        rintro e w1 ⟨rfl, rfl⟩
        have v0 := N0.out.v.bx.c0; have v1 := N0.out.v.bx.c1; have v2 := N0.out.v.bx.c2; have v3 := N0.out.v.bx.c3; have vf := N0.out.v.fz; have vl := N0.out.v.bx.lt
        go_wp2_with fail
        go_meet
        exact ⟨0, 0, ⟨#[]⟩, none, 0, 0, false, rfl, rfl, by decide, N0.out.set1 0, HF⟩
      · obtain ⟨a2, n2, c2, e2⟩ := dropS_form a1 n1 c1 8
        have hb2 := behind_drop a1 n1 c1 8 r (by omega) (by have := HL.out.1; omega)
        have HC2 := Lib.hid (cutNumber_full w.heap.size a1 n1 c1 r W0 (HY1.out W0 N0.out.bel) (by omega) (by omega))
        rw [e2] at HC2 hb2
        have HT : Hid (Tv (k :: r) (.slice (some a) n c) ⟨2, (Wm.val (r.take 8) : Int) - 9223372036854775808, 0, ⟨#[]⟩⟩ (some a2) n2 c2 true) := tv_of (by rw [hk]; exact Vm.tl_2 r (by have := HL.out.1; omega)) (by simp; have := HL.out.1; omega) rfl (HB1.out.trans (m := 8) hb2)
        obtain ⟨V, hV⟩ : ∃ V : Int, V = (Wm.val (r.take 8) : Int) - 9223372036854775808 := ⟨_, rfl⟩
        rw [← hV] at HC2 HT
        clear hk e2 hb2 hV
        go_wp2_with fail
        refine HC2.out.mono ?_
        rintro e w1 ⟨rfl, q2, rfl⟩
        have N1 := Lib.hid (N0.out.keep (bs_dn (Below.refl _ _) q2))
        have v0 := N1.out.v.bx.c0; have v1 := N1.out.v.bx.c1; have v2 := N1.out.v.bx.c2; have v3 := N1.out.v.bx.c3; have vf := N1.out.v.fz; have vl := N1.out.v.bx.lt
        go_wp2_with fail
        go_meet
        exact ⟨_, 0, ⟨#[]⟩, some a2, n2, c2, true, rfl, rfl, by decide, N1.out.set1 _, HT⟩
    · have hk : k = 3 := UInt8.toNat_inj.1 (by have := HKK.out; show k.toNat = _; exact Int.ofNat_inj.1 this)
      cases r with
      | nil =>
        have HF : Hid (Tv [k] (.slice (some a) n c) ⟨3, 0, 0, ⟨#[]⟩⟩ none 0 0 false) := tv_no (by rw [hk]; rfl)
        have hn10 : n1 = 0 := by have := HL.out.1; simpa using this
        subst hn10
        clear hk
        go_wp2_with fail
        refine (cutByte_nil (some a1) c1 _).mono ?_
        rintro e w1 ⟨rfl, rfl⟩
        have v0 := N0.out.v.bx.c0; have v1 := N0.out.v.bx.c1; have v2 := N0.out.v.bx.c2; have v3 := N0.out.v.bx.c3; have vf := N0.out.v.fz; have vl := N0.out.v.bx.lt
        have N1 := Lib.hid (N0.out.set2 0)
        go_wp2_with fail
        refine (cutNumber_short none 0 0 _ (by omega)).mono ?_
        rintro e w1 ⟨rfl, rfl⟩
        clear v0 v1 v2 v3 vf vl
        have v0 := N1.out.v.bx.c0; have v1 := N1.out.v.bx.c1; have v2 := N1.out.v.bx.c2; have v3 := N1.out.v.bx.c3; have vf := N1.out.v.fz; have vl := N1.out.v.bx.lt
        go_wp2_with fail
        go_meet
        exact ⟨0, 0, ⟨#[]⟩, none, 0, 0, false, rfl, rfl, by decide, N1.out.set1 0, HF⟩
      | cons x t =>
        obtain ⟨a2, n2, c2, e2⟩ := dropS_form a1 n1 c1 1
        have hb2 := behind_drop a1 n1 c1 1 (x :: t) (by omega) (by simp)
        have HC2 := Lib.hid (cutByte_cons w.heap.size a1 n1 c1 x t W0 (HY1.out W0 N0.out.bel) (by omega))
        have hn2 : n2 = t.length := by have := e2; have h2 := HL.out.1; rw [List.length_cons] at h2; unfold dropS at this; split at this <;> (injection this with _ h; omega)
        rw [e2] at HC2 hb2
        have HY2 := Lib.hid (fun W (h : Below w.heap.size w W) => hb2 w.heap.size W (HY1.out W h))
        have hl2 : n2 ≤ 100000 := by have := HL.out.1; rw [List.length_cons] at this; omega
        obtain ⟨X, hX⟩ : ∃ X : Int, X = (x.toNat : Int) := ⟨_, rfl⟩
        rw [← hX] at HC2
        by_cases h8 : n2 < 8
        · have HF : Hid (Tv (k :: x :: t) (.slice (some a) n c) ⟨3, 0, X, ⟨#[]⟩⟩ none 0 0 false) := tv_no (by rw [hk, Vm.next_3, if_pos (.inl (by omega))])
          clear hk e2 hb2 hn2 hX
          go_wp2_with fail
          refine HC2.out.mono ?_
          rintro e w1 ⟨rfl, q2, rfl⟩
          have N1 := Lib.hid (N0.out.keep (bs_dn (Below.refl _ _) q2))
          have v0 := N1.out.v.bx.c0; have v1 := N1.out.v.bx.c1; have v2 := N1.out.v.bx.c2; have v3 := N1.out.v.bx.c3; have vf := N1.out.v.fz; have vl := N1.out.v.bx.lt
          have N2 := Lib.hid (N1.out.set2 X)
          go_wp2_with fail
          refine (cutNumber_short (some a2) n2 c2 _ h8).mono ?_
          rintro e w1 ⟨rfl, rfl⟩
          clear v0 v1 v2 v3 vf vl
          have v0 := N2.out.v.bx.c0; have v1 := N2.out.v.bx.c1; have v2 := N2.out.v.bx.c2; have v3 := N2.out.v.bx.c3; have vf := N2.out.v.fz; have vl := N2.out.v.bx.lt
          go_wp2_with fail
          go_meet
          exact ⟨0, X, ⟨#[]⟩, none, 0, 0, false, rfl, rfl, by decide, N2.out.set1 0, HF⟩
        · obtain ⟨a3, n3, c3, e3⟩ := dropS_form a2 n2 c2 8
          have hb3 := behind_drop a2 n2 c2 8 t (by omega) (by omega)
          rw [e3] at hb3
          have HT : Hid (Tv (k :: x :: t) (.slice (some a) n c) ⟨3, (Wm.val (t.take 8) : Int) - 9223372036854775808, X, ⟨#[]⟩⟩ (some a3) n3 c3 true) := tv_of (by rw [hk, hX]; exact Vm.tl_3 x t (by omega)) (by simp; omega) rfl ((HB1.out.trans (m := 1) hb2).trans (m := 8) hb3)
          have HC3 := Lib.hid (fun W (h : Below w.heap.size w W) => cutNumber_full w.heap.size a2 n2 c2 t W (HY2.out W h) (by omega) (by omega))
          rw [e3] at HC3
          obtain ⟨V, hV⟩ : ∃ V : Int, V = (Wm.val (t.take 8) : Int) - 9223372036854775808 := ⟨_, rfl⟩
          rw [← hV] at HC3 HT
          clear hk e2 hb2 hn2 hX hV e3 hb3
          go_wp2_with fail
          refine HC2.out.mono ?_
          rintro e w1 ⟨rfl, q2, rfl⟩
          have N1 := Lib.hid (N0.out.keep (bs_dn (Below.refl _ _) q2))
          have v0 := N1.out.v.bx.c0; have v1 := N1.out.v.bx.c1; have v2 := N1.out.v.bx.c2; have v3 := N1.out.v.bx.c3; have vf := N1.out.v.fz; have vl := N1.out.v.bx.lt
          have N2 := Lib.hid (N1.out.set2 X)
          go_wp2_with fail
          refine (HC3.out _ N2.out.bel).mono ?_
          rintro e w1 ⟨rfl, q3, rfl⟩
          have N3 := Lib.hid (N2.out.keep (bs_dn (Below.refl _ _) q3))
          clear v0 v1 v2 v3 vf vl
          have v0 := N3.out.v.bx.c0; have v1 := N3.out.v.bx.c1; have v2 := N3.out.v.bx.c2; have v3 := N3.out.v.bx.c3; have vf := N3.out.v.fz; have vl := N3.out.v.bx.lt
          go_wp2_with fail
          go_meet
          exact ⟨V, X, ⟨#[]⟩, some a3, n3, c3, true, rfl, rfl, by decide, N3.out.set1 V, HT⟩
    · have hk : k = 4 := UInt8.toNat_inj.1 (by have := HKK.out; show k.toNat = _; exact Int.ofNat_inj.1 this)
      have HC2 := Lib.hid (key_cutString a1 n1 c1 r W0 ((HY1.out W0 N0.out.bel).up (by have := N0.out.bel.size; omega)) (by have := HL.out.1; omega))
      go_wp2_with fail
      refine HC2.out.mono ?_
      rintro e w1 ⟨hb, hh⟩
      have N1 := Lib.hid (N0.out.keep hb)
      rcases hh with ⟨hu, rfl⟩ | ⟨t, m, a2, n2, c2, hu, rfl, hb2⟩
      · have HF : Hid (Tv (k :: r) (.slice (some a) n c) ⟨4, 0, 0, ⟨#[]⟩⟩ none 0 0 false) := tv_no (Vm.next_tn k (by rw [hk]; decide) r hu)
        clear hk hu hb
        have v0 := N1.out.v.bx.c0; have v1 := N1.out.v.bx.c1; have v2 := N1.out.v.bx.c2; have v3 := N1.out.v.bx.c3; have vf := N1.out.v.fz; have vl := N1.out.v.bx.lt
        go_wp2_with fail
        go_meet
        exact ⟨0, 0, ⟨#[]⟩, none, 0, 0, false, rfl, rfl, by decide, N1.out.set3 ⟨#[]⟩, HF⟩
      · have HT : Hid (Tv (k :: r) (.slice (some a) n c) ⟨4, 0, 0, bstr t⟩ (some a2) n2 c2 true) := by
          have := tv_text k (by rw [hk]; decide) r t m (HB1.out) hu hb2
          rw [HKK.out] at this
          exact this
        have htz : (bstr t).size ≤ 100000 := by
          rw [bstr_size]
          have h1 := (Vm.esc0_unesc0 r t m hu).2
          have h2 := Vm.esc0_ge t
          have h3 := HL.out.1
          omega
        obtain ⟨S, hS⟩ : ∃ S, S = bstr t := ⟨_, rfl⟩
        rw [← hS] at HT htz ⊢
        clear hk hu hb hb2 hS
        have v0 := N1.out.v.bx.c0; have v1 := N1.out.v.bx.c1; have v2 := N1.out.v.bx.c2; have v3 := N1.out.v.bx.c3; have vf := N1.out.v.fz; have vl := N1.out.v.bx.lt
        go_wp2_with fail
        go_meet
        exact ⟨0, 0, S, some a2, n2, c2, true, rfl, rfl, htz, N1.out.set3 S, HT⟩
    · have hk : k = 5 := UInt8.toNat_inj.1 (by have := HKK.out; show k.toNat = _; exact Int.ofNat_inj.1 this)
      have HC2 := Lib.hid (key_cutString a1 n1 c1 r W0 ((HY1.out W0 N0.out.bel).up (by have := N0.out.bel.size; omega)) (by have := HL.out.1; omega))
      go_wp2_with fail
      refine HC2.out.mono ?_
      rintro e w1 ⟨hb, hh⟩
      have N1 := Lib.hid (N0.out.keep hb)
      rcases hh with ⟨hu, rfl⟩ | ⟨t, m, a2, n2, c2, hu, rfl, hb2⟩
      · have HF : Hid (Tv (k :: r) (.slice (some a) n c) ⟨5, 0, 0, ⟨#[]⟩⟩ none 0 0 false) := tv_no (Vm.next_tn k (by rw [hk]; decide) r hu)
        clear hk hu hb
        have v0 := N1.out.v.bx.c0; have v1 := N1.out.v.bx.c1; have v2 := N1.out.v.bx.c2; have v3 := N1.out.v.bx.c3; have vf := N1.out.v.fz; have vl := N1.out.v.bx.lt
        go_wp2_with fail
        go_meet
        exact ⟨0, 0, ⟨#[]⟩, none, 0, 0, false, rfl, rfl, by decide, N1.out.set3 ⟨#[]⟩, HF⟩
      · have HT : Hid (Tv (k :: r) (.slice (some a) n c) ⟨5, 0, 0, bstr t⟩ (some a2) n2 c2 true) := by
          have := tv_text k (by rw [hk]; decide) r t m (HB1.out) hu hb2
          rw [HKK.out] at this
          exact this
        have htz : (bstr t).size ≤ 100000 := by
          rw [bstr_size]
          have h1 := (Vm.esc0_unesc0 r t m hu).2
          have h2 := Vm.esc0_ge t
          have h3 := HL.out.1
          omega
        obtain ⟨S, hS⟩ : ∃ S, S = bstr t := ⟨_, rfl⟩
        rw [← hS] at HT htz ⊢
        clear hk hu hb hb2 hS
        have v0 := N1.out.v.bx.c0; have v1 := N1.out.v.bx.c1; have v2 := N1.out.v.bx.c2; have v3 := N1.out.v.bx.c3; have vf := N1.out.v.fz; have vl := N1.out.v.bx.lt
        go_wp2_with fail
        go_meet
        exact ⟨0, 0, S, some a2, n2, c2, true, rfl, rfl, htz, N1.out.set3 S, HT⟩
    · have q1 : (K == 1) = false := by rw [beq_eq_false_iff_ne]; omega
      have q2 : (K == 2) = false := by rw [beq_eq_false_iff_ne]; omega
      have q3 : (K == 3) = false := by rw [beq_eq_false_iff_ne]; omega
      have q4 : (K == 4) = false := by rw [beq_eq_false_iff_ne]; omega
      have q5 : (K == 5) = false := by rw [beq_eq_false_iff_ne]; omega
      have HT : Hid (Tv (k :: r) (.slice (some a) n c) ⟨K, 0, 0, ⟨#[]⟩⟩ (some a1) n1 c1 true) := tv_of (by have := Vm.tl_x k r (by have := HKK.out; omega); rw [HKK.out] at this; exact this) (by simp) rfl HB1.out
      clear h6
      go_wp2_with fail
      go_meet
      exact ⟨0, 0, ⟨#[]⟩, some a1, n1, c1, true, rfl, rfl, by decide, N0, HT⟩
  case rest =>
    obtain ⟨N, sc, S, a2, n2, c2, ok, rfl, rfl, hS, NX, HT⟩ := hcut
    clear N0 HKK hkw hKa hKz HL HB1 HY1 hl1
    cases ok with
    | false =>
      have HF := Lib.hid (HT.out.1 rfl)
      go_upto_region 14 with (fail)
      have r0 := NX.out.r.bx.c0; have r1 := NX.out.r.bx.c1; have r2 := NX.out.r.bx.c2; have r3 := NX.out.r.bx.c3; have rf := NX.out.r.fz; have rl := NX.out.r.bx.lt
      have v0 := NX.out.v.bx.c0; have v1 := NX.out.v.bx.c1; have v2 := NX.out.v.bx.c2; have v3 := NX.out.v.bx.c3
      go_region
      all_goals go_wp2
      all_goals refine bodyPost_ret (v := .tuple #[.agg #[.int .i64 K, .int .i64 N, .int .i64 sc, .string S], .slice a2 n2 c2, .bool false]) (by simp [results, Tryd.results24, go_sem, r0, r1, r2, r3]) rfl ?_
      all_goals exact CvA.none HF.out (bel_drew (set4 NX.out.bel (Nat.le_refl _) _ _ _ _)) K N sc S a2 n2 c2
    | true =>
      have HR := Lib.hid (fun W (h : Below w.heap.size w W) => val_right K N sc S W (HE.out.keep h) (by unfold maxLen; omega))
      obtain ⟨b, hb⟩ : ∃ b, b = Vm.rightB ⟨K, N, sc, S⟩ := ⟨_, rfl⟩
      rw [← hb] at HR
      have HF : Hid (∀ W, Below w.heap.size w W → CvA (k :: r) (.slice (some a) n c) w (.returned (.tuple #[.agg #[.int .i64 K, .int .i64 N, .int .i64 sc, .string S], .slice a2 n2 c2, .bool b])) W) := by
        intro W hW
        cases b with
        | false => exact CvA.none (HT.out.2.1 rfl hb.symm) hW K N sc S a2 n2 c2
        | true =>
          obtain ⟨m, h1, h2, h3⟩ := HT.out.2.2 rfl hb.symm
          refine ⟨hW, ⟨K, N, sc, S⟩, a2, n2, c2, by rw [h1]; rfl, fun d m' e => ?_⟩
          rw [h1] at e
          have e := Option.some.inj e
          injection e with e1 e2
          subst e1; subst e2
          exact ⟨rfl, h2, h3⟩
      clear HT hb hS HE
      go_upto_region 14 with (fail)
      have N1 := Lib.hid (NX.out.keep (bel_drew (Below.refl _ _)))
      clear NX
      have r0 := N1.out.r.bx.c0; have r1 := N1.out.r.bx.c1; have r2 := N1.out.r.bx.c2; have r3 := N1.out.r.bx.c3; have rf := N1.out.r.fz; have rl := N1.out.r.bx.lt
      have v0 := N1.out.v.bx.c0; have v1 := N1.out.v.bx.c1; have v2 := N1.out.v.bx.c2; have v3 := N1.out.v.bx.c3
      first
      | go_region_with (go_at_call 31; refine (HR.out _ N1.out.bel).mono ?_; rintro e w4 ⟨rfl, hb⟩; have N2 := Lib.hid (N1.out.keep hb); clear hb; have s0 := N2.out.r.bx.c0; have s1 := N2.out.r.bx.c1; have s2 := N2.out.r.bx.c2; have s3 := N2.out.r.bx.c3; have sf := N2.out.r.fz; have sl := N2.out.r.bx.lt; have u0 := N2.out.v.bx.c0; have u1 := N2.out.v.bx.c1; have u2 := N2.out.v.bx.c2; have u3 := N2.out.v.bx.c3)
      | fail
      all_goals go_wp2
      all_goals refine bodyPost_ret (v := .tuple #[.agg #[.int .i64 K, .int .i64 N, .int .i64 sc, .string S], .slice a2 n2 c2, .bool b]) (by simp [results, Tryd.results24, go_sem, s0, s1, s2, s3]) rfl ?_
      all_goals exact HF.out _ (set4 N2.out.bel (Nat.le_refl _) _ _ _ _)
end Go.Proofs.YtamclbagafcmgaaDoor
/- Package keys: Next, Get. -/
namespace Go.Proofs.YtamclbagafcmgaaDoor
open Go.RowKit

theorem key_cutValue (a : Option Addr) (n c : Nat) (l : List UInt8) (w : World) (he : EnvV w) (hv : Yt (.slice a n c) l w) (hn : n ≤ 100000) : Calls Tryd.prog 24 #[.slice a n c] w (CvA l (.slice a n c) w) := by
  cases l with
  | nil =>
    have h0 : n = 0 := by obtain ⟨_, _, e⟩ := hv.form; injection e
    subst h0
    exact cutValue_nil a c w
  | cons k r =>
    have hy := Yb.of hv (by simp)
    obtain ⟨ad, c', e⟩ := hy.form
    injection e with e1 e2 e3
    subst e1
    exact cutValue_cons ad n c k r w he hy hn
theorem yt_row {g : Nat} {cur : Array Value} {l : List UInt8} {W : World} (hg : W.heap[g]? = some (.cells cur 5 (0, 0))) (hc : cur.toList = yc l) : Yt (.slice (some ⟨g, 0, none⟩) l.length l.length) l W := by
  refine .inr ⟨g, 0, l.length, rfl, Nat.le_refl _, (Array.getElem?_eq_some_iff.1 hg).1, fun j hj => ?_⟩
  rw [Lib.cell_of_heap hg, Nat.zero_add, ← Array.getElem?_toList, hc, yc_get]
  simp [List.getD, hj]
/-- bytes below w's end stand alike in any two worlds behind w -/
theorem Yb.keepW {w W W' : World} {v : Value} {l : List UInt8} (h : Yb w.heap.size v l W) (hb : Below w.heap.size w W) (hb' : Below w.heap.size w W') : Yb w.heap.size v l W' := by
  rcases h with h | ⟨g, off, cap, hv, hcap, hg, hcell⟩
  · exact .inl h
  · exact .inr ⟨g, off, cap, hv, hcap, hg, fun j hj => by rw [hb'.cell (p := ⟨g, off + j, none⟩) hg, ← hb.cell (p := ⟨g, off + j, none⟩) hg]; exact hcell j hj⟩
theorem row_set4 {W : World} {g b : Nat} (hne : g ≠ b) (x y z u : Value) : ((((W.setCell ⟨b, 0, none⟩ x).setCell ⟨b, 1, none⟩ y).setCell ⟨b, 2, none⟩ z).setCell ⟨b, 3, none⟩ u).heap[g]? = W.heap[g]? := by
  rw [Below.heap_setCell _ _ _ _ hne, Below.heap_setCell _ _ _ _ hne, Below.heap_setCell _ _ _ _ hne, Below.heap_setCell _ _ _ _ hne]

set_option maxHeartbeats 4000000 in
set_option maxRecDepth 100000 in
theorem key_next (a : Option Addr) (n cap : Nat) (l : List UInt8) (w : World) (he : EnvV w) (hv : Yt (.slice a n cap) l w) (hl : l.length ≤ 50000) : Calls Tryd.prog 16 #[.slice a n cap] w (NtA l w) := by
  have hnl : n = l.length := by obtain ⟨_, _, e⟩ := hv.form; injection e
  have hwA := one_b w (.cells #[.int .i64 0, .int .i64 0, .int .i64 0, .string ⟨#[]⟩] 29)
  have HC := Lib.hid (key_cutValue a n cap l _ (he.keep hwA) (hv.keep hwA) (by omega))
  have HR0 := Lib.hid (Fx.new w 0 0 0 ⟨#[]⟩ 29)
  have HYB : Hid (0 < l.length → Yb w.heap.size (.slice a n cap) l w) := fun h => Yb.of hv h
  have HWA := Lib.hid hwA
  have HL : Hid (l.length ≤ 50000) := hl
  clear hwA hv he hnl hl
  go_enter Tryd.func16, Tryd.ntmps16
  go_wp2_with fail
  refine HC.out.mono ?_
  rintro e w1 ⟨hb, ⟨ck, cn, cc, cz⟩, a2, n2, c2, rfl, hd⟩
  have HW1 := Lib.hid (HWA.out.trans (hb.mono (by simp)))
  have HR1 := Lib.hid (HR0.out.keep hb)
  have hsz := HW1.out.size
  have HR2 := Lib.hid (HR1.out.keep (one_b w1 (.cells #[.int .i64 ck, .int .i64 cn, .int .i64 cc, .string cz] 29)))
  have HV2 := Lib.hid (Fx.new w1 ck cn cc cz 29)
  have HW2 := Lib.hid (HW1.out.trans ((one_b w1 (.cells #[.int .i64 ck, .int .i64 cn, .int .i64 cc, .string cz] 29)).mono hsz))
  have hlt : w.heap.size < w1.heap.size := HR1.out.bx.lt
  have HD := Lib.hid hd
  clear hb hd HC HR0 HWA HR1 HW1
  dsimp only at HV2 HW2 HR2 HD ⊢
  cases hN : Vm.next l with
  | none =>
    have HF : Hid (∀ W, Below w.heap.size w W → NtA l w (.returned (.tuple #[.agg #[.int .i64 0, .int .i64 0, .int .i64 0, .string ⟨#[]⟩], .slice none 0 0, .bool false])) W) := by
      intro W hW
      refine ⟨none, 0, 0, ?_, ?_, ?_, hW⟩
      · rw [Vm.nxt_none hN, hN]; rfl
      · rw [hN]; rfl
      · rw [hN]; exact .inl ⟨_, _, rfl, rfl⟩
    clear HD hN HYB HL
    go_upto_region 3 with (fail)
    obtain ⟨W2, hW2⟩ : ∃ W2, W2 = w1.alloc (.cells #[.int .i64 ck, .int .i64 cn, .int .i64 cc, .string cz] 29) := ⟨_, rfl⟩
    rw [← hW2] at HR2 HW2 ⊢
    clear hW2 HV2
    have r0 := HR2.out.bx.c0; have r1 := HR2.out.bx.c1; have r2 := HR2.out.bx.c2; have r3 := HR2.out.bx.c3; have rf := HR2.out.fz; have rl := HR2.out.bx.lt
    go_wp2
    refine bodyPost_ret (v := .tuple #[.agg #[.int .i64 0, .int .i64 0, .int .i64 0, .string ⟨#[]⟩], .slice none 0 0, .bool false]) (by simp [results, Tryd.results16, go_sem, r0, r1, r2, r3]) rfl ?_
    exact HF.out _ (set4 HW2.out (Nat.le_refl _) _ _ _ _)
  | some p =>
    obtain ⟨d, m⟩ := p
    obtain ⟨rfl, ⟨a3, rfl⟩, hbh⟩ := HD.out d m hN
    have hm := Vm.next_some _ _ _ hN
    have hy := hbh _ w (HYB.out (by have := Vm.next_pos _ _ _ hN; omega))
    have hn2 : n2 = (l.drop m).length := by obtain ⟨_, _, e⟩ := hy.form; injection e
    have HCP := Lib.hid (fun W (h : Below w.heap.size w W) => key_copied (some a3) n2 c2 (l.drop m) W ((hy.keep h (Nat.le_refl _)).yt h.size) (by rw [List.length_drop]; have := HL.out; omega))
    have HF : Hid (∀ W g cur, Below w.heap.size w W → W.heap[g]? = some (.cells cur 5 (0, 0)) → cur.toList = yc (l.drop m) → NtA l w (.returned (.tuple #[.agg #[.int .i64 ck, .int .i64 cn, .int .i64 cc, .string cz], .slice (some ⟨g, 0, none⟩) n2 n2, .bool true])) W) := by
      intro W g cur hW hg hc
      have hY := yt_row hg hc
      rw [← hn2] at hY
      refine ⟨some ⟨g, 0, none⟩, n2, n2, ?_, ?_, ?_, hW⟩
      · rw [Vm.nxt_some hN, hN]; rfl
      · rw [Vm.nxt_some hN, hN]; exact hn2
      · rw [Vm.nxt_some hN, hN]; exact hY
    have HNN : Hid (n2 = (l.drop m).length) := hn2
    clear HD hN HYB HL hm hbh hy hn2
    go_upto_region 4 with (fail)
    obtain ⟨W2, hW2⟩ : ∃ W2, W2 = w1.alloc (.cells #[.int .i64 ck, .int .i64 cn, .int .i64 cc, .string cz] 29) := ⟨_, rfl⟩
    rw [← hW2] at HR2 HV2 HW2 ⊢
    clear hW2
    have HR3 := Lib.hid (HR2.out.keep (bel_drew (Below.refl _ _))); have HV3 := Lib.hid (HV2.out.keep (bel_drew (Below.refl _ _))); have HW3 := Lib.hid (bel_drew HW2.out)
    clear HR2 HV2 HW2
    have v0 := HV3.out.bx.c0; have v1 := HV3.out.bx.c1; have v2 := HV3.out.bx.c2; have v3 := HV3.out.bx.c3
    first
    | go_region_with (go_at_call 26; refine (HCP.out _ HW3.out).mono ?_; rintro e w4 ⟨g, nn, cur, rfl, hnn, hgB, hg, hcur, hb4⟩; have HR4 := Lib.hid (HR3.out.keep hb4); have HV4 := Lib.hid (HV3.out.keep hb4); have HW4 := Lib.hid (HW3.out.trans (hb4.mono HW3.out.size)); have HG := Lib.hid (And.intro hg (And.intro hcur (show g ≠ w.heap.size by have h1 := HR3.out.bx.lt; omega))); have hnn2 : nn = n2 := (hnn.trans HNN.out.symm); subst hnn2; clear hb4 hg hcur hgB hnn; have s0 := HR4.out.bx.c0; have s1 := HR4.out.bx.c1; have s2 := HR4.out.bx.c2; have s3 := HR4.out.bx.c3; have sf := HR4.out.fz; have sl := HR4.out.bx.lt; have u0 := HV4.out.bx.c0; have u1 := HV4.out.bx.c1; have u2 := HV4.out.bx.c2; have u3 := HV4.out.bx.c3)
    | fail
    all_goals go_wp2
    all_goals refine bodyPost_ret (v := .tuple #[.agg #[.int .i64 ck, .int .i64 cn, .int .i64 cc, .string cz], .slice (some ⟨g, 0, none⟩) nn nn, .bool true]) (by simp [results, Tryd.results16, go_sem, s0, s1, s2, s3]) rfl ?_
    all_goals exact HF.out _ g cur (set4 HW4.out (Nat.le_refl _) _ _ _ _) ((row_set4 HG.out.2.2 _ _ _ _).trans HG.out.1) HG.out.2.1

set_option maxHeartbeats 4000000 in
set_option maxRecDepth 100000 in
theorem key_get (a : Option Addr) (n cap : Nat) (l : List UInt8) (w : World) (he : EnvV w) (hv : Yt (.slice a n cap) l w) (hl : l.length ≤ 50000) : Calls Tryd.prog 12 #[.slice a n cap] w (GtA (Vm.get l) w) := by
  obtain ⟨i0, hi0, hz0, hz1, hz2⟩ := info_parts info4v
  have HI0 := Lib.hid hi0; have HZ0 := Lib.hid hz0; have HZ1 := Lib.hid hz1; have HZ2 := Lib.hid hz2
  clear hi0 hz0 hz1 hz2
  obtain ⟨PL, hPL⟩ : ∃ PL, PL = Vm.get l := ⟨_, rfl⟩
  rw [← hPL]
  have HPL := Lib.hid hPL
  have hnl : n = l.length := by obtain ⟨_, _, e⟩ := hv.form; injection e
  have hn5 : n ≤ 50000 := by omega
  have HY : Hid (l = [] ∨ Yb w.heap.size (.slice a n cap) l w) := by
    cases l with
    | nil => exact .inl rfl
    | cons k r => exact .inr (Yb.of hv (by simp))
  have HE := Lib.hid he
  have HN := Lib.hid hnl
  clear hPL hnl hv he hl
  go_enter Tryd.func12, Tryd.ntmps12
  go_wp2_with fail
  go_loopw [0, 4] (fun bv ov wr => ∃ (l' : List UInt8) (o : List Vm.Cl) (a2 : Option Addr) (n2 c2 nn : Nat) (aa : Option Addr) (cc : Nat), bv = .slice a2 n2 c2 ∧ n2 + nn ≤ 50000 ∧ ov = .slice aa nn cc ∧ Hid (n2 = l'.length) ∧ Hid (o.length = nn) ∧ Hid (Gt l o l') ∧ Hid (l' = [] ∨ Yb w.heap.size (.slice a2 n2 c2) l' wr) ∧ Hid (wr.ownsRow w.heap.size 29 4 (.slice aa nn cc) nn (vcs o)) ∧ Hid (Below w.heap.size w wr)) (fun bv _ _ => (match bv with | .slice _ k _ => k | _ => 0))
  case atStart => exact ⟨l, [], a, n, cap, 0, none, 0, rfl, by omega, rfl, HN.out, rfl, gt_start _, HY.out, World.ownsRow_nil _ _ _ _, Below.refl _ _⟩
  case round =>
    obtain ⟨l', o, a2, n2, c2, nn, aa, cc, rfl, hl, rfl, HN2, HOL, HG, HY2, HO, HB⟩ := hrel
    have hsz := HB.out.size
    cases l' with
    | nil =>
      have hn20 : n2 = 0 := HN2.out
      subst hn20
      have HP : Hid (PL = some o) := by show _ = _; rw [HPL.out]; exact gt_end HG.out
      clear HG HPL
      go_wp2
      go_ret2
      exact ⟨aa, nn, cc, o, by rw [HP.out]; rfl, by rw [HP.out]; rfl, HOL.out.symm, Vs.of_own HO.out, HB.out⟩
    | cons k r =>
      have hyb : Yb w.heap.size (.slice a2 n2 c2) (k :: r) wr := by
        rcases HY2.out with h | h
        · cases h
        · exact h
      have hn2 : (0 : Int) < (n2 : Int) := by have h : n2 = (k :: r).length := HN2.out; rw [List.length_cons] at h; omega
      have HC := Lib.hid (key_cutValue a2 n2 c2 (k :: r) wr (HE.out.keep HB.out) (hyb.yt hsz) (by omega))
      have HYB := Lib.hid hyb
      clear hyb HY2
      go_wp2_with fail
      refine HC.out.mono ?_
      rintro e w1 ⟨hb, ⟨ck, cn, cc', cz⟩, a3, n3, c3, rfl, hd⟩
      have HB1 := Lib.hid (HB.out.trans (hb.mono hsz))
      have HO1 := Lib.hid (own_below HO.out hb)
      have HD := Lib.hid hd
      clear hb hd HC HO
      have hsz1 := HB1.out.size
      dsimp only at HD ⊢
      cases hN : Vm.next (k :: r) with
      | none =>
        have HP : Hid (PL = none) := by show _ = _; rw [HPL.out]; exact gt_none HG.out hN
        have HB2 := Lib.hid (HB1.out.alloc hsz1 (.cells #[.int .i64 ck, .int .i64 cn, .int .i64 cc', .string cz] 29))
        clear HD hN HG HPL
        go_wp2
        go_ret2
        exact ⟨none, 0, 0, [], by rw [HP.out]; rfl, by rw [HP.out]; rfl, rfl, .inl ⟨_, _, rfl, rfl⟩, HB2.out⟩
      | some p =>
        obtain ⟨d, m⟩ := p
        obtain ⟨rfl, ⟨a4, rfl⟩, hbh⟩ := HD.out d m hN
        have hs := Vm.next_some _ _ _ hN
        have hmp := Vm.next_pos _ _ _ hN
        have HG2 : Hid (Gt l (o ++ [⟨ck, cn, cc', cz⟩]) ((k :: r).drop m)) := gt_step HG.out hN
        have HBH := Lib.hid (fun W (h : Yb w.heap.size (.slice a2 n2 c2) (k :: r) W) => hbh w.heap.size W h)
        have hn3 : n3 = ((k :: r).drop m).length := by obtain ⟨_, _, e⟩ := (HBH.out wr HYB.out).form; injection e
        have HN3 := Lib.hid hn3
        have hn3b : n3 + m = n2 := by
          have h : n2 = (k :: r).length := HN2.out
          rw [List.length_drop] at hn3
          have := hs.2.2.2.2
          omega
        have hn3c : n3 < n2 := by omega
        have hn3d : n3 + (nn + 1) ≤ 50000 := by omega
        clear HD hN HG hs hbh hn3 hn3b hmp
        have HB2 := Lib.hid (HB1.out.alloc hsz1 (.cells #[.int .i64 ck, .int .i64 cn, .int .i64 cc', .string cz] 29))
        have HO2 := Lib.hid (own_below HO1.out (one_b w1 (.cells #[.int .i64 ck, .int .i64 cn, .int .i64 cc', .string cz] 29)))
        have hsz2 := HB2.out.size
        go_wp2_with (at_builtin; refine wpList_append_src _ rfl (.tmp 19) (.tmp 21) 22 22 rfl w.heap.size 29 i0 _ 4 40 Tryd.underlying22 HI0.out HZ0.out HZ1.out HZ2.out rfl (.slice aa nn cc) nn (vcs o) rfl (HO2.out.alloc _) _ 1 (vcs [⟨ck, cn, cc', cz⟩]) rfl ?qs ?qa ?qb ?qc ?_)
        case qs => exact lit_srcv2 _ ⟨ck, cn, cc', cz⟩ _ (by simp)
        case qa => unfold maxLen; omega
        case qb => omega
        case qc => simp; simp at hsz2; omega
        intro v2 w2 hown hgrow hat
        have hbel := (HB2.out.alloc hsz2 (.cells #[.int .i64 ck, .int .i64 cn, .int .i64 cc', .string cz] 29)).grown hgrow (by simp; simp at hsz2; omega) (fun i hi => (HO2.out.lt i hi).1)
        rw [← vcs_append] at hown
        obtain ⟨a5, c5, hv2⟩ : ∃ a5 c5, v2 = .slice a5 (nn + 1) c5 := by
          obtain ⟨a5, c5, e⟩ := (Vs.of_own hown).form
          rw [List.length_append, HOL.out] at e; exact ⟨a5, c5, e⟩
        rw [hv2] at hown ⊢
        have HO3 := Lib.hid hown
        have HB3 := Lib.hid hbel
        have HY3 : Hid ((k :: r).drop m = [] ∨ Yb w.heap.size (.slice (some a4) n3 c3) ((k :: r).drop m) w2) := by
          rcases HY.out with h | h
          · exact .inr (HBH.out _ (HYB.out.keepW HB.out HB3.out))
          · exact .inr (HBH.out _ (HYB.out.keepW HB.out HB3.out))
        clear hown hgrow hat hbel hv2 HO2 HB2 hsz2
        go_wp2
        go_roundw
        case rel => exact ⟨_, _, some a4, n3, c3, nn + 1, a5, c5, rfl, hn3d, rfl, HN3, by show (o ++ [_]).length = nn + 1; rw [List.length_append, HOL.out]; rfl, HG2, HY3, HO3, HB3⟩
        case measure => simp; omega
end Go.Proofs.YtamclbagafcmgaaDoor
