/- Package value: unquoted, guessNumber. -/
import Derived.Test.YtpbmjknhfgdnnaaGreatDoorValCb
import Derived.Test.YtpbmjknhfgdnnaaGreatDoorDecP4
import Derived.Test.YtpbmjknhfgdnnaaGreatDoorValRf
import Derived.IntWalk
import Derived.Test.YtpbmjknhfgdnnaaGreatDoorValCa
import Derived.Test.YtpbmjknhfgdnnaaGreatDoorValFm
namespace Go.Proofs.YtpbmjknhfgdnnaaGreatDoor
open Go.RowKit

theorem suf_yes (t : List UInt8) (c : UInt8) : Lib.hasSuffix (t ++ [c]) [c] = true ∧ Lib.trimSuffix (t ++ [c]) [c] = t := by
  have h : Lib.hasSuffix (t ++ [c]) [c] = true := by
    unfold Lib.hasSuffix
    rw [List.isSuffixOf_iff_suffix]
    exact ⟨t, rfl⟩
  refine ⟨h, ?_⟩
  unfold Lib.trimSuffix
  rw [if_pos h]; simp
theorem suf_no (l : List UInt8) (c : UInt8) (h : l.getLast? ≠ some c) : Lib.hasSuffix l [c] = false ∧ Lib.trimSuffix l [c] = l := by
  have h1 : Lib.hasSuffix l [c] = false := by
    cases hh : Lib.hasSuffix l [c]
    · rfl
    · exfalso
      unfold Lib.hasSuffix at hh
      rw [List.isSuffixOf_iff_suffix] at hh
      obtain ⟨t, e⟩ := hh
      exact h (by rw [← e, List.getLast?_concat])
  refine ⟨h1, ?_⟩
  unfold Lib.trimSuffix
  rw [h1]; rfl
theorem pre_yes (t : List UInt8) (c : UInt8) : Lib.hasPrefix (c :: t) [c] = true ∧ Lib.trimPrefix (c :: t) [c] = t := by
  have h : Lib.hasPrefix (c :: t) [c] = true := by simp [Lib.hasPrefix, List.isPrefixOf]
  exact ⟨h, by unfold Lib.trimPrefix; rw [if_pos h]; rfl⟩
theorem pre_no (l : List UInt8) (c : UInt8) (h : l.head? ≠ some c) : Lib.hasPrefix l [c] = false ∧ Lib.trimPrefix l [c] = l := by
  have h1 : Lib.hasPrefix l [c] = false := by
    cases l with
    | nil => rfl
    | cons d r =>
      simp [Lib.hasPrefix, List.isPrefixOf]
      intro e; exact h (by rw [e]; rfl)
  exact ⟨h1, by unfold Lib.trimPrefix; rw [h1]; rfl⟩
theorem last_parts (l : List UInt8) (c : UInt8) (h : l.getLast? = some c) : ∃ t, l = t ++ [c] := by
  have hne : l ≠ [] := by intro e; subst e; simp at h
  refine ⟨l.dropLast, ?_⟩
  have := List.dropLast_concat_getLast hne
  rw [List.getLast?_eq_some_getLast hne] at h
  rw [Option.some.inj h] at this
  exact this.symm
theorem bs_data (s : ByteArray) : bstr s.data.toList = s := by unfold bstr; apply ByteArray.ext; simp
/-- CutSuffix, CutPrefix at one byte -/
theorem cut_suf_yes (t : List UInt8) (c : UInt8) (w : World) (h : t.length ≤ 1000) : Calls Tryz.prog 95 #[.string (bstr (t ++ [c])), .string ⟨#[c]⟩] w fun e w' => e = .returned (.tuple #[.string (bstr t), .bool true]) ∧ w = w' := by
  refine (Tryz.strings_CutSuffix _ ⟨#[c]⟩ w (by rw [bstr_size]; simp; omega)).mono ?_
  rintro e w' ⟨rfl, rfl⟩
  have := suf_yes t c
  refine ⟨?_, rfl⟩
  rw [bstr_data, show (⟨#[c]⟩ : ByteArray).data.toList = [c] from rfl, this.1, this.2]; rfl
theorem cut_suf_no (l : List UInt8) (c : UInt8) (w : World) (h : l.length ≤ 1000) (hn : l.getLast? ≠ some c) : Calls Tryz.prog 95 #[.string (bstr l), .string ⟨#[c]⟩] w fun e w' => e = .returned (.tuple #[.string (bstr l), .bool false]) ∧ w = w' := by
  refine (Tryz.strings_CutSuffix _ ⟨#[c]⟩ w (by rw [bstr_size]; omega)).mono ?_
  rintro e w' ⟨rfl, rfl⟩
  have := suf_no l c hn
  refine ⟨?_, rfl⟩
  rw [bstr_data, show (⟨#[c]⟩ : ByteArray).data.toList = [c] from rfl, this.1, this.2]; rfl
theorem cut_pre_yes (t : List UInt8) (c : UInt8) (w : World) : Calls Tryz.prog 73 #[.string (bstr (c :: t)), .string ⟨#[c]⟩] w fun e w' => e = .returned (.tuple #[.string (bstr t), .bool true]) ∧ w = w' := by
  refine (Tryz.strings_CutPrefix _ ⟨#[c]⟩ w).mono ?_
  rintro e w' ⟨rfl, rfl⟩
  have := pre_yes t c
  refine ⟨?_, rfl⟩
  rw [bstr_data, show (⟨#[c]⟩ : ByteArray).data.toList = [c] from rfl, this.1, this.2]; rfl
theorem cut_pre_no (l : List UInt8) (c : UInt8) (w : World) (hn : l.head? ≠ some c) : Calls Tryz.prog 73 #[.string (bstr l), .string ⟨#[c]⟩] w fun e w' => e = .returned (.tuple #[.string (bstr l), .bool false]) ∧ w = w' := by
  refine (Tryz.strings_CutPrefix _ ⟨#[c]⟩ w).mono ?_
  rintro e w' ⟨rfl, rfl⟩
  have := pre_no l c hn
  refine ⟨?_, rfl⟩
  rw [bstr_data, show (⟨#[c]⟩ : ByteArray).data.toList = [c] from rfl, this.1, this.2]; rfl

theorem unq_walk (A T U : ByteArray) (o cl : Bool) (w : World)
    (H1 : Hid (∀ W, Calls Tryz.prog 73 #[.string A, .string ⟨#[39]⟩] W fun e w' => e = .returned (.tuple #[.string T, .bool o]) ∧ W = w'))
    (H2 : Hid (∀ W, Calls Tryz.prog 95 #[.string T, .string ⟨#[39]⟩] W fun e w' => e = .returned (.tuple #[.string U, .bool cl]) ∧ W = w')) :
    Calls Tryz.prog 72 #[.string A] w fun e w' => e = .returned (.tuple #[.string U, .bool (o && cl)]) ∧ w = w' := by
  cases o
  all_goals
    go_enter Tryz.func72, Tryz.ntmps72
    go_wp2_with fail
    refine (H1.out _).mono ?_
    rintro e w1 ⟨rfl, rfl⟩
    go_wp2_with fail
    refine (H2.out _).mono ?_
    rintro e w1 ⟨rfl, rfl⟩
    go_wp2
    go_ret2
    exact ⟨rfl, rfl⟩
theorem cut_suf_any (l : List UInt8) (c : UInt8) (h : l.length ≤ 1000) : ∃ U cl, ∀ w : World, Calls Tryz.prog 95 #[.string (bstr l), .string ⟨#[c]⟩] w fun e w' => e = .returned (.tuple #[.string U, .bool cl]) ∧ w = w' := by
  by_cases hl : l.getLast? = some c
  · obtain ⟨t, rfl⟩ := last_parts l c hl
    exact ⟨_, _, fun w => cut_suf_yes t c w (by simp at h; omega)⟩
  · exact ⟨_, _, fun w => cut_suf_no l c w h hl⟩
theorem unq_some (l t : List UInt8) (w : World) (hl : l.length ≤ 1000) (h : Vm.unq l = some t) : Calls Tryz.prog 72 #[.string (bstr l)] w fun e w' => e = .returned (.tuple #[.string (bstr t), .bool true]) ∧ w = w' := by
  unfold Vm.unq at h
  split at h
  · rename_i hh
    obtain ⟨h1, h2⟩ := hh
    cases l with
    | nil => simp at h1
    | cons c r =>
      simp at h1
      subst h1
      have h2 : r.getLast? = some 39 := by simpa using h2
      obtain ⟨u, rfl⟩ := last_parts r 39 h2
      have : t = u := by simpa using h.symm
      subst this
      exact unq_walk _ _ _ true true w (cut_pre_yes _ 39) (fun W => cut_suf_yes t 39 W (by simp at hl; omega))
  · cases h
theorem unq_none (l : List UInt8) (hl : l.length ≤ 1000) (h : Vm.unq l = none) : ∃ U, ∀ w : World, Calls Tryz.prog 72 #[.string (bstr l)] w fun e w' => e = .returned (.tuple #[.string U, .bool false]) ∧ w = w' := by
  by_cases h1 : l.head? = some 39
  · cases l with
    | nil => simp at h1
    | cons c r =>
      simp at h1
      subst h1
      have h2 : r.getLast? ≠ some 39 := by
        intro e
        unfold Vm.unq at h
        rw [if_pos ⟨rfl, by simpa using e⟩] at h
        cases h
      exact ⟨_, fun w => unq_walk _ _ _ true false w (cut_pre_yes _ 39) (fun W => cut_suf_no r 39 W (by simp at hl; omega) h2)⟩
  · obtain ⟨U, cl, hc⟩ := cut_suf_any l 39 hl
    exact ⟨U, fun w => unq_walk _ _ _ false cl w (fun W => cut_pre_no l 39 W h1) hc⟩

theorem num_walk (A T : ByteArray) (pt : Bool) (n sc : Int) (ok : Bool) (c : Vm.Cl) (w : World) (he : EnvV w)
    (H1 : Hid (∀ W, Calls Tryz.prog 95 #[.string A, .string ⟨#[46]⟩] W fun e w' => e = .returned (.tuple #[.string T, .bool pt]) ∧ W = w'))
    (H2 : Hid (∀ W, Env W → Calls Tryz.prog 98 #[.string T] W fun e w' => e = .returned (.tuple #[.int .i64 n, .int .i64 sc, .bool ok]) ∧ Below W.heap.size W w'))
    (hc : c = if ok then (if sc = 0 ∧ pt = false then ⟨2, n, 0, ⟨#[]⟩⟩ else ⟨3, n, sc, ⟨#[]⟩⟩) else Vm.nil) :
    Calls Tryz.prog 75 #[.string A] w (Val c w) := by
  have HE := Lib.hid (he.keep (one_a w (.cells #[.int .i64 0, .int .i64 0, .int .i64 0, .string ⟨#[]⟩] 24)))
  have F0 := Lib.hid (Fx.new w 0 0 0 ⟨#[]⟩ 24)
  clear he
  cases ok
  · subst hc
    show Calls _ _ _ _ (Val Vm.nil w)
    go_enter Tryz.func75, Tryz.ntmps75
    go_wp2_with fail
    refine (H1.out _).mono ?_
    rintro e w1 ⟨rfl, rfl⟩
    go_wp2_with fail
    refine (H2.out _ HE.out.env).mono ?_
    rintro e w1 ⟨rfl, hb⟩
    have F1 := Lib.hid (F0.out.keep hb)
    have HB := Lib.hid ((one_a w (.cells #[.int .i64 0, .int .i64 0, .int .i64 0, .string ⟨#[]⟩] 24)).trans (hb.mono (by simp)))
    have x0 := F1.out.bx.c0; have x1 := F1.out.bx.c1; have x2 := F1.out.bx.c2; have x3 := F1.out.bx.c3; have z0 := F1.out.fz
    clear hb F0 H1 H2
    go_wp2
    refine bodyPost_ret (v := .agg #[.int .i64 0, .int .i64 0, .int .i64 0, .string ⟨#[]⟩]) (by simp [results, Tryz.results75, go_sem, x0, x1, x2, x3]) rfl ⟨rfl, ?_⟩
    exact set4 HB.out (Nat.le_refl _) _ _ _ _
  · by_cases h0 : sc = 0 ∧ pt = false
    · rw [if_pos rfl, if_pos h0] at hc
      subst hc
      obtain ⟨rfl, rfl⟩ := h0
      go_enter Tryz.func75, Tryz.ntmps75
      go_wp2_with fail
      refine (H1.out _).mono ?_
      rintro e w1 ⟨rfl, rfl⟩
      go_wp2_with fail
      refine (H2.out _ HE.out.env).mono ?_
      rintro e w1 ⟨rfl, hb⟩
      have F1 := Lib.hid (F0.out.keep hb)
      have HB := Lib.hid ((one_a w (.cells #[.int .i64 0, .int .i64 0, .int .i64 0, .string ⟨#[]⟩] 24)).trans (hb.mono (by simp)))
      have x0 := F1.out.bx.c0; have x1 := F1.out.bx.c1; have x2 := F1.out.bx.c2; have x3 := F1.out.bx.c3; have z0 := F1.out.fz
      clear hb F0 H1 H2
      go_wp2
      refine bodyPost_ret (v := .agg #[.int .i64 2, .int .i64 n, .int .i64 0, .string ⟨#[]⟩]) (by simp [results, Tryz.results75, go_sem, x0, x1, x2, x3]) rfl ⟨rfl, ?_⟩
      exact set4 HB.out (Nat.le_refl _) _ _ _ _
    · rw [if_pos rfl, if_neg h0] at hc
      subst hc
      have hq : (sc == 0) = false ∨ ((sc == 0) = true ∧ pt = true) := by
        cases hp : pt
        · left; rw [beq_eq_false_iff_ne]; exact fun e => h0 ⟨e, hp⟩
        · cases hs : (sc == 0)
          · exact .inl rfl
          · exact .inr ⟨rfl, rfl⟩
      clear h0
      rcases hq with q | ⟨q, rfl⟩
      all_goals
        go_enter Tryz.func75, Tryz.ntmps75
        go_wp2_with fail
        refine (H1.out _).mono ?_
        rintro e w1 ⟨rfl, rfl⟩
        go_wp2_with fail
        refine (H2.out _ HE.out.env).mono ?_
        rintro e w1 ⟨rfl, hb⟩
        have F1 := Lib.hid (F0.out.keep hb)
        have HB := Lib.hid ((one_a w (.cells #[.int .i64 0, .int .i64 0, .int .i64 0, .string ⟨#[]⟩] 24)).trans (hb.mono (by simp)))
        have x0 := F1.out.bx.c0; have x1 := F1.out.bx.c1; have x2 := F1.out.bx.c2; have x3 := F1.out.bx.c3; have z0 := F1.out.fz
        clear hb F0 H1 H2
        go_wp2
        refine bodyPost_ret (v := .agg #[.int .i64 3, .int .i64 n, .int .i64 sc, .string ⟨#[]⟩]) (by simp [results, Tryz.results75, go_sem, x0, x1, x2, x3]) rfl ⟨rfl, ?_⟩
        exact set4 HB.out (Nat.le_refl _) _ _ _ _
theorem val_guessNum (l : List UInt8) (w : World) (he : EnvV w) (hl : l.length ≤ 1000) : Calls Tryz.prog 75 #[.string (bstr l)] w (Val (Vm.guessNum l) w) := by
  by_cases h : l.getLast? = some 46
  · obtain ⟨t, rfl⟩ := last_parts l 46 h
    have ht : t.length ≤ 999 := by simp at hl; omega
    have hp := fun (W : World) (h : Env W) => dec_parse (bstr t) W h (by rw [bstr_size]; omega)
    rw [bstr_data] at hp
    refine num_walk _ (bstr t) true (Pm.parseM t).1 (Pm.parseM t).2.1 (Pm.parseM t).2.2 _ w he (fun W => cut_suf_yes t 46 W (by omega)) hp ?_
    unfold Vm.guessNum
    rw [if_pos h, List.dropLast_concat]
    simp
  · have hp := fun (W : World) (h : Env W) => dec_parse (bstr l) W h (by rw [bstr_size]; omega)
    rw [bstr_data] at hp
    refine num_walk _ (bstr l) false (Pm.parseM l).1 (Pm.parseM l).2.1 (Pm.parseM l).2.2 _ w he (fun W => cut_suf_no l 46 W hl h) hp ?_
    unfold Vm.guessNum
    rw [if_neg h]
    simp
end Go.Proofs.YtpbmjknhfgdnnaaGreatDoor
/- Package value: guessBytes. -/
namespace Go.Proofs.YtpbmjknhfgdnnaaGreatDoor
open Go.RowKit

/-- a digit's place in the row of digits -/
theorem idx_digit (c : UInt8) : Lib.indexByte (⟨#[48, 49, 50, 51, 52, 53, 54, 55, 56, 57, 65, 66, 67, 68, 69, 70]⟩ : ByteArray).data.toList c = match Vm.unhexd c with | some x => (x : Int) | none => -1 := by
  have : ∀ c : Fin 256, Lib.indexByte [48, 49, 50, 51, 52, 53, 54, 55, 56, 57, 65, 66, 67, 68, 69, 70] (UInt8.ofNat c.val) = match Vm.unhexd (UInt8.ofNat c.val) with | some x => (x : Int) | none => -1 := by decide +kernel
  have h2 := this ⟨c.toNat, c.toNat_lt⟩
  rw [show UInt8.ofNat (⟨c.toNat, c.toNat_lt⟩ : Fin 256).val = c from UInt8.ofNat_toNat] at h2
  exact h2
theorem gb_none (A U : ByteArray) (w : World)
    (H1 : Hid (∀ W, Calls Tryz.prog 72 #[.string A] W fun e w' => e = .returned (.tuple #[.string U, .bool false]) ∧ W = w')) :
    Calls Tryz.prog 74 #[.string A] w (Val Vm.nil w) := by
  go_enter Tryz.func74, Tryz.ntmps74
  go_wp2_with fail
  refine (H1.out _).mono ?_
  rintro e w1 ⟨rfl, rfl⟩
  go_wp2
  refine bodyPost_ret (v := .agg #[.int .i64 0, .int .i64 0, .int .i64 0, .string ⟨#[]⟩]) (by simp [results, Tryz.results74, go_sem]) rfl ⟨rfl, ?_⟩
  exact one_a w _
theorem gb_odd (A U : ByteArray) (w : World) (hU : U.size ≤ 1000) (ho : U.size % 2 = 1)
    (H1 : Hid (∀ W, Calls Tryz.prog 72 #[.string A] W fun e w' => e = .returned (.tuple #[.string U, .bool true]) ∧ W = w')) :
    Calls Tryz.prog 74 #[.string A] w (Val Vm.nil w) := by
  have h1 : (U.size : Int) % 2 = 1 := by omega
  have h2 : (U.size : Int).tmod 2 = 1 := by rw [Int.tmod_eq_emod_of_nonneg (by omega)]; exact h1
  clear ho
  go_enter Tryz.func74, Tryz.ntmps74
  go_wp2_with fail
  refine (H1.out _).mono ?_
  rintro e w1 ⟨rfl, rfl⟩
  go_wp2
  refine bodyPost_ret (v := .agg #[.int .i64 0, .int .i64 0, .int .i64 0, .string ⟨#[]⟩]) (by simp [results, Tryz.results74, go_sem]) rfl ⟨rfl, ?_⟩
  exact one_a w _
theorem gb_long (A U : ByteArray) (w : World) (hU : U.size ≤ 1000) (ho : U.size % 2 = 0) (hL : 400 < U.size)
    (H1 : Hid (∀ W, Calls Tryz.prog 72 #[.string A] W fun e w' => e = .returned (.tuple #[.string U, .bool true]) ∧ W = w')) :
    Calls Tryz.prog 74 #[.string A] w (Val Vm.nil w) := by
  have h1 : (U.size : Int) % 2 = 0 := by omega
  have h2 : (U.size : Int).tmod 2 = 0 := by rw [Int.tmod_eq_emod_of_nonneg (by omega)]; exact h1
  have h3 : (400 : Int) < (U.size : Int) := by omega
  clear ho
  go_enter Tryz.func74, Tryz.ntmps74
  go_wp2_with fail
  refine (H1.out _).mono ?_
  rintro e w1 ⟨rfl, rfl⟩
  go_wp2
  refine bodyPost_ret (v := .agg #[.int .i64 0, .int .i64 0, .int .i64 0, .string ⟨#[]⟩]) (by simp [results, Tryz.results74, go_sem]) rfl ⟨rfl, ?_⟩
  exact one_a w _
end Go.Proofs.YtpbmjknhfgdnnaaGreatDoor
/- Package value: guessBytes, the loop. -/
namespace Go.Proofs.YtpbmjknhfgdnnaaGreatDoor
open Go.RowKit

theorem pair_at (l : List UInt8) (i : Nat) (h : i + 1 < l.length) : l.drop i = l[i] :: l[i + 1] :: l.drop (i + 2) := by
  rw [List.drop_eq_getElem_cons (by omega), List.drop_eq_getElem_cons h]
theorem or_bits (x y : Nat) (hx : x < 16) (hy : y < 16) : bits BinOp.or IntKind.i64 ((x : Int) * 16) (y : Int) % 256 = ((UInt8.ofNat (16 * x + y)).toNat : Int) := by
  have : ∀ x y : Fin 16, bits BinOp.or IntKind.i64 ((x.val : Int) * 16) (y.val : Int) % 256 = ((UInt8.ofNat (16 * x.val + y.val)).toNat : Int) := by decide +kernel
  exact this ⟨x, hx⟩ ⟨y, hy⟩
theorem bc_one (l : List UInt8) (c : UInt8) : Lib.byteCells l ++ [.int .u8 (c.toNat : Int)] = Lib.byteCells (l ++ [c]) := by simp [Lib.byteCells]
theorem hex_none (a b : UInt8) (r : List UInt8) (h : Vm.unhexd a = none ∨ Vm.unhexd b = none) : Vm.unhex (a :: b :: r) = none := by
  rw [Vm.unhex]
  rcases h with h | h
  · rw [h]
  · rw [h]; cases Vm.unhexd a <;> rfl
theorem hex_step (a b : UInt8) (r u : List UInt8) (x y : Nat) (ha : Vm.unhexd a = some x) (hb : Vm.unhexd b = some y) : (Vm.unhex (a :: b :: r)).map (u ++ ·) = (Vm.unhex r).map ((u ++ [UInt8.ofNat (16 * x + y)]) ++ ·) := by
  rw [Vm.unhex, ha, hb]
  cases Vm.unhex r <;> simp
set_option maxRecDepth 100000 in
set_option maxHeartbeats 4000000 in
theorem gb_loop (A U : ByteArray) (w : World) (hL : U.size ≤ 400) (ho : U.size % 2 = 0)
    (H1 : Hid (∀ W, Calls Tryz.prog 72 #[.string A] W fun e w' => e = .returned (.tuple #[.string U, .bool true]) ∧ W = w')) :
    Calls Tryz.prog 74 #[.string A] w (Val (match Vm.unhex U.data.toList with | none => Vm.nil | some t => ⟨5, 0, 0, ⟨t.toArray⟩⟩) w) := by
  have h1 : (U.size : Int) % 2 = 0 := by omega
  have h2 : (U.size : Int).tmod 2 = 0 := by rw [Int.tmod_eq_emod_of_nonneg (by omega)]; exact h1
  have h3 : (U.size : Int) ≤ 400 := by omega
  obtain ⟨R, hR⟩ : ∃ R : Vm.Cl, R = match Vm.unhex U.data.toList with | none => Vm.nil | some t => ⟨5, 0, 0, ⟨t.toArray⟩⟩ := ⟨_, rfl⟩
  rw [← hR]
  have HR := Lib.hid hR; have HO := Lib.hid ho
  clear hR ho
  obtain ⟨G, hG⟩ : ∃ G : Int → Int, ∀ c, G c = Lib.indexByte (⟨#[48, 49, 50, 51, 52, 53, 54, 55, 56, 57, 65, 66, 67, 68, 69, 70]⟩ : ByteArray).data.toList c.toNat.toUInt8 := ⟨_, fun _ => rfl⟩
  have IB : Hid (∀ (c : Int) (W : World), Calls Tryz.prog 97 #[.string ⟨#[48, 49, 50, 51, 52, 53, 54, 55, 56, 57, 65, 66, 67, 68, 69, 70]⟩, .int .u8 c] W fun e w' => e = .returned (.int .i64 (G c)) ∧ w' = W) := by
    show ∀ (c : Int) (W : World), Calls Tryz.prog 97 #[.string ⟨#[48, 49, 50, 51, 52, 53, 54, 55, 56, 57, 65, 66, 67, 68, 69, 70]⟩, .int .u8 c] W fun e w' => e = .returned (.int .i64 (G c)) ∧ w' = W
    intro c W
    rw [hG]
    exact Tryz.strings_IndexByte _ c W
  have HG : Hid (∀ b : UInt8, G (b.toNat : Int) = match Vm.unhexd b with | some x => (x : Int) | none => -1) := by
    show ∀ b : UInt8, G (b.toNat : Int) = match Vm.unhexd b with | some x => (x : Int) | none => -1
    intro b
    rw [hG, Int.toNat_natCast, show b.toNat.toUInt8 = b from UInt8.ofNat_toNat]
    exact idx_digit b
  clear hG
  go_enter Tryz.func74, Tryz.ntmps74
  go_wp2_with fail
  refine (H1.out _).mono ?_
  rintro e w1 ⟨rfl, rfl⟩
  go_wp2_with fail
  go_loopw [6] (fun iv wr => ∃ i : Nat, ∃ u : List UInt8, i ≤ U.size ∧ iv = .int .i64 (i : Int) ∧ Hid (i % 2 = 0 ∧ u.length ≤ i ∧ Vm.unhex U.data.toList = (Vm.unhex (U.data.toList.drop i)).map (u ++ ·)) ∧ Hid (Lib.IsBuilderF 86 5 (w.heap.size + 1) (w.heap.size + 1) (Lib.byteCells u) wr ∧ Below (w.heap.size + 1) (w.alloc (.cells #[.int .i64 0, .int .i64 0, .int .i64 0, .string ⟨#[]⟩] 24)) wr)) (fun iv _ => U.size - (Lib.intOf iv).toNat)
  case atStart =>
    have hb := Lib.fresh_isBuilder 86 5 (w.alloc (.cells #[.int .i64 0, .int .i64 0, .int .i64 0, .string ⟨#[]⟩] 24))
    have hw := one_a (w.alloc (.cells #[.int .i64 0, .int .i64 0, .int .i64 0, .string ⟨#[]⟩] 24)) (.cells #[.pointer none, .slice none 0 0] 86)
    rw [show (w.alloc (.cells #[.int .i64 0, .int .i64 0, .int .i64 0, .string ⟨#[]⟩] 24)).heap.size = w.heap.size + 1 by simp] at hb hw
    exact ⟨0, [], Nat.zero_le _, rfl, ⟨rfl, Nat.le_refl _, by simp⟩, ⟨Lib.IsBuilderF.of hb, hw⟩⟩
  case round =>
    obtain ⟨i, u, hi, rfl, HU, HI⟩ := hrel
    have hc : ∀ o, wr.cell? ⟨w.heap.size, o, none⟩ = (w.alloc (.cells #[.int .i64 0, .int .i64 0, .int .i64 0, .string ⟨#[]⟩] 24)).cell? ⟨w.heap.size, o, none⟩ := fun o => HI.out.2.cell (p := ⟨w.heap.size, o, none⟩) (by simp)
    have hf : ∀ o, wr.frozen? ⟨w.heap.size, o, none⟩ = (w.alloc (.cells #[.int .i64 0, .int .i64 0, .int .i64 0, .string ⟨#[]⟩] 24)).frozen? ⟨w.heap.size, o, none⟩ := fun o => HI.out.2.frozen (p := ⟨w.heap.size, o, none⟩) (by simp)
    have HS : Hid (w.heap.size + 1 ≤ wr.heap.size) := by have := HI.out.2.size; simp at this; exact this
    by_cases hlt : i < U.size
    · have hlt2 : i + 1 < U.size := by have := HU.out.1; have := HO.out; omega
      have HP : Hid (U.data.toList.drop i = U[i] :: U[i + 1] :: U.data.toList.drop (i + 2)) := pair_at U.data.toList i (by simpa using hlt2)
      have s1 : IntKind.i64.wrap ((i : Int) + 1) = (i : Int) + 1 := IntWalk.i64_in _ (by omega)
      have s2 : 0 ≤ (i : Int) + 1 := by omega
      have s3 : ((i : Int) + 1).toNat = i + 1 := by omega
      cases ha : Vm.unhexd U[i] with
      | none =>
          have gA : G (U[i].toNat : Int) = -1 := by rw [HG.out, ha]
          have hfin : R = Vm.nil := by
            rw [HR.out, HU.out.2.2, HP.out, hex_none _ _ _ (.inl ha)]; rfl
          have HF := Lib.hid hfin
          clear hfin
          clear ha
          go_upto_region 8 with (fail)
          have S0 : Hid (wr.drew.cell? ⟨w.heap.size, 0, none⟩ = some (.int .i64 0)) := (hc 0).trans (by simp)
          go_region_held3 (fun w' => w'.cell? ⟨w.heap.size, 0, none⟩ = some (.int .i64 0)) (first | exact S0.out | assumption) (first
            | (go_at_call 97; refine (IB.out _ _).mono ?_; rintro e w4 ⟨rfl, rfl⟩))
          all_goals
            go_wp2
            refine bodyPost_ret (v := .agg #[.int .i64 0, .int .i64 0, .int .i64 0, .string ⟨#[]⟩]) (by simp [results, Tryz.results74, go_sem, hc]) rfl ⟨by rw [HF.out]; rfl, ?_⟩
            first
            | exact set4 (below_drew ((one_a w _).trans (HI.out.2.mono (Nat.le_succ _)))) (Nat.le_refl _) _ _ _ _
            | exact below_drew ((one_a w _).trans (HI.out.2.mono (Nat.le_succ _)))
      | some x =>
        cases hb : Vm.unhexd U[i + 1] with
        | none =>
          have gA : G (U[i].toNat : Int) = (x : Int) := by rw [HG.out, ha]
          have gB : G (U[i + 1].toNat : Int) = -1 := by rw [HG.out, hb]
          have hx := (Vm.hexd_unhexd _ x ha).2
          have hfin : R = Vm.nil := by
            rw [HR.out, HU.out.2.2, HP.out, hex_none _ _ _ (.inr hb)]; rfl
          have HF := Lib.hid hfin
          clear hfin
          clear ha hb
          go_upto_region 8 with (fail)
          have S0 : Hid (wr.drew.cell? ⟨w.heap.size, 0, none⟩ = some (.int .i64 0)) := (hc 0).trans (by simp)
          go_region_held3 (fun w' => w'.cell? ⟨w.heap.size, 0, none⟩ = some (.int .i64 0)) (first | exact S0.out | assumption) (first
            | (go_at_call 97; refine (IB.out _ _).mono ?_; rintro e w4 ⟨rfl, rfl⟩))
          all_goals
            go_wp2
            refine bodyPost_ret (v := .agg #[.int .i64 0, .int .i64 0, .int .i64 0, .string ⟨#[]⟩]) (by simp [results, Tryz.results74, go_sem, hc]) rfl ⟨by rw [HF.out]; rfl, ?_⟩
            first
            | exact set4 (below_drew ((one_a w _).trans (HI.out.2.mono (Nat.le_succ _)))) (Nat.le_refl _) _ _ _ _
            | exact below_drew ((one_a w _).trans (HI.out.2.mono (Nat.le_succ _)))
        | some y =>
          have gA : G (U[i].toNat : Int) = (x : Int) := by rw [HG.out, ha]
          have gB : G (U[i + 1].toNat : Int) = (y : Int) := by rw [HG.out, hb]
          have hx := (Vm.hexd_unhexd _ x ha).2
          have hy := (Vm.hexd_unhexd _ y hb).2
          have HSt : Hid (Vm.unhex U.data.toList = (Vm.unhex (U.data.toList.drop (i + 2))).map ((u ++ [UInt8.ofNat (16 * x + y)]) ++ ·)) := by
            show Vm.unhex U.data.toList = _
            rw [HU.out.2.2, HP.out, hex_step _ _ _ u x y ha hb]
          have HLn : Hid ((Lib.byteCells u).length ≤ 400) := by
            show (Lib.byteCells u).length ≤ 400
            rw [bc_len]; have := HU.out.2.1; omega
          have HX := Lib.hid (or_bits x y hx hy)
          clear ha hb
          go_upto_region 8 with (fail)
          have S0 : Hid (wr.drew.cell? ⟨w.heap.size, 0, none⟩ = some (.int .i64 0)) := (hc 0).trans (by simp)
          go_region_held3 (fun w' => w'.cell? ⟨w.heap.size, 0, none⟩ = some (.int .i64 0)) (first | exact S0.out | assumption) (first
            | (go_at_call 97; refine (IB.out _ _).mono ?_; rintro e w4 ⟨rfl, rfl⟩))
          all_goals
            go_wp2_with fail
            refine (write_byte (w.heap.size + 1) (w.heap.size + 1) (Lib.byteCells u) _ _ (show Lib.IsBuilderF _ _ _ _ _ wr.drew from HI.out.1) (by have := HLn.out; omega) HS.out).mono ?_
            rintro e w6 ⟨rfl, hB, hb, _⟩
            rw [HX.out, bc_one] at hB
            have HB1 := Lib.hid hB; have HW1 := Lib.hid ((below_drew HI.out.2).trans hb)
            clear hB hb hc hf
            go_wp2
            go_round
            case rel => exact ⟨i + 2, u ++ [UInt8.ofNat (16 * x + y)], by omega, by go_num, ⟨by have := HU.out.1; omega, by have := HU.out.2.1; simp; omega, HSt.out⟩, ⟨.inr HB1.out, HW1.out⟩⟩
            case measure => simp [Lib.intOf]; omega
    · have hii : i = U.size := by omega
      have hfin : R = ⟨5, 0, 0, ⟨u.toArray⟩⟩ := by
        have := HU.out.2.2
        rw [List.drop_of_length_le (by simp; omega)] at this
        simp [Vm.unhex] at this
        rw [HR.out, this]
      have HF := Lib.hid hfin
      subst hii
      clear hfin HR
      go_wp2_with fail
      refine (Tryz.Builder_String_any_k (w.heap.size + 1) (w.heap.size + 1) u _ HI.out.1 HS.out).mono ?_
      rintro e w6 ⟨rfl, _, hb, _⟩
      have HW := Lib.hid (HI.out.2.trans hb)
      clear hc hf hb HI
      have hc : ∀ o, w6.cell? ⟨w.heap.size, o, none⟩ = (w.alloc (.cells #[.int .i64 0, .int .i64 0, .int .i64 0, .string ⟨#[]⟩] 24)).cell? ⟨w.heap.size, o, none⟩ := fun o => HW.out.cell (p := ⟨w.heap.size, o, none⟩) (by simp)
      have hf : ∀ o, w6.frozen? ⟨w.heap.size, o, none⟩ = (w.alloc (.cells #[.int .i64 0, .int .i64 0, .int .i64 0, .string ⟨#[]⟩] 24)).frozen? ⟨w.heap.size, o, none⟩ := fun o => HW.out.frozen (p := ⟨w.heap.size, o, none⟩) (by simp)
      go_wp2
      refine bodyPost_ret (v := .agg #[.int .i64 5, .int .i64 0, .int .i64 0, .string ⟨u.toArray⟩]) (by simp [results, Tryz.results74, go_sem, hc]) rfl ⟨by rw [HF.out], ?_⟩
      exact set4 ((one_a w _).trans (HW.out.mono (Nat.le_succ _))) (Nat.le_refl _) _ _ _ _
theorem val_guessBytes (l : List UInt8) (w : World) (hl : l.length ≤ 1000) : Calls Tryz.prog 74 #[.string (bstr l)] w (Val (Vm.guessBytes l) w) := by
  cases h : Vm.unq l with
  | none =>
    obtain ⟨U, hU⟩ := unq_none l hl h
    have e : Vm.guessBytes l = Vm.nil := by unfold Vm.guessBytes; rw [h]
    rw [e]
    exact gb_none _ U w hU
  | some t =>
    have hU := fun (W : World) => unq_some l t W hl h
    have ht : t.length ≤ 1000 := by
      unfold Vm.unq at h
      split at h
      · have := Option.some.inj h
        rw [← this]; simp; omega
      · cases h
    by_cases ho : t.length % 2 = 1
    · have e : Vm.guessBytes l = Vm.nil := by unfold Vm.guessBytes; rw [h]; dsimp only; rw [if_pos (.inl (by omega))]
      rw [e]
      exact gb_odd _ (bstr t) w (by rw [bstr_size]; exact ht) (by rw [bstr_size]; exact ho) hU
    · by_cases hL : 400 < t.length
      · have e : Vm.guessBytes l = Vm.nil := by unfold Vm.guessBytes; rw [h]; dsimp only; rw [if_pos (.inr hL)]
        rw [e]
        exact gb_long _ (bstr t) w (by rw [bstr_size]; exact ht) (by rw [bstr_size]; omega) (by rw [bstr_size]; exact hL) hU
      · have e : Vm.guessBytes l = match Vm.unhex (bstr t).data.toList with | none => Vm.nil | some t => ⟨5, 0, 0, ⟨t.toArray⟩⟩ := by
          unfold Vm.guessBytes; rw [h]; dsimp only; rw [if_neg (by omega), bstr_data]; rfl
        rw [e]
        exact gb_loop _ (bstr t) w (by rw [bstr_size]; omega) (by rw [bstr_size]; omega) hU
end Go.Proofs.YtpbmjknhfgdnnaaGreatDoor
/- Package value: guess, Parse. -/
namespace Go.Proofs.YtpbmjknhfgdnnaaGreatDoor
open Go.RowKit

theorem guess_true (w : World) : Calls Tryz.prog 53 #[.string ⟨#[84, 82, 85, 69]⟩] w (Val ⟨1, 1, 0, ⟨#[]⟩⟩ w) := by
  have F0 := Lib.hid (Fx.new w 0 0 0 ⟨#[]⟩ 24)
  go_enter Tryz.func53, Tryz.ntmps53
  go_wp2_with fail
  refine (val_true _).mono ?_
  rintro e w1 ⟨rfl, hb⟩
  have F1 := Lib.hid (F0.out.keep hb)
  have HB := Lib.hid ((one_a w (.cells #[.int .i64 0, .int .i64 0, .int .i64 0, .string ⟨#[]⟩] 24)).trans (hb.mono (by simp)))
  have x0 := F1.out.bx.c0; have x1 := F1.out.bx.c1; have x2 := F1.out.bx.c2; have x3 := F1.out.bx.c3; have z0 := F1.out.fz
  clear hb F0
  go_wp2
  refine bodyPost_ret (v := .agg #[.int .i64 1, .int .i64 1, .int .i64 0, .string ⟨#[]⟩]) (by simp [results, Tryz.results53, go_sem, x0, x1, x2, x3]) rfl ⟨rfl, ?_⟩
  exact set4 HB.out (Nat.le_refl _) _ _ _ _

theorem guess_false (w : World) : Calls Tryz.prog 53 #[.string ⟨#[70, 65, 76, 83, 69]⟩] w (Val ⟨1, 0, 0, ⟨#[]⟩⟩ w) := by
  have F0 := Lib.hid (Fx.new w 0 0 0 ⟨#[]⟩ 24)
  go_enter Tryz.func53, Tryz.ntmps53
  go_wp2_with fail
  refine (val_false _).mono ?_
  rintro e w1 ⟨rfl, hb⟩
  have F1 := Lib.hid (F0.out.keep hb)
  have HB := Lib.hid ((one_a w (.cells #[.int .i64 0, .int .i64 0, .int .i64 0, .string ⟨#[]⟩] 24)).trans (hb.mono (by simp)))
  have x0 := F1.out.bx.c0; have x1 := F1.out.bx.c1; have x2 := F1.out.bx.c2; have x3 := F1.out.bx.c3; have z0 := F1.out.fz
  clear hb F0
  go_wp2
  refine bodyPost_ret (v := .agg #[.int .i64 1, .int .i64 0, .int .i64 0, .string ⟨#[]⟩]) (by simp [results, Tryz.results53, go_sem, x0, x1, x2, x3]) rfl ⟨rfl, ?_⟩
  exact set4 HB.out (Nat.le_refl _) _ _ _ _

theorem guess_text (s T V : ByteArray) (w : World) (he : EnvV w) (k2 : (s.toList == [84, 82, 85, 69]) = false) (k3 : (s.toList == [70, 65, 76, 83, 69]) = false)
    (H1 : Hid (∀ W, Calls Tryz.prog 72 #[.string s] W fun e w' => e = .returned (.tuple #[.string T, .bool true]) ∧ W = w'))
    (H2 : Hid (∀ W, EnvV W → Calls Tryz.prog 51 #[.string T, .string ⟨#[39, 39]⟩, .string ⟨#[39]⟩] W fun e w' => e = .returned (.string V) ∧ Below W.heap.size W w')) :
    Calls Tryz.prog 53 #[.string s] w (Val ⟨4, 0, 0, V⟩ w) := by
  have HE := Lib.hid (he.keep (one_a w (.cells #[.int .i64 0, .int .i64 0, .int .i64 0, .string ⟨#[]⟩] 24)))
  have F0 := Lib.hid (Fx.new w 0 0 0 ⟨#[]⟩ 24)
  clear he
  go_enter Tryz.func53, Tryz.ntmps53
  go_wp2_with fail
  refine (H1.out _).mono ?_
  rintro e w1 ⟨rfl, rfl⟩
  go_wp2_with fail
  refine (H2.out _ HE.out).mono ?_
  rintro e w1 ⟨rfl, hb⟩
  clear H1 H2
  have F1 := Lib.hid (F0.out.keep hb)
  have HB := Lib.hid ((one_a w (.cells #[.int .i64 0, .int .i64 0, .int .i64 0, .string ⟨#[]⟩] 24)).trans (hb.mono (by simp)))
  have x0 := F1.out.bx.c0; have x1 := F1.out.bx.c1; have x2 := F1.out.bx.c2; have x3 := F1.out.bx.c3; have z0 := F1.out.fz
  clear hb F0
  go_wp2
  refine bodyPost_ret (v := .agg #[.int .i64 4, .int .i64 0, .int .i64 0, .string V]) (by simp [results, Tryz.results53, go_sem, x0, x1, x2, x3]) rfl ⟨rfl, ?_⟩
  exact set4 HB.out (Nat.le_refl _) _ _ _ _

theorem guess_hex (s T R css : ByteArray) (ck cn cs : Int) (w : World) (he : EnvV w) (k2 : (s.toList == [84, 82, 85, 69]) = false) (k3 : (s.toList == [70, 65, 76, 83, 69]) = false)
    (H1 : Hid (∀ W, Calls Tryz.prog 72 #[.string s] W fun e w' => e = .returned (.tuple #[.string T, .bool false]) ∧ W = w'))
    (H2 : Hid (∀ W, Calls Tryz.prog 73 #[.string s, .string ⟨#[88]⟩] W fun e w' => e = .returned (.tuple #[.string R, .bool true]) ∧ W = w'))
    (H3 : Hid (∀ W, EnvV W → Calls Tryz.prog 74 #[.string R] W fun e w' => e = .returned (.agg #[.int .i64 ck, .int .i64 cn, .int .i64 cs, .string css]) ∧ Below W.heap.size W w')) :
    Calls Tryz.prog 53 #[.string s] w (Val ⟨ck, cn, cs, css⟩ w) := by
  have HE := Lib.hid (he.keep (one_a w (.cells #[.int .i64 0, .int .i64 0, .int .i64 0, .string ⟨#[]⟩] 24)))
  have F0 := Lib.hid (Fx.new w 0 0 0 ⟨#[]⟩ 24)
  clear he
  go_enter Tryz.func53, Tryz.ntmps53
  go_wp2_with fail
  refine (H1.out _).mono ?_
  rintro e w1 ⟨rfl, rfl⟩
  go_wp2_with fail
  refine (H2.out _).mono ?_
  rintro e w1 ⟨rfl, rfl⟩
  go_wp2_with fail
  refine (H3.out _ HE.out).mono ?_
  rintro e w1 ⟨rfl, hb⟩
  clear H1 H2 H3
  have F1 := Lib.hid (F0.out.keep hb)
  have HB := Lib.hid ((one_a w (.cells #[.int .i64 0, .int .i64 0, .int .i64 0, .string ⟨#[]⟩] 24)).trans (hb.mono (by simp)))
  have x0 := F1.out.bx.c0; have x1 := F1.out.bx.c1; have x2 := F1.out.bx.c2; have x3 := F1.out.bx.c3; have z0 := F1.out.fz
  clear hb F0
  go_wp2
  refine bodyPost_ret (v := .agg #[.int .i64 ck, .int .i64 cn, .int .i64 cs, .string css]) (by simp [results, Tryz.results53, go_sem, x0, x1, x2, x3]) rfl ⟨rfl, ?_⟩
  exact set4 HB.out (Nat.le_refl _) _ _ _ _

theorem guess_num (s T R css : ByteArray) (ck cn cs : Int) (w : World) (he : EnvV w) (k2 : (s.toList == [84, 82, 85, 69]) = false) (k3 : (s.toList == [70, 65, 76, 83, 69]) = false)
    (H1 : Hid (∀ W, Calls Tryz.prog 72 #[.string s] W fun e w' => e = .returned (.tuple #[.string T, .bool false]) ∧ W = w'))
    (H2 : Hid (∀ W, Calls Tryz.prog 73 #[.string s, .string ⟨#[88]⟩] W fun e w' => e = .returned (.tuple #[.string R, .bool false]) ∧ W = w'))
    (H3 : Hid (∀ W, EnvV W → Calls Tryz.prog 75 #[.string s] W fun e w' => e = .returned (.agg #[.int .i64 ck, .int .i64 cn, .int .i64 cs, .string css]) ∧ Below W.heap.size W w')) :
    Calls Tryz.prog 53 #[.string s] w (Val ⟨ck, cn, cs, css⟩ w) := by
  have HE := Lib.hid (he.keep (one_a w (.cells #[.int .i64 0, .int .i64 0, .int .i64 0, .string ⟨#[]⟩] 24)))
  have F0 := Lib.hid (Fx.new w 0 0 0 ⟨#[]⟩ 24)
  clear he
  go_enter Tryz.func53, Tryz.ntmps53
  go_wp2_with fail
  refine (H1.out _).mono ?_
  rintro e w1 ⟨rfl, rfl⟩
  go_wp2_with fail
  refine (H2.out _).mono ?_
  rintro e w1 ⟨rfl, rfl⟩
  go_wp2_with fail
  refine (H3.out _ HE.out).mono ?_
  rintro e w1 ⟨rfl, hb⟩
  clear H1 H2 H3
  have F1 := Lib.hid (F0.out.keep hb)
  have HB := Lib.hid ((one_a w (.cells #[.int .i64 0, .int .i64 0, .int .i64 0, .string ⟨#[]⟩] 24)).trans (hb.mono (by simp)))
  have x0 := F1.out.bx.c0; have x1 := F1.out.bx.c1; have x2 := F1.out.bx.c2; have x3 := F1.out.bx.c3; have z0 := F1.out.fz
  clear hb F0
  go_wp2
  refine bodyPost_ret (v := .agg #[.int .i64 ck, .int .i64 cn, .int .i64 cs, .string css]) (by simp [results, Tryz.results53, go_sem, x0, x1, x2, x3]) rfl ⟨rfl, ?_⟩
  exact set4 HB.out (Nat.le_refl _) _ _ _ _

theorem lit_ne (l m : List UInt8) (h : l ≠ m) : ((bstr l).toList == m) = false := by
  rw [Lib.toList_data, bstr_data, beq_eq_false_iff_ne]; exact h
theorem val_guess (l : List UInt8) (w : World) (he : EnvV w) (hl : l.length ≤ 1000) : Calls Tryz.prog 53 #[.string (bstr l)] w (Val (Vm.guess l) w) := by
  unfold Vm.guess
  by_cases e1 : l = [84, 82, 85, 69]
  · rw [if_pos e1]; subst e1; exact guess_true w
  rw [if_neg e1]
  by_cases e2 : l = [70, 65, 76, 83, 69]
  · rw [if_pos e2]; subst e2; exact guess_false w
  rw [if_neg e2]
  have k2 := lit_ne l _ e1
  have k3 := lit_ne l _ e2
  cases h : Vm.unq l with
  | some t =>
    dsimp only
    have ht : t.length ≤ 1000 := by
      unfold Vm.unq at h
      split at h
      · have := Option.some.inj h
        rw [← this]; simp; omega
      · cases h
    exact guess_text (bstr l) (bstr t) _ w he k2 k3 (fun W => unq_some l t W hl h) (fun W hW => rep_half (bstr t) W hW (by rw [bstr_size]; exact ht))
  | none =>
    dsimp only
    obtain ⟨U, hU⟩ := unq_none l hl h
    by_cases e3 : l.head? = some 88
    · rw [if_pos e3]
      cases l with
      | nil => simp at e3
      | cons c r =>
        simp at e3
        subst e3
        exact guess_hex (bstr (88 :: r)) U (bstr r) _ _ _ _ w he k2 k3 hU (cut_pre_yes r 88) (fun W _ => val_guessBytes r W (by simp at hl; omega))
    · rw [if_neg e3]
      exact guess_num (bstr l) U (bstr l) _ _ _ _ w he k2 k3 hU (fun W => cut_pre_no l 88 W e3) (fun W hW => val_guessNum l W hW hl)
theorem half_len : ∀ t : List UInt8, (Vm.half t).length ≤ t.length
  | [] => Nat.le_refl _
  | [_] => Nat.le_refl _
  | c :: d :: r => by
    have h1 := half_len r
    have h2 := half_len (d :: r)
    rw [Vm.half]
    split
    · simp; omega
    · simp at h2 ⊢; omega
theorem guess_size (l : List UInt8) (hl : l.length ≤ 1000) : (Vm.guess l).s.size ≤ 1000 := by
  have z : (⟨#[]⟩ : ByteArray).size ≤ 1000 := by decide
  unfold Vm.guess
  split
  · exact z
  split
  · exact z
  split
  · rename_i t h
    show (bstr (Vm.half t)).size ≤ 1000
    rw [bstr_size]
    have h1 := half_len t
    unfold Vm.unq at h
    split at h
    · have h2 := congrArg List.length (Option.some.inj h)
      rw [List.length_dropLast, List.length_drop] at h2
      omega
    · cases h
  split
  · unfold Vm.guessBytes
    split
    · exact z
    split
    · exact z
    rename_i hh
    split
    · exact z
    · rename_i t ht
      show (bstr t).size ≤ 1000
      rw [bstr_size]
      have := (Vm.hex_unhex _ t ht).2
      omega
  · unfold Vm.guessNum
    repeat' split
    all_goals exact z

set_option maxRecDepth 100000 in
set_option maxHeartbeats 1000000 in
theorem parse_yes (s T css : ByteArray) (ck cn cs : Int) (w : World) (he : EnvV w) (q : (T.toList == s.toList) = true)
    (H1 : Hid (∀ W, EnvV W → Calls Tryz.prog 53 #[.string s] W fun e w' => e = .returned (.agg #[.int .i64 ck, .int .i64 cn, .int .i64 cs, .string css]) ∧ Below W.heap.size W w'))
    (H2 : Hid (∀ W, EnvV W → Calls Tryz.prog 22 #[.agg #[.int .i64 ck, .int .i64 cn, .int .i64 cs, .string css]] W fun e w' => e = .returned (.string T) ∧ Below W.heap.size W w')) :
    Calls Tryz.prog 23 #[.string s] w (ValB (⟨ck, cn, cs, css⟩, true) w) := by
  have q' : (T.toList != s.toList) = !true := by unfold bne; rw [q]
  have HE := Lib.hid (he.keep (one_a w (.cells #[.int .i64 0, .int .i64 0, .int .i64 0, .string ⟨#[]⟩] 24)))
  have F0 := Lib.hid (Fx.new w 0 0 0 ⟨#[]⟩ 24)
  clear he
  go_enter Tryz.func23, Tryz.ntmps23
  go_wp2_with fail
  refine (H1.out _ HE.out).mono ?_
  rintro e w1 ⟨rfl, hb⟩
  have hb2 := hb.alloc hb.size (.cells #[.int .i64 ck, .int .i64 cn, .int .i64 cs, .string css] 24)
  have F1 := Lib.hid (F0.out.keep hb2)
  have V1 := Lib.hid (Fx.new w1 ck cn cs css 24)
  have HE2 := Lib.hid (HE.out.keep hb2)
  have HB := Lib.hid ((one_a w (.cells #[.int .i64 0, .int .i64 0, .int .i64 0, .string ⟨#[]⟩] 24)).trans (hb2.mono (by simp)))
  have L1 : w.heap.size < w1.heap.size := by have := hb.size; simp at this; omega
  clear hb hb2 F0 HE H1
  go_wp2_with fail
  refine (H2.out _ HE2.out).mono ?_
  rintro e w2 ⟨rfl, hb⟩
  have F2 := Lib.hid (F1.out.keep hb)
  have V2 := Lib.hid (V1.out.keep hb)
  have HB2 := Lib.hid (HB.out.trans (hb.mono HB.out.size))
  have x0 := F2.out.bx.c0; have x1 := F2.out.bx.c1; have x2 := F2.out.bx.c2; have x3 := F2.out.bx.c3; have z0 := F2.out.fz
  have y0 := V2.out.bx.c0; have y1 := V2.out.bx.c1; have y2 := V2.out.bx.c2; have y3 := V2.out.bx.c3
  clear hb F1 V1 HE2 HB H2
  go_wp2
  refine bodyPost_ret (v := .tuple #[.agg #[.int .i64 ck, .int .i64 cn, .int .i64 cs, .string css], .bool true]) (by simp [results, Tryz.results23, go_sem, x0, x1, x2, x3]) rfl ⟨rfl, ?_⟩
  exact set4 HB2.out (Nat.le_refl _) _ _ _ _

set_option maxRecDepth 100000 in
set_option maxHeartbeats 1000000 in
theorem parse_no (s T css : ByteArray) (ck cn cs : Int) (w : World) (he : EnvV w) (q : (T.toList == s.toList) = false)
    (H1 : Hid (∀ W, EnvV W → Calls Tryz.prog 53 #[.string s] W fun e w' => e = .returned (.agg #[.int .i64 ck, .int .i64 cn, .int .i64 cs, .string css]) ∧ Below W.heap.size W w'))
    (H2 : Hid (∀ W, EnvV W → Calls Tryz.prog 22 #[.agg #[.int .i64 ck, .int .i64 cn, .int .i64 cs, .string css]] W fun e w' => e = .returned (.string T) ∧ Below W.heap.size W w')) :
    Calls Tryz.prog 23 #[.string s] w (ValB (Vm.nil, false) w) := by
  have q' : (T.toList != s.toList) = !false := by unfold bne; rw [q]
  have HE := Lib.hid (he.keep (one_a w (.cells #[.int .i64 0, .int .i64 0, .int .i64 0, .string ⟨#[]⟩] 24)))
  have F0 := Lib.hid (Fx.new w 0 0 0 ⟨#[]⟩ 24)
  clear he
  go_enter Tryz.func23, Tryz.ntmps23
  go_wp2_with fail
  refine (H1.out _ HE.out).mono ?_
  rintro e w1 ⟨rfl, hb⟩
  have hb2 := hb.alloc hb.size (.cells #[.int .i64 ck, .int .i64 cn, .int .i64 cs, .string css] 24)
  have F1 := Lib.hid (F0.out.keep hb2)
  have V1 := Lib.hid (Fx.new w1 ck cn cs css 24)
  have HE2 := Lib.hid (HE.out.keep hb2)
  have HB := Lib.hid ((one_a w (.cells #[.int .i64 0, .int .i64 0, .int .i64 0, .string ⟨#[]⟩] 24)).trans (hb2.mono (by simp)))
  have L1 : w.heap.size < w1.heap.size := by have := hb.size; simp at this; omega
  clear hb hb2 F0 HE H1
  go_wp2_with fail
  refine (H2.out _ HE2.out).mono ?_
  rintro e w2 ⟨rfl, hb⟩
  have F2 := Lib.hid (F1.out.keep hb)
  have V2 := Lib.hid (V1.out.keep hb)
  have HB2 := Lib.hid (HB.out.trans (hb.mono HB.out.size))
  have x0 := F2.out.bx.c0; have x1 := F2.out.bx.c1; have x2 := F2.out.bx.c2; have x3 := F2.out.bx.c3; have z0 := F2.out.fz
  have y0 := V2.out.bx.c0; have y1 := V2.out.bx.c1; have y2 := V2.out.bx.c2; have y3 := V2.out.bx.c3
  clear hb F1 V1 HE2 HB H2
  go_wp2
  refine bodyPost_ret (v := .tuple #[.agg #[.int .i64 0, .int .i64 0, .int .i64 0, .string ⟨#[]⟩], .bool false]) (by simp [results, Tryz.results23, go_sem, x0, x1, x2, x3]) rfl ⟨rfl, ?_⟩
  exact set4 HB2.out (Nat.le_refl _) _ _ _ _

theorem val_parse (s : ByteArray) (w : World) (he : EnvV w) (hz : s.size ≤ 1000) : Calls Tryz.prog 23 #[.string s] w (ValB (Vm.parse s.data.toList) w) := by
  have hg := fun (W : World) (h : EnvV W) => val_guess s.data.toList W h (by simpa using hz)
  rw [bs_data] at hg
  have hsz := guess_size s.data.toList (by simpa using hz)
  have hp := fun (W : World) (h : EnvV W) => val_print (Vm.guess s.data.toList) W h (Vm.guess_i64 _) (by unfold maxLen; omega)
  rw [Vm.parse_guess]
  have hq : ((bstr (Vm.print (Vm.plain (Vm.guess s.data.toList)))).toList == s.toList) = decide (Vm.print (Vm.plain (Vm.guess s.data.toList)) = s.data.toList) := by
    rw [Lib.toList_data, Lib.toList_data, bstr_data, Bool.eq_iff_iff]; simp
  by_cases e : Vm.print (Vm.plain (Vm.guess s.data.toList)) = s.data.toList
  · rw [if_pos e]
    rw [decide_eq_true e] at hq
    exact parse_yes s _ _ _ _ _ w he hq hg hp
  · rw [if_neg e]
    rw [decide_eq_false e] at hq
    exact parse_no s _ _ _ _ _ w he hq hg hp
end Go.Proofs.YtpbmjknhfgdnnaaGreatDoor
/- Package value keeps the contracts that the laws take. -/
namespace Go.Proofs.YtpbmjknhfgdnnaaGreatDoor
open Go.RowKit

theorem valCon : ValCon where
  right := fun c w he hz => val_right c.k c.n c.sc c.s w he hz
  rtype := fun k sc w _ => val_rtype k sc w
  of := fun c k sc w he hz => val_of c k sc w he hz
  name := fun k sc w he => val_name k sc w he
  compare := fun a b w he ha hb hza hzb => val_compare a b w he ha hb hza hzb
  order := fun a b w he ha hb hza hzb => val_order a b w he ha hb hza hzb
  print := fun c w he hi hz => val_print c w he hi hz
  parse := fun s w he hz => val_parse s w he hz
  not := fun a w => (not_w a w).mono fun _ _ h => ⟨h.1, by rw [← h.2]; exact Below.refl _ _⟩
  and := fun a b w => (and_w a b w).mono fun _ _ h => ⟨h.1, by rw [← h.2]; exact Below.refl _ _⟩
  or := fun a b w => (or_w a b w).mono fun _ _ h => ⟨h.1, by rw [← h.2]; exact Below.refl _ _⟩
  bool := fun b w => val_bool b w
  truth := fun c w _ _ => val_truth c w
end Go.Proofs.YtpbmjknhfgdnnaaGreatDoor
