/- (*strings.Builder).WriteByte: the library's contract, laid by hand. -/
import Derived.Test.YtpbmjknhfgdnnaaGreatDoorValFm
import Derived.Test.YtpbmjknhfgdnnaaGreatDoorShelf2
import Derived.Shelf.Strings.BuilderK
import Derived.Test.YtpbmjknhfgdnnaaGreatDoorValCa
import Derived.Test.YtpbmjknhfgdnnaaGreatDoorValPm
import Derived.Lib.ReplaceLaws
namespace Go.Proofs.YtpbmjknhfgdnnaaGreatDoor
open Go.RowKit

def wbRen : Go.Shelf.Ren := ⟨fun | 167 => 70 | n => Tryz.lays154_ren.f n, Tryz.lays154_ren.t, Tryz.lays154_ren.g⟩
theorem wbLays : Go.Proofs.Lays.n167 Tryz.prog wbRen := { Tryz.lays154 with f167 := Tryz.func70.trans (congrArg some (by kernel_rfl)) }
set_option maxRecDepth 100000 in
theorem wbExtra : Builder.Extra Tryz.prog wbRen := { Tryz.Builder_Extra_154 with }
theorem write_byte (B b : Nat) (bs : List Value) (c : Int) (w : World) (h : Lib.IsBuilderF 86 5 B b bs w) (hlen : bs.length + 1 ≤ 140737488355328) (hBw : B ≤ w.heap.size) :
    Calls Tryz.prog 70 #[.pointer (some ⟨b, 0, none⟩), .int .u8 c] w fun e w' => e = .returned .nilIface ∧ (Lib.BuilderAtF 86 5 B b (.pointer (some ⟨b, 0, none⟩)) (bs ++ [.int .u8 c]) w' ∧ Below B w w' ∧ Lib.OthersKept 5 (some b) w w') :=
  Any.Builder_WriteByte_k wbLays wbExtra B b bs c w h hlen hBw
end Go.Proofs.YtpbmjknhfgdnnaaGreatDoor
/- The library's replacing of apostrophes in plain words; package value: printDec, quoted. -/
namespace Go.Proofs.YtpbmjknhfgdnnaaGreatDoor
open Go.RowKit

/-- all instances replaced -/
def rAll (old new l : List UInt8) : List UInt8 := Lib.replaceK old new (Lib.count l old) l
theorem rAll_eq (old new l : List UInt8) (h : (old == new) = false) : Lib.replaceAll l old new = rAll old new l := by
  unfold Lib.replaceAll Lib.replace Lib.replaceNum rAll
  rw [h]; simp
theorem rAll_hit (old new t : List UInt8) (c : UInt8) (r : List UInt8) (h : old ++ t = c :: r) (h0 : old ≠ []) : rAll old new (c :: r) = new ++ rAll old new t := by
  have hi : Lib.index (c :: r) old = ((0 : Nat) : Int) := by
    rw [Lib.index, if_pos (by rw [← h]; simp)]; rfl
  unfold rAll
  rw [Lib.count_hit h0 hi, Nat.add_comm, Lib.replaceK_hit old new _ _ 0 hi]
  have : (c :: r).drop (0 + old.length) = t := by rw [← h]; simp
  rw [this]; simp
theorem rAll_skip (old new : List UInt8) (c : UInt8) (r : List UInt8) (h : old.isPrefixOf (c :: r) = false) (h0 : old ≠ []) : rAll old new (c :: r) = c :: rAll old new r := by
  have hd : Lib.index (c :: r) old = if Lib.index r old == -1 then -1 else Lib.index r old + 1 := by rw [Lib.index, h]; rfl
  by_cases hm : Lib.index r old = -1
  · have h1 : Lib.index (c :: r) old = -1 := by rw [hd, hm]; rfl
    unfold rAll
    rw [Lib.count_miss h1, Lib.count_miss hm]; rfl
  · have hge := Lib.index_ge r old
    obtain ⟨i, hi⟩ : ∃ i : Nat, Lib.index r old = i := ⟨(Lib.index r old).toNat, by omega⟩
    have h1 : Lib.index (c :: r) old = ((i + 1 : Nat) : Int) := by
      rw [hd, hi, if_neg (by rw [beq_iff_eq]; omega)]; omega
    unfold rAll
    rw [Lib.count_hit h0 h1, Lib.count_hit h0 hi, Nat.add_comm 1, Nat.add_comm 1, Lib.replaceK_hit old new _ _ _ h1, Lib.replaceK_hit old new _ _ _ hi]
    have e1 : (c :: r).drop (i + 1 + old.length) = r.drop (i + old.length) := by rw [show i + 1 + old.length = (i + old.length) + 1 by omega]; rfl
    rw [e1]; simp
theorem rAll_nil (old new : List UInt8) (h0 : old ≠ []) : rAll old new [] = [] := by
  have : Lib.index [] old = -1 := by
    rw [Lib.index]; cases old with | nil => exact absurd rfl h0 | cons _ _ => rfl
  unfold rAll; rw [Lib.count_miss this]; rfl
theorem rAll_esc : ∀ l : List UInt8, rAll [39] [39, 39] l = Vm.esc l
  | [] => rAll_nil _ _ (by simp)
  | c :: r => by
    by_cases hc : c = 39
    · subst hc
      rw [rAll_hit [39] [39, 39] r 39 r rfl (by simp), rAll_esc r, Vm.esc, if_pos rfl]; rfl
    · rw [rAll_skip _ _ c r (by simp [List.isPrefixOf]; exact fun e => hc e.symm) (by simp), rAll_esc r, Vm.esc, if_neg hc]
theorem rAll_half : ∀ l : List UInt8, rAll [39, 39] [39] l = Vm.half l
  | [] => rAll_nil _ _ (by simp)
  | [c] => by rw [rAll_skip _ _ c [] (by simp [List.isPrefixOf]) (by simp), rAll_nil _ _ (by simp)]; rfl
  | c :: d :: r => by
    by_cases hc : c = 39 ∧ d = 39
    · obtain ⟨rfl, rfl⟩ := hc
      rw [rAll_hit [39, 39] [39] r 39 (39 :: r) rfl (by simp), rAll_half r, Vm.half, if_pos ⟨rfl, rfl⟩]; rfl
    · rw [rAll_skip _ _ c (d :: r) (by simp [List.isPrefixOf]; exact fun e1 e2 => hc ⟨e1.symm, e2.symm⟩) (by simp), rAll_half (d :: r), Vm.half, if_neg hc]
theorem escd_len : ∀ l : List UInt8, (Vm.esc l).length ≤ 2 * l.length
  | [] => Nat.le_refl _
  | c :: r => by
    have := escd_len r
    rw [Vm.esc]; split <;> simp <;> omega
theorem hexl_len : ∀ l : List UInt8, (Vm.hex l).length = 2 * l.length
  | [] => rfl
  | c :: r => by
    have := hexl_len r
    rw [Vm.hex]; simp; omega
theorem rep_esc (s : ByteArray) (w : World) (he : EnvV w) (hs : s.size ≤ 1000) : Calls Tryz.prog 51 #[.string s, .string ⟨#[39]⟩, .string ⟨#[39, 39]⟩] w (Str (Vm.esc s.data.toList) w) := by
  obtain ⟨m, hm⟩ := he.env.mx
  have hc := Lib.countB_le ⟨#[39]⟩ (by decide) s.size s (Nat.le_refl _)
  refine (Tryz.strings_ReplaceAll s ⟨#[39]⟩ ⟨#[39, 39]⟩ m w (by omega) hm (by decide) (by show s.size + Lib.countB s ⟨#[39]⟩ * 2 ≤ _; omega)).mono ?_
  rintro e w' ⟨he, hb⟩
  refine ⟨?_, hb⟩
  rw [he, rAll_eq _ _ _ (by decide), show (⟨#[39]⟩ : ByteArray).data.toList = [39] from rfl, show (⟨#[39, 39]⟩ : ByteArray).data.toList = [39, 39] from rfl, rAll_esc]
theorem rep_half (s : ByteArray) (w : World) (he : EnvV w) (hs : s.size ≤ 1000) : Calls Tryz.prog 51 #[.string s, .string ⟨#[39, 39]⟩, .string ⟨#[39]⟩] w (Str (Vm.half s.data.toList) w) := by
  obtain ⟨m, hm⟩ := he.env.mx
  have hc := Lib.countB_le ⟨#[39, 39]⟩ (by decide) s.size s (Nat.le_refl _)
  refine (Tryz.strings_ReplaceAll s ⟨#[39, 39]⟩ ⟨#[39]⟩ m w (by omega) hm (by decide) (by show s.size + Lib.countB s ⟨#[39, 39]⟩ * 1 ≤ _; omega)).mono ?_
  rintro e w' ⟨he, hb⟩
  refine ⟨?_, hb⟩
  rw [he, rAll_eq _ _ _ (by decide), show (⟨#[39]⟩ : ByteArray).data.toList = [39] from rfl, show (⟨#[39, 39]⟩ : ByteArray).data.toList = [39, 39] from rfl, rAll_half]

theorem val_quoted (s : ByteArray) (w : World) (hs : s.size ≤ 10000) : Calls Tryz.prog 50 #[.string s] w fun e w' => e = .returned (.string (⟨#[39]⟩ ++ s ++ ⟨#[39]⟩)) ∧ w = w' := by
  have hs2 : (s.size : Int) ≤ 10000 := by omega
  have hz : ((⟨#[39]⟩ : ByteArray) ++ s).size = s.size + 1 := by rw [ByteArray.size_append]; show 1 + s.size = _; omega
  go_enter Tryz.func50, Tryz.ntmps50
  go_wp2
  go_ret
  exact ⟨rfl, rfl⟩
theorem txt_len (n s : Int) (hn : i64 n) : (printM n s).length ≤ 100 := by
  unfold printM
  cases hs : scB s
  · simp
  · obtain ⟨h1, h2⟩ := scB_true hs
    have hd := nd_len n.natAbs (natAbs_lt n hn)
    have hp : (padD n.natAbs s.toNat).length ≤ 30 := by unfold padD; rw [List.length_append, List.length_replicate]; omega
    have hdot : (dotD n.natAbs s.toNat).length ≤ 80 := by
      unfold dotD; split
      · omega
      · simp; omega
    rw [if_pos rfl]
    split
    · simp; omega
    · omega
theorem print_dec (n sc : Int) (w : World) (he : Env w) (hn : i64 n) : Calls Tryz.prog 49 #[.int .i64 n, .int .i64 sc] w (Str (if sc = 0 then printM n sc ++ [46] else printM n sc) w) := by
  have hl := txt_len n sc hn
  obtain ⟨T, hT⟩ : ∃ T : ByteArray, T = bstr (printM n sc) := ⟨_, rfl⟩
  have hz : T.size ≤ 100 := by rw [hT, bstr_size]; exact hl
  have hz2 : (T.size : Int) ≤ 100 := by omega
  have DP : Hid (∀ W, Env W → Calls Tryz.prog 48 #[.int .i64 n, .int .i64 sc] W fun e w' => e = .returned (.string T) ∧ Below W.heap.size W w') := by
    show ∀ W, Env W → Calls Tryz.prog 48 #[.int .i64 n, .int .i64 sc] W fun e w' => e = .returned (.string T) ∧ Below W.heap.size W w'
    intro W h
    rw [hT]
    exact dec_print n sc W h hn
  have HT := Lib.hid hT; have HE := Lib.hid he
  clear hT he hn hl
  by_cases h0 : sc = 0
  · have q0 : (sc == 0) = true := by simpa using h0
    rw [if_pos h0]
    clear h0
    go_enter Tryz.func49, Tryz.ntmps49
    go_wp2_with fail
    refine (DP.out _ HE.out).mono ?_
    rintro e w1 ⟨rfl, hb⟩
    have HB := Lib.hid hb
    clear hb
    go_wp2
    go_ret
    exact ⟨ret_str (by rw [HT.out, ← bstr_append]; rfl), HB.out⟩
  · have q0 : (sc == 0) = false := by simpa using h0
    rw [if_neg h0]
    clear h0
    go_enter Tryz.func49, Tryz.ntmps49
    go_wp2_with fail
    refine (DP.out _ HE.out).mono ?_
    rintro e w1 ⟨rfl, hb⟩
    have HB := Lib.hid hb
    clear hb
    go_wp2
    go_ret
    exact ⟨ret_str HT.out, HB.out⟩
end Go.Proofs.YtpbmjknhfgdnnaaGreatDoor
/- Package value: hexOf. -/
namespace Go.Proofs.YtpbmjknhfgdnnaaGreatDoor
open Go.RowKit

theorem hexc_snoc (c : UInt8) : ∀ l : List UInt8, Vm.hex (l ++ [c]) = Vm.hex l ++ [Vm.hexd (c.toNat / 16), Vm.hexd (c.toNat % 16)]
  | [] => rfl
  | d :: r => by rw [List.cons_append, Vm.hex, hexc_snoc c r, Vm.hex]; rfl
def digs : ByteArray := ⟨#[48, 49, 50, 51, 52, 53, 54, 55, 56, 57, 65, 66, 67, 68, 69, 70]⟩
theorem digs_at (d : Nat) (h : d < 16) : (⟨#[48, 49, 50, 51, 52, 53, 54, 55, 56, 57, 65, 66, 67, 68, 69, 70]⟩ : ByteArray)[d]'h = Vm.hexd d := by
  have : ∀ d : Fin 16, (⟨#[48, 49, 50, 51, 52, 53, 54, 55, 56, 57, 65, 66, 67, 68, 69, 70]⟩ : ByteArray)[d.val]'d.isLt = Vm.hexd d.val := by decide +kernel
  exact this ⟨d, h⟩
theorem bc_snoc (l : List UInt8) (c d : UInt8) : (Lib.byteCells l ++ [.int .u8 (c.toNat : Int)]) ++ [.int .u8 (d.toNat : Int)] = Lib.byteCells (l ++ [c, d]) := by simp [Lib.byteCells]
theorem bc_len (l : List UInt8) : (Lib.byteCells l).length = l.length := by simp [Lib.byteCells]
set_option maxRecDepth 100000 in
set_option maxHeartbeats 4000000 in
theorem val_hex (s : ByteArray) (w : World) (hs : s.size ≤ 1000) : Calls Tryz.prog 52 #[.string s] w (Str (Vm.hex s.data.toList) w) := by
  have hs2 : (s.size : Int) ≤ 1000 := by omega
  go_enter Tryz.func52, Tryz.ntmps52
  go_wp2_with fail
  go_loopw [7] (fun iv wr => ∃ j : Nat, j ≤ s.size ∧ iv = .int .i64 (j : Int) ∧ Hid (Lib.IsBuilderF 86 5 w.heap.size w.heap.size (Lib.byteCells (Vm.hex (s.data.toList.take j))) wr ∧ Below w.heap.size w wr)) (fun iv _ => s.size - (Lib.intOf iv).toNat)
  case atStart => exact ⟨0, Nat.zero_le _, rfl, ⟨Lib.IsBuilderF.of (Lib.fresh_isBuilder _ _ w), one_a w _⟩⟩
  case round =>
    obtain ⟨j, hj, rfl, HI⟩ := hrel
    by_cases hlt : j < s.size
    · have HL : Hid ((Lib.byteCells (Vm.hex (s.data.toList.take j))).length ≤ 2000) := by
        show (Lib.byteCells (Vm.hex (s.data.toList.take j))).length ≤ 2000
        rw [bc_len, hexl_len, List.length_take]; omega
      have HT : Hid (Vm.hex (s.data.toList.take (j + 1)) = Vm.hex (s.data.toList.take j) ++ [Vm.hexd (s[j].toNat / 16), Vm.hexd (s[j].toNat % 16)]) := by
        show Vm.hex (s.data.toList.take (j + 1)) = _
        rw [take_snoc s j hlt, hexc_snoc]
      have hc := s[j].toNat_lt
      have h1 : s[j].toNat / 16 < 16 := by omega
      have h1i : ((s[j].toNat : Int) / 16) < 16 := by omega
      have h2 : s[j].toNat % 16 < 16 := by omega
      have h2i : ((s[j].toNat : Int) % 16) < 16 := by omega
      have h3 : s[j].toNat &&& 15 = s[j].toNat % 16 := Nat.and_two_pow_sub_one_eq_mod _ 4
      go_wp2_with fail
      refine (write_byte w.heap.size w.heap.size (Lib.byteCells (Vm.hex (s.data.toList.take j))) _ _ HI.out.1 (by have := HL.out; omega) HI.out.2.size).mono ?_
      rintro e w1 ⟨rfl, hB, hb, _⟩
      have HB1 := Lib.hid hB; have HW1 := Lib.hid (HI.out.2.trans hb)
      clear hB hb HI
      go_wp2_with fail
      refine (write_byte w.heap.size w.heap.size _ _ _ (.inr HB1.out) (by simp only [List.length_append, List.length_cons, List.length_nil]; have := HL.out; omega) HW1.out.size).mono ?_
      rintro e w2 ⟨rfl, hB, hb, _⟩
      have HB2 := Lib.hid hB; have HW2 := Lib.hid (HW1.out.trans hb)
      clear hB hb HB1 HW1
      go_wp2
      go_round
      case rel =>
        refine ⟨j + 1, by omega, by go_num, ⟨.inr ?_, HW2.out⟩⟩
        have h := HB2.out
        rw [digs_at _ h1, digs_at _ h2, bc_snoc, ← HT.out] at h
        exact h
      case measure => simp [Lib.intOf]; omega
    · have hjj : j = s.size := by omega
      subst hjj
      have HI2 : Hid (Lib.IsBuilderF 86 5 w.heap.size w.heap.size (Lib.byteCells (Vm.hex s.data.toList)) wr ∧ Below w.heap.size w wr) := by
        have h := HI.out
        rw [List.take_of_length_le (by simp)] at h
        exact h
      clear HI
      go_wp2_with fail
      refine (Tryz.Builder_String_any_k w.heap.size w.heap.size (Vm.hex s.data.toList) _ HI2.out.1 HI2.out.2.size).mono ?_
      rintro e w1 ⟨rfl, _, hb, _⟩
      have HB := Lib.hid (HI2.out.2.trans hb)
      clear hb
      go_wp2
      go_ret
      exact ⟨rfl, HB.out⟩
end Go.Proofs.YtpbmjknhfgdnnaaGreatDoor
/- Package value: Print. -/
namespace Go.Proofs.YtpbmjknhfgdnnaaGreatDoor
open Go.RowKit

set_option maxRecDepth 100000 in
set_option maxHeartbeats 1000000 in
theorem pr_nil (k n sc : Int) (s : ByteArray) (w : World) (he : EnvV w)
    (VV : Hid (∀ W, EnvV W → Calls Tryz.prog 39 #[.agg #[.int .i64 k, .int .i64 n, .int .i64 sc, .string s]] W fun e w' => e = .returned (.agg #[.int .i64 0, .int .i64 0, .int .i64 0, .string ⟨#[]⟩]) ∧ Below W.heap.size W w')) :
    Calls Tryz.prog 22 #[.agg #[.int .i64 k, .int .i64 n, .int .i64 sc, .string s]] w (Str (Vm.print Vm.nil) w) := by
  have HE := Lib.hid he
  have F0 := Lib.hid (Fx.new w k n sc s 24)
  clear he
  go_enter Tryz.func22, Tryz.ntmps22
  go_wp2_with fail
  refine (VV.out _ (HE.out.keep (one_a w _))).mono ?_
  rintro e w1 ⟨rfl, hb⟩
  have F1 := Lib.hid (F0.out.keep hb)
  have HW := Lib.hid (set4 ((one_a w (.cells #[.int .i64 k, .int .i64 n, .int .i64 sc, .string s] 24)).trans (hb.mono (by simp))) (Nat.le_refl _) (.int .i64 0) (.int .i64 0) (.int .i64 0) (.string ⟨#[]⟩))
  have x0 := F1.out.bx.c0; have x1 := F1.out.bx.c1; have x2 := F1.out.bx.c2; have x3 := F1.out.bx.c3; have z0 := F1.out.fz; have lt := F1.out.bx.lt
  clear hb F0 F1 VV
  go_wp2
  go_ret
  exact ⟨rfl, HW.out⟩

set_option maxRecDepth 100000 in
set_option maxHeartbeats 1000000 in
theorem pr_false (k n sc : Int) (s : ByteArray) (w : World) (he : EnvV w)
    (VV : Hid (∀ W, EnvV W → Calls Tryz.prog 39 #[.agg #[.int .i64 k, .int .i64 n, .int .i64 sc, .string s]] W fun e w' => e = .returned (.agg #[.int .i64 1, .int .i64 0, .int .i64 0, .string ⟨#[]⟩]) ∧ Below W.heap.size W w')) :
    Calls Tryz.prog 22 #[.agg #[.int .i64 k, .int .i64 n, .int .i64 sc, .string s]] w (Str (Vm.print ⟨1, 0, 0, ⟨#[]⟩⟩) w) := by
  have HE := Lib.hid he
  have F0 := Lib.hid (Fx.new w k n sc s 24)
  clear he
  go_enter Tryz.func22, Tryz.ntmps22
  go_wp2_with fail
  refine (VV.out _ (HE.out.keep (one_a w _))).mono ?_
  rintro e w1 ⟨rfl, hb⟩
  have F1 := Lib.hid (F0.out.keep hb)
  have HW := Lib.hid (set4 ((one_a w (.cells #[.int .i64 k, .int .i64 n, .int .i64 sc, .string s] 24)).trans (hb.mono (by simp))) (Nat.le_refl _) (.int .i64 1) (.int .i64 0) (.int .i64 0) (.string ⟨#[]⟩))
  have x0 := F1.out.bx.c0; have x1 := F1.out.bx.c1; have x2 := F1.out.bx.c2; have x3 := F1.out.bx.c3; have z0 := F1.out.fz; have lt := F1.out.bx.lt
  clear hb F0 F1 VV
  go_wp2
  go_ret
  exact ⟨rfl, HW.out⟩

set_option maxRecDepth 100000 in
set_option maxHeartbeats 1000000 in
theorem pr_true (k n sc : Int) (s : ByteArray) (w : World) (he : EnvV w)
    (VV : Hid (∀ W, EnvV W → Calls Tryz.prog 39 #[.agg #[.int .i64 k, .int .i64 n, .int .i64 sc, .string s]] W fun e w' => e = .returned (.agg #[.int .i64 1, .int .i64 1, .int .i64 0, .string ⟨#[]⟩]) ∧ Below W.heap.size W w')) :
    Calls Tryz.prog 22 #[.agg #[.int .i64 k, .int .i64 n, .int .i64 sc, .string s]] w (Str (Vm.print ⟨1, 1, 0, ⟨#[]⟩⟩) w) := by
  have HE := Lib.hid he
  have F0 := Lib.hid (Fx.new w k n sc s 24)
  clear he
  go_enter Tryz.func22, Tryz.ntmps22
  go_wp2_with fail
  refine (VV.out _ (HE.out.keep (one_a w _))).mono ?_
  rintro e w1 ⟨rfl, hb⟩
  have F1 := Lib.hid (F0.out.keep hb)
  have HW := Lib.hid (set4 ((one_a w (.cells #[.int .i64 k, .int .i64 n, .int .i64 sc, .string s] 24)).trans (hb.mono (by simp))) (Nat.le_refl _) (.int .i64 1) (.int .i64 1) (.int .i64 0) (.string ⟨#[]⟩))
  have x0 := F1.out.bx.c0; have x1 := F1.out.bx.c1; have x2 := F1.out.bx.c2; have x3 := F1.out.bx.c3; have z0 := F1.out.fz; have lt := F1.out.bx.lt
  clear hb F0 F1 VV
  go_wp2
  go_ret
  exact ⟨rfl, HW.out⟩

set_option maxRecDepth 100000 in
set_option maxHeartbeats 1000000 in
theorem pr_int (k n sc : Int) (s : ByteArray) (m : Int) (w : World) (he : EnvV w)
    (VV : Hid (∀ W, EnvV W → Calls Tryz.prog 39 #[.agg #[.int .i64 k, .int .i64 n, .int .i64 sc, .string s]] W fun e w' => e = .returned (.agg #[.int .i64 2, .int .i64 m, .int .i64 0, .string ⟨#[]⟩]) ∧ Below W.heap.size W w')) (hm : i64 m) :
    Calls Tryz.prog 22 #[.agg #[.int .i64 k, .int .i64 n, .int .i64 sc, .string s]] w (Str (printM m 0) w) := by
  have HE := Lib.hid he
  have F0 := Lib.hid (Fx.new w k n sc s 24)
  clear he
  go_enter Tryz.func22, Tryz.ntmps22
  go_wp2_with fail
  refine (VV.out _ (HE.out.keep (one_a w _))).mono ?_
  rintro e w1 ⟨rfl, hb⟩
  have F1 := Lib.hid (F0.out.keep hb)
  have HW := Lib.hid (set4 ((one_a w (.cells #[.int .i64 k, .int .i64 n, .int .i64 sc, .string s] 24)).trans (hb.mono (by simp))) (Nat.le_refl _) (.int .i64 2) (.int .i64 m) (.int .i64 0) (.string ⟨#[]⟩))
  have x0 := F1.out.bx.c0; have x1 := F1.out.bx.c1; have x2 := F1.out.bx.c2; have x3 := F1.out.bx.c3; have z0 := F1.out.fz; have lt := F1.out.bx.lt
  clear hb F0 F1 VV
  have DP := Lib.hid (fun (W : World) (h : Env W) => dec_print m 0 W h hm)
  clear hm
  go_wp2_with fail
  refine (DP.out _ (HE.out.keep HW.out).env).mono ?_
  rintro e w2 ⟨rfl, hb⟩
  have HB := Lib.hid (HW.out.trans (hb.mono HW.out.size))
  clear hb DP
  go_wp2
  go_ret
  exact ⟨rfl, HB.out⟩

set_option maxRecDepth 100000 in
set_option maxHeartbeats 1000000 in
theorem pr_dec (k n sc : Int) (s : ByteArray) (m t : Int) (PL : List UInt8) (w : World) (he : EnvV w)
    (VV : Hid (∀ W, EnvV W → Calls Tryz.prog 39 #[.agg #[.int .i64 k, .int .i64 n, .int .i64 sc, .string s]] W fun e w' => e = .returned (.agg #[.int .i64 3, .int .i64 m, .int .i64 t, .string ⟨#[]⟩]) ∧ Below W.heap.size W w')) (PD : Hid (∀ W, Env W → Calls Tryz.prog 49 #[.int .i64 m, .int .i64 t] W fun e w' => e = .returned (.string ⟨PL.toArray⟩) ∧ Below W.heap.size W w')) :
    Calls Tryz.prog 22 #[.agg #[.int .i64 k, .int .i64 n, .int .i64 sc, .string s]] w (Str (PL) w) := by
  have HE := Lib.hid he
  have F0 := Lib.hid (Fx.new w k n sc s 24)
  clear he
  go_enter Tryz.func22, Tryz.ntmps22
  go_wp2_with fail
  refine (VV.out _ (HE.out.keep (one_a w _))).mono ?_
  rintro e w1 ⟨rfl, hb⟩
  have F1 := Lib.hid (F0.out.keep hb)
  have HW := Lib.hid (set4 ((one_a w (.cells #[.int .i64 k, .int .i64 n, .int .i64 sc, .string s] 24)).trans (hb.mono (by simp))) (Nat.le_refl _) (.int .i64 3) (.int .i64 m) (.int .i64 t) (.string ⟨#[]⟩))
  have x0 := F1.out.bx.c0; have x1 := F1.out.bx.c1; have x2 := F1.out.bx.c2; have x3 := F1.out.bx.c3; have z0 := F1.out.fz; have lt := F1.out.bx.lt
  clear hb F0 F1 VV
  go_wp2_with fail
  refine (PD.out _ (HE.out.keep HW.out).env).mono ?_
  rintro e w2 ⟨rfl, hb⟩
  have HB := Lib.hid (HW.out.trans (hb.mono HW.out.size))
  clear hb PD
  go_wp2
  go_ret
  exact ⟨rfl, HB.out⟩

set_option maxRecDepth 100000 in
set_option maxHeartbeats 1000000 in
theorem pr_text (k n sc : Int) (s : ByteArray) (q : ByteArray) (w : World) (he : EnvV w)
    (VV : Hid (∀ W, EnvV W → Calls Tryz.prog 39 #[.agg #[.int .i64 k, .int .i64 n, .int .i64 sc, .string s]] W fun e w' => e = .returned (.agg #[.int .i64 4, .int .i64 0, .int .i64 0, .string q]) ∧ Below W.heap.size W w')) (hq : q.size ≤ 200) :
    Calls Tryz.prog 22 #[.agg #[.int .i64 k, .int .i64 n, .int .i64 sc, .string s]] w (Str (39 :: (Vm.esc q.data.toList ++ [39])) w) := by
  have HE := Lib.hid he
  have F0 := Lib.hid (Fx.new w k n sc s 24)
  clear he
  go_enter Tryz.func22, Tryz.ntmps22
  go_wp2_with fail
  refine (VV.out _ (HE.out.keep (one_a w _))).mono ?_
  rintro e w1 ⟨rfl, hb⟩
  have F1 := Lib.hid (F0.out.keep hb)
  have HW := Lib.hid (set4 ((one_a w (.cells #[.int .i64 k, .int .i64 n, .int .i64 sc, .string s] 24)).trans (hb.mono (by simp))) (Nat.le_refl _) (.int .i64 4) (.int .i64 0) (.int .i64 0) (.string q))
  have x0 := F1.out.bx.c0; have x1 := F1.out.bx.c1; have x2 := F1.out.bx.c2; have x3 := F1.out.bx.c3; have z0 := F1.out.fz; have lt := F1.out.bx.lt
  clear hb F0 F1 VV
  obtain ⟨TT, hT⟩ : ∃ TT : ByteArray, TT = bstr (Vm.esc q.data.toList) := ⟨_, rfl⟩
  have hz : TT.size ≤ 400 := by rw [hT, bstr_size]; have := escd_len q.data.toList; simp at this; omega
  have RE : Hid (∀ W, EnvV W → Calls Tryz.prog 51 #[.string q, .string ⟨#[39]⟩, .string ⟨#[39, 39]⟩] W fun e w' => e = .returned (.string TT) ∧ Below W.heap.size W w') := by
    show ∀ W, EnvV W → Calls Tryz.prog 51 #[.string q, .string ⟨#[39]⟩, .string ⟨#[39, 39]⟩] W fun e w' => e = .returned (.string TT) ∧ Below W.heap.size W w'
    intro W h
    rw [hT]
    exact rep_esc q W h (by omega)
  have QU := Lib.hid (fun (W : World) => val_quoted TT W (by omega))
  have HT := Lib.hid hT
  clear hT hq hz
  go_wp2_with fail
  refine (RE.out _ (HE.out.keep HW.out)).mono ?_
  rintro e w2 ⟨rfl, hb⟩
  have HB := Lib.hid (HW.out.trans (hb.mono HW.out.size))
  clear hb RE
  go_wp2_with fail
  refine (QU.out _).mono ?_
  rintro e w3 ⟨rfl, rfl⟩
  go_wp2
  go_ret
  exact ⟨ret_str (by rw [HT.out, show (⟨#[39]⟩ : ByteArray) = bstr [39] from rfl, bstr_append, bstr_append]; rfl), HB.out⟩

set_option maxRecDepth 100000 in
set_option maxHeartbeats 1000000 in
theorem pr_bytes (k n sc : Int) (s : ByteArray) (q : ByteArray) (w : World) (he : EnvV w)
    (VV : Hid (∀ W, EnvV W → Calls Tryz.prog 39 #[.agg #[.int .i64 k, .int .i64 n, .int .i64 sc, .string s]] W fun e w' => e = .returned (.agg #[.int .i64 5, .int .i64 0, .int .i64 0, .string q]) ∧ Below W.heap.size W w')) (hq : q.size ≤ 200) :
    Calls Tryz.prog 22 #[.agg #[.int .i64 k, .int .i64 n, .int .i64 sc, .string s]] w (Str (88 :: 39 :: (Vm.hex q.data.toList ++ [39])) w) := by
  have HE := Lib.hid he
  have F0 := Lib.hid (Fx.new w k n sc s 24)
  clear he
  go_enter Tryz.func22, Tryz.ntmps22
  go_wp2_with fail
  refine (VV.out _ (HE.out.keep (one_a w _))).mono ?_
  rintro e w1 ⟨rfl, hb⟩
  have F1 := Lib.hid (F0.out.keep hb)
  have HW := Lib.hid (set4 ((one_a w (.cells #[.int .i64 k, .int .i64 n, .int .i64 sc, .string s] 24)).trans (hb.mono (by simp))) (Nat.le_refl _) (.int .i64 5) (.int .i64 0) (.int .i64 0) (.string q))
  have x0 := F1.out.bx.c0; have x1 := F1.out.bx.c1; have x2 := F1.out.bx.c2; have x3 := F1.out.bx.c3; have z0 := F1.out.fz; have lt := F1.out.bx.lt
  clear hb F0 F1 VV
  obtain ⟨TT, hT⟩ : ∃ TT : ByteArray, TT = bstr (Vm.hex q.data.toList) := ⟨_, rfl⟩
  have hz : TT.size ≤ 400 := by rw [hT, bstr_size]; have := hexl_len q.data.toList; simp at this; omega
  have RE : Hid (∀ W, Calls Tryz.prog 52 #[.string q] W fun e w' => e = .returned (.string TT) ∧ Below W.heap.size W w') := by
    show ∀ W, Calls Tryz.prog 52 #[.string q] W fun e w' => e = .returned (.string TT) ∧ Below W.heap.size W w'
    intro W
    rw [hT]
    exact val_hex q W (by omega)
  obtain ⟨Q, hQ⟩ : ∃ Q : ByteArray, Q = ⟨#[39]⟩ ++ TT ++ ⟨#[39]⟩ := ⟨_, rfl⟩
  have hqz : Q.size ≤ 402 := by rw [hQ, ByteArray.size_append, ByteArray.size_append]; show 1 + TT.size + 1 ≤ 402; omega
  have hqz2 : (Q.size : Int) ≤ 402 := by omega
  have QU : Hid (∀ W, Calls Tryz.prog 50 #[.string TT] W fun e w' => e = .returned (.string Q) ∧ W = w') := by
    show ∀ W, Calls Tryz.prog 50 #[.string TT] W fun e w' => e = .returned (.string Q) ∧ W = w'
    intro W
    rw [hQ]
    exact val_quoted TT W (by omega)
  have HT := Lib.hid hT; have HQ := Lib.hid hQ
  clear hT hq hz hQ
  go_wp2_with fail
  refine (RE.out _).mono ?_
  rintro e w2 ⟨rfl, hb⟩
  have HB := Lib.hid (HW.out.trans (hb.mono HW.out.size))
  clear hb RE
  go_wp2_with fail
  refine (QU.out _).mono ?_
  rintro e w3 ⟨rfl, rfl⟩
  go_wp2
  go_ret
  exact ⟨ret_str (by rw [HQ.out, HT.out, show (⟨#[39]⟩ : ByteArray) = bstr [39] from rfl, show (⟨#[88]⟩ : ByteArray) = bstr [88] from rfl, bstr_append, bstr_append, bstr_append]; rfl), HB.out⟩

theorem val_print (c : Vm.Cl) (w : World) (he : EnvV w) (hi : i64 c.n) (hz : c.s.size ≤ maxLen) : Calls Tryz.prog 22 #[.agg #[.int .i64 c.k, .int .i64 c.n, .int .i64 c.sc, .string c.s]] w (Str (Vm.print (Vm.plain c)) w) := by
  have VV := fun (W : World) (h : EnvV W) => val_valid c.k c.n c.sc c.s W h hz
  have hr := Vm.plain_right c
  have hn := Vm.plain_i64 hi
  change ∀ W, EnvV W → Calls _ _ _ W (Val (Vm.plain c) W) at VV
  revert VV hr hn
  generalize Vm.plain c = P
  intro hr hn VV
  rcases Vm.right_cases hr with rfl | ⟨n, hn1, rfl⟩ | ⟨n, rfl⟩ | ⟨n, s, hs, rfl⟩ | ⟨s, hs, hv, rfl⟩ | ⟨s, hs, rfl⟩
  · exact pr_nil _ _ _ _ w he VV
  · rcases hn1 with rfl | rfl
    · exact pr_false _ _ _ _ w he VV
    · exact pr_true _ _ _ _ w he VV
  · exact pr_int _ _ _ _ n w he VV hn
  · exact pr_dec _ _ _ _ n s _ w he VV (fun W h => print_dec n s W h hn)
  · exact pr_text _ _ _ _ s w he VV hs
  · exact pr_bytes _ _ _ _ s w he VV hs
end Go.Proofs.YtpbmjknhfgdnnaaGreatDoor
