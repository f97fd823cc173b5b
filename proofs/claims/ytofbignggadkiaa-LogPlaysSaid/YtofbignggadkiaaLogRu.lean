/- The reference of layer 7: Bytes, Num, Pad. -/
import Derived.Test.YtofbignggadkiaaLogMath
import Derived.Test.YtofbignggadkiaaSecFrame
import Derived.Test.YtofbignggadkiaaSecRef6
import Derived.OwnWalk
import Derived.Laws.OwnMore
import Derived.BigQuiet
namespace Go.Proofs.Ytofbignggadkiaa
open Go.RowKit

theorem below_drew7 (w : World) : Below w.heap.size w w.drew := ⟨rfl, rfl, rfl, Nat.le_refl _, fun _ _ => rfl⟩
theorem one_b (w : World) (x : Obj) : Below w.heap.size w (w.alloc x) := (Below.refl _ _).alloc (Nat.le_refl _) _
theorem bstr_st7 (l : List UInt8) : bstr l = st l := rfl
theorem info1u : (Try.prog.info? 5).map (fun i => (i.zero, i.size, i.bytes)) = some (some (.int .u8 0), 1, 1) := by kernel_rfl
theorem own_lit1 (w : World) (x : UInt8) (B : Nat) (hB : B ≤ w.heap.size) : (w.alloc (.cells #[.int .u8 (x.toNat : Int)] 5)).ownsRow B 5 1 (.slice (some ⟨w.heap.size, 0, none⟩) 1 1) 1 (yc [x]) :=
  ⟨rfl, .inr ⟨w.heap.size, 1, #[.int .u8 (x.toNat : Int)], rfl, hB, heap_alloc_new w _, Nat.le_refl _, by unfold maxLen; decide, rfl, rfl⟩⟩
theorem own_form8 {w : World} {B n : Nat} {E : TypeId} {v : Value} {l : List UInt8} (h : w.ownsRow B E 1 v n (yc l)) : ∃ a c, v = .slice a n c := by
  rcases h.2 with ⟨rfl, rfl⟩ | ⟨g, cap, cur, rfl, _⟩
  · exact ⟨_, _, rfl⟩
  · exact ⟨_, _, rfl⟩

set_option maxHeartbeats 2000000 in
theorem ref7_bytes (m k : Nat) (w : World) (hk : k ≤ 8) (hm : (m : Int) ≤ 9223372036854775807) : Calls Try.prog 56 #[.int .i64 (m : Int), .int .i64 (k : Int)] w fun e w' => e = .returned (.string (st (Lm.be k m))) ∧ Below w.heap.size w w' := by
  obtain ⟨i0, hi0, hz0, hz1, hz2⟩ := info_of info1u
  have HI0 := Lib.hid hi0; have HZ0 := Lib.hid hz0; have HZ1 := Lib.hid hz1; have HZ2 := Lib.hid hz2
  have HM : Hid ((m : Int) ≤ 9223372036854775807) := hm
  clear hi0 hz0 hz1 hz2 hm
  go_enter Try.func56, Try.ntmps56
  go_wp2_with fail
  go_loopw [0, 5, 6] (fun nv bv iv wr => ∃ (i q : Nat) (l : List UInt8) (a : Option Addr) (n c : Nat), i ≤ k ∧ nv = .int .i64 (q : Int) ∧ iv = .int .i64 (i : Int) ∧ bv = .slice a n c ∧ n ≤ 8 ∧ Hid (Yt (.slice a n c) l wr) ∧ Hid (l = Lm.be i m) ∧ Hid (q = m / 256 ^ i) ∧ Hid (Below w.heap.size w wr)) (fun _ _ iv _ => k - (ixOf iv).toNat)
  case atStart => exact ⟨0, m, [], none, 0, 0, Nat.zero_le _, rfl, rfl, rfl, by omega, .inl ⟨_, _, rfl, rfl⟩, rfl, by show m = _; simp, Below.refl _ _⟩
  case round =>
    obtain ⟨i, q, l, a, n, c, hi, rfl, rfl, rfl, hn8, HY, HL, HQ, HB⟩ := hrel
    have hwr := HB.out.size
    by_cases hlt : i < k
    · obtain ⟨r, hr⟩ : ∃ r, r = q % 256 := ⟨_, rfl⟩
      obtain ⟨x, hx⟩ : ∃ x : UInt8, x = UInt8.ofNat r := ⟨_, rfl⟩
      have hxr : (x.toNat : Int) = (r : Int) := by rw [hx, UInt8.toNat_ofNat']; omega
      have hw1 : (q : Int).tmod 256 = (r : Int) := by rw [Int.tmod_eq_emod_of_nonneg (by omega)]; omega
      have hw2 : IntKind.u8.wrap (r : Int) = (x.toNat : Int) := by rw [IntKind.wrap_u8, hxr]; omega
      obtain ⟨q2, hq2⟩ : ∃ q2, q2 = q / 256 := ⟨_, rfl⟩
      have hw3 : (q : Int).tdiv 256 = (q2 : Int) := by rw [Int.tdiv_eq_ediv_of_nonneg (by omega)]; omega
      have hqm : (q : Int) ≤ 9223372036854775807 := by
        have h1 : q ≤ m := by rw [HQ.out]; exact Nat.div_le_self _ _
        have := HM.out; omega
      have hw4 : wrap64 (q2 : Int) = (q2 : Int) := by unfold wrap64; omega
      have hw5 : wrap64 (r : Int) = (r : Int) := by unfold wrap64; omega
      have HQ2 : Hid (q2 = m / 256 ^ (i + 1)) := by show _ = _; rw [hq2, HQ.out, Nat.div_div_eq_div_mul, Nat.pow_succ]
      have hll : n = l.length := by obtain ⟨_, _, e⟩ := HY.out.form; injection e
      have HL2 : Hid ([x] ++ l = Lm.be (i + 1) m) := by
        show _ = _
        rw [Lm.be, HL.out, hx, hr, HQ.out]
        have : UInt8.ofNat (m / 256 ^ i % 256) = UInt8.ofNat (m / 256 ^ i) := by
          apply UInt8.toNat_inj.1
          rw [UInt8.toNat_ofNat', UInt8.toNat_ofNat', Nat.mod_mod]
        rw [this]; rfl
      have hn7 : n + 1 ≤ 8 := by
        have : n = i := by rw [hll, HL.out, Lm.be_length]
        omega
      have HBA := Lib.hid (HB.out.trans ((one_b wr (.cells #[.int .u8 (x.toNat : Int)] 5)).mono hwr))
      have HSR : Hid (Src Try.prog 1 39 (.slice a n c) n (yc l) (wr.alloc (.cells #[.int .u8 (x.toNat : Int)] 5))) := by
        have h1 := Yt.src (HY.out.keep (one_b wr (.cells #[.int .u8 (x.toNat : Int)] 5)))
        rw [← hll] at h1; exact h1
      have HOW := Lib.hid (own_lit1 wr x w.heap.size hwr)
      have HN7 : Hid (1 + n ≤ 8) := by show _ ≤ _; omega
      clear hr hx hxr hq2 HQ HL hll hn7
      go_wp2_with (at_builtin; refine wpList_append_src _ rfl (.tmp 15) (.tmp 16) 39 39 rfl w.heap.size 5 i0 _ 1 1 Try.underlying39 HI0.out HZ0.out HZ1.out HZ2.out rfl (.slice (some ⟨wr.heap.size, 0, none⟩) 1 1) 1 (yc [x]) rfl HOW.out _ n (yc l) rfl ?qs ?qa ?qb ?qc ?_)
      case qs => exact HSR.out
      case qa => unfold maxLen; omega
      case qb => omega
      case qc => simp; omega
      intro v2 w2 hown hgrow hat
      have hyc : yc [x] ++ yc l = yc ([x] ++ l) := by simp [yc]
      rw [hyc] at hown
      obtain ⟨a2, c2, rfl⟩ := own_form8 hown
      have HY2 := Lib.hid (Yt.of_own hown)
      have HB2 := Lib.hid (HBA.out.grown hgrow (by have := HBA.out.size; exact this) (fun k2 e => by simp [Value.ownBlock] at e; omega))
      clear hown hgrow hat hyc HOW HSR HBA HB HY
      go_wp2
      go_roundw
      case rel => exact ⟨i + 1, q2, [x] ++ l, a2, 1 + n, c2, by omega, by go_num, by go_num, rfl, HN7.out, HY2.out, HL2.out, HQ2.out, HB2.out⟩
      case measure => simp [ixOf]; omega
    · have hik : i = k := by omega
      have HF : Hid (l = Lm.be k m) := by show _ = _; rw [HL.out, hik]
      have kx := Yt.str HY.out
      rw [bstr_st7] at kx
      rw [HF.out] at kx
      obtain ⟨S, hS⟩ : ∃ S, S = st (Lm.be k m) := ⟨_, rfl⟩
      rw [← hS] at kx
      have HS := Lib.hid hS
      clear HL HQ hik HF hS
      go_wp2
      go_ret
      exact ⟨by rw [HS.out]; rfl, HB.out⟩
theorem w64 (x : Int) (h0 : -9223372036854775808 ≤ x) (h1 : x ≤ 9223372036854775807) : wrap64 x = x := by unfold wrap64; omega
theorem st_get (l : List UInt8) (i : Nat) (h : i < (st l).size) : (st l)[i] = l.getD i 0 := by
  have h2 : i < l.length := by rw [st_size] at h; exact h
  show l.toArray[i] = _
  simp [List.getD, h2]
set_option maxHeartbeats 2000000 in
theorem ref7_num (l : List UInt8) (w : World) (hl : l.length ≤ 1000) : Calls Try.prog 35 #[.string (st l)] w fun e w' => e = .returned (.int .i64 (Lm.num l)) ∧ w = w' := by
  obtain ⟨S, hS⟩ : ∃ S, S = st l := ⟨_, rfl⟩
  have hsz : S.size = l.length := by rw [hS, st_size]
  have HG : Hid (∀ i (h : i < S.size), (S[i].toNat : Int) = ((l.getD i 0).toNat : Int)) := fun i h => by
    subst hS; rw [st_get]
  obtain ⟨n, hn⟩ : ∃ n, n = S.size := ⟨_, rfl⟩
  have hnl : n = l.length := by omega
  have hn1 : n ≤ 1000 := by omega
  rw [← hS]
  clear hS
  have HSZ := Lib.hid hsz; have HNL := Lib.hid hnl
  clear hsz hnl
  go_enter Try.func35, Try.ntmps35
  go_wp2_with fail
  go_loopw [3, 4] (fun qv iv wr => ∃ i q : Nat, i ≤ n ∧ qv = .int .i64 (q : Int) ∧ iv = .int .i64 (i : Int) ∧ Hid (Lm.numGo q (l.drop i) = Lm.num l) ∧ (q : Int) ≤ 4611686018427387904 ∧ w = wr) (fun _ iv _ => n - (ixOf iv).toNat)
  case atStart => exact ⟨0, 0, Nat.zero_le _, rfl, rfl, rfl, by omega, rfl⟩
  case round =>
    obtain ⟨i, q, hi, rfl, rfl, HN, hq, rfl⟩ := hrel
    by_cases hlt : i < n
    · have hil : i < l.length := by have := HNL.out; omega
      have hiS : i < S.size := by omega
      have hdr : l.drop i = l.getD i 0 :: l.drop (i + 1) := by
        rw [List.drop_eq_getElem_cons hil]; simp [List.getD, hil]
      have hst : Lm.num l = if 18014398509481984 ≤ q then -1 else Lm.numGo (256 * q + (l.getD i 0).toNat) (l.drop (i + 1)) := by
        rw [← HN.out, hdr, Lm.numGo]
      obtain ⟨b, hb⟩ : ∃ b : Nat, b = (l.getD i 0).toNat := ⟨_, rfl⟩
      have hb8 : b < 256 := by rw [hb]; exact UInt8.toNat_lt _
      rw [← hb] at hst
      have hix : (S[i].toNat : Int) = (b : Int) := by rw [HG.out i hiS, hb]
      by_cases hbig : 18014398509481984 ≤ q
      · have q1 : decide ((18014398509481984 : Int) ≤ (q : Int)) = true := by simp; omega
        rw [if_pos hbig] at hst
        have HST := Lib.hid hst
        clear hst hdr hb hix hbig HN
        go_wp2
        go_ret
        exact ⟨by rw [HST.out]; rfl, rfl⟩
      · have q1 : decide ((18014398509481984 : Int) ≤ (q : Int)) = false := by simp; omega
        rw [if_neg hbig] at hst
        have HST : Hid (Lm.numGo (256 * q + b) (l.drop (i + 1)) = Lm.num l) := hst.symm
        have hqs : (q : Int) < 18014398509481984 := by omega
        clear hst hdr hb hbig HN hq
        have hw1 : wrap64 (256 * (q : Int)) = 256 * (q : Int) := w64 _ (by omega) (by omega)
        have hw2 : wrap64 (256 * (q : Int) + (b : Int)) = 256 * (q : Int) + (b : Int) := w64 _ (by omega) (by omega)
        have hw3 : wrap64 (b : Int) = (b : Int) := w64 _ (by omega) (by omega)
        go_wp2
        go_roundw
        case rel => exact ⟨i + 1, 256 * q + b, by omega, by go_num, by go_num, HST, by omega, trivial⟩
        case measure => simp [ixOf]; omega
    · have hd : l.drop i = [] := List.drop_eq_nil_of_le (by have := HNL.out; omega)
      have HF : Hid (Lm.num l = (q : Int)) := by show _ = _; rw [← HN.out, hd, Lm.numGo]
      clear hd HN
      go_wp2
      go_ret
      exact ⟨by rw [HF.out]; rfl, rfl⟩
set_option maxHeartbeats 1000000 in
theorem ref7_pad (l : List UInt8) (n : Nat) (w : World) (_hz : l.length ≤ 100000) (hn : n ≤ 1000) : Calls Try.prog 57 #[.string (st l), .int .i64 (n : Int)] w fun e w' => e = .returned (.string (st (Lm.pad l n))) ∧ w = w' := by
  go_enter Try.func57, Try.ntmps57
  go_wp2
  go_loop [0] (fun bv => ∃ (j : Nat) (T : ByteArray), bv = .string T ∧ Hid (T = st (l ++ List.replicate j 0)) ∧ T.size = l.length + j ∧ (j = 0 ∨ l.length + j ≤ n)) (fun bv => (match bv with | .string b => 200000 - b.size | _ => 0))
  case atStart => exact ⟨0, _, rfl, by show _ = _; rw [List.replicate_zero, List.append_nil], by rw [st_size]; rfl, .inl rfl⟩
  case round =>
    obtain ⟨j, T, rfl, HT, hs, hj⟩ := hrel
    by_cases hlt : T.size < n
    · have hi : (T.size : Int) < (n : Int) := by omega
      have HN : Hid (T ++ ⟨#[0]⟩ = st (l ++ List.replicate (j + 1) 0)) := by
        show _ = _
        rw [HT.out, show (⟨#[0]⟩ : ByteArray) = st [0] from rfl, st_append, List.append_assoc, ← List.replicate_succ']
      have hs2 : (T ++ ⟨#[0]⟩ : ByteArray).size = T.size + 1 := ByteArray.size_append
      clear HT
      go_wp2
      go_round
      case rel => exact ⟨j + 1, _, rfl, HN, by rw [hs2]; omega, .inr (by omega)⟩
      case measure => show 200000 - (T ++ ⟨#[0]⟩ : ByteArray).size < 200000 - T.size; rw [hs2]; omega
    · have hi : (n : Int) ≤ (T.size : Int) := by omega
      have HF : Hid (T = st (Lm.pad l n)) := by
        show _ = _
        rw [HT.out, Lm.pad]
        congr 2
        rcases hj with hj | hj
        · rw [show n - l.length = j by omega]
        · rw [show n - l.length = j by omega]
      clear HT
      go_wp2
      go_ret
      exact ⟨by rw [HF.out]; rfl, rfl⟩
end Go.Proofs.Ytofbignggadkiaa
/- The reference of layer 7: Frame. -/
namespace Go.Proofs.Ytofbignggadkiaa
open Go.RowKit

theorem lit_st (w : World) (x : UInt8) (y : Int) (hy : (x.toNat : Int) = y) (a : Nat) (ha : a = w.heap.size) : (convert 39 9 (.slice (some ⟨a, 0, none⟩) 1 1)).run Try.prog (w.alloc (.cells #[.int .u8 y] 5)) = .ok (.string (st [x])) (w.alloc (.cells #[.int .u8 y] 5)) := by
  subst ha; subst hy
  exact Yt.str (Yt.of_own (own_lit1 w x 0 (Nat.zero_le _)))
set_option maxHeartbeats 2000000 in
theorem ref7_frame (ep k : Nat) (last : Bool) (b : List UInt8) (w : World) (he : (ep : Int) ≤ 4294967295) (hk : (k : Int) ≤ 4294967295) (hb46 : b.length ≤ 46) : Calls Try.prog 40 #[.int .i64 (ep : Int), .int .i64 (k : Int), .bool last, .string (st b)] w fun e w' => e = .returned (.string (st (Lm.fsec ep k last b))) ∧ Below w.heap.size w w' := by
  obtain ⟨A1, hA1⟩ : ∃ A1, A1 = st (Lm.be 4 ep) := ⟨_, rfl⟩
  obtain ⟨A2, hA2⟩ : ∃ A2, A2 = st (Lm.be 4 k) := ⟨_, rfl⟩
  obtain ⟨M, hM⟩ : ∃ M, M = st (Lm.be 4 ep ++ Lm.be 4 k) := ⟨_, rfl⟩
  obtain ⟨m, hm⟩ : ∃ m : Nat, m = b.length := ⟨_, rfl⟩
  obtain ⟨x, hx⟩ : ∃ x : UInt8, x = UInt8.ofNat m := ⟨_, rfl⟩
  obtain ⟨M1, hM1⟩ : ∃ M1, M1 = st (Lm.be 4 ep ++ Lm.be 4 k ++ [if last then 1 else 0]) := ⟨_, rfl⟩
  obtain ⟨M2, hM2⟩ : ∃ M2, M2 = st (Lm.be 4 ep ++ Lm.be 4 k ++ [if last then 1 else 0] ++ [x]) := ⟨_, rfl⟩
  obtain ⟨B, hB⟩ : ∃ B, B = st b := ⟨_, rfl⟩
  obtain ⟨M3, hM3⟩ : ∃ M3, M3 = st (Lm.be 4 ep ++ Lm.be 4 k ++ [if last then 1 else 0] ++ [x] ++ b) := ⟨_, rfl⟩
  obtain ⟨P, hP⟩ : ∃ P, P = st (Lm.pad (Lm.be 4 ep ++ Lm.be 4 k ++ [if last then 1 else 0] ++ [x] ++ b) 56) := ⟨_, rfl⟩
  obtain ⟨X, hX⟩ : ∃ X, X = st [x] := ⟨_, rfl⟩
  have H1 : Hid (∀ W, Calls Try.prog 56 #[.int .i64 (ep : Int), .int .i64 4] W fun e w' => e = .returned (.string A1) ∧ Below W.heap.size W w') := fun W => by rw [hA1]; exact ref7_bytes ep 4 W (by omega) (by omega)
  have H2 : Hid (∀ W, Calls Try.prog 56 #[.int .i64 (k : Int), .int .i64 4] W fun e w' => e = .returned (.string A2) ∧ Below W.heap.size W w') := fun W => by rw [hA2]; exact ref7_bytes k 4 W (by omega) (by omega)
  have H3 : Hid (∀ W, Calls Try.prog 57 #[.string M3, .int .i64 56] W fun e w' => e = .returned (.string P) ∧ W = w') := fun W => by rw [hM3, hP]; exact ref7_pad _ 56 W (by simp [Lm.be_length]; omega) (by omega)
  have a1 : A1 ++ A2 = M := by rw [hA1, hA2, hM, st_append]
  have a2 : M1 ++ X = M2 := by rw [hM1, hX, hM2, st_append]
  have a3 : M2 ++ B = M3 := by rw [hM2, hB, hM3, st_append]
  have HR : Hid (P ++ M = st (Lm.fsec ep k last b)) := by show _ = _; rw [hP, hM, st_append, Lm.fsec, hx, hm]
  have s1 : A1.size = 4 := by rw [hA1, st_size, Lm.be_length]
  have s2 : A2.size = 4 := by rw [hA2, st_size, Lm.be_length]
  have s3 : M.size = 8 := by rw [hM, st_size]; simp [Lm.be_length]
  have s4 : M1.size = 9 := by rw [hM1, st_size]; simp [Lm.be_length]
  have s5 : M2.size = 10 := by rw [hM2, st_size]; simp [Lm.be_length]
  have s6 : B.size = m := by rw [hB, st_size, hm]
  have s7 : P.size = 56 := by rw [hP, st_size, Lm.pad_length _ _ (by simp [Lm.be_length]; omega)]
  have s8 : X.size = 1 := by rw [hX, st_size]; rfl
  have hm46 : m ≤ 46 := by omega
  have hxm : (x.toNat : Int) = (m : Int) := by rw [hx, UInt8.toNat_ofNat']; omega
  have hw8 : IntKind.u8.wrap (m : Int) = (m : Int) := by rw [IntKind.wrap_u8]; omega
  have HL : Hid (∀ W : World, (convert 39 9 (.slice (some ⟨W.heap.size, 0, none⟩) 1 1)).run Try.prog (W.alloc (.cells #[.int .u8 (m : Int)] 5)) = .ok (.string X) (W.alloc (.cells #[.int .u8 (m : Int)] 5))) := fun W => by rw [hX]; exact lit_st W x m hxm _ rfl
  have a0 : M ++ ⟨#[if last then 1 else 0]⟩ = M1 := by
    rw [hM, hM1, show (⟨#[if last then 1 else 0]⟩ : ByteArray) = st [if last then 1 else 0] from rfl, st_append]
  rw [← hB]
  clear hA1 hA2 hM hM1 hM2 hM3 hP hB hX hx hm hxm he hk hb46
  cases last with
  | true =>
    replace a0 : M ++ ⟨#[1]⟩ = M1 := a0
    go_enter Try.func40, Try.ntmps40
    go_wp2_with fail
    refine (H1.out _).mono ?_
    rintro e w1 ⟨rfl, hb1⟩
    have HB1 := Lib.hid hb1
    clear hb1
    go_wp2_with fail
    refine (H2.out _).mono ?_
    rintro e w2 ⟨rfl, hb2⟩
    have HB2 := Lib.hid (HB1.out.trans (hb2.mono HB1.out.size))
    have hcv := HL.out w2
    clear hb2 HB1
    go_wp2_with fail
    refine (H3.out _).mono ?_
    rintro e w3 ⟨rfl, rfl⟩
    have HB3 := Lib.hid (HB2.out.trans ((one_b w2 (.cells #[.int .u8 (m : Int)] 5)).mono HB2.out.size))
    go_wp2
    go_ret
    exact ⟨by rw [← HR.out]; rfl, HB3.out⟩
  | false =>
    replace a0 : M ++ ⟨#[0]⟩ = M1 := a0
    go_enter Try.func40, Try.ntmps40
    go_wp2_with fail
    refine (H1.out _).mono ?_
    rintro e w1 ⟨rfl, hb1⟩
    have HB1 := Lib.hid hb1
    clear hb1
    go_wp2_with fail
    refine (H2.out _).mono ?_
    rintro e w2 ⟨rfl, hb2⟩
    have HB2 := Lib.hid (HB1.out.trans (hb2.mono HB1.out.size))
    have hcv := HL.out w2
    clear hb2 HB1
    go_wp2_with fail
    refine (H3.out _).mono ?_
    rintro e w3 ⟨rfl, rfl⟩
    have HB3 := Lib.hid (HB2.out.trans ((one_b w2 (.cells #[.int .u8 (m : Int)] 5)).mono HB2.out.size))
    go_wp2
    go_ret
    exact ⟨by rw [← HR.out]; rfl, HB3.out⟩
end Go.Proofs.Ytofbignggadkiaa
