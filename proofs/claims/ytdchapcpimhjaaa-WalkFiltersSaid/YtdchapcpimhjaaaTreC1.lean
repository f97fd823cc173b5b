/- Package tree: where a key is. -/
import Derived.Test.YtdchapcpimhjaaaTreM
import Derived.BigQuiet
import Derived.Deep.CutBlock
import Derived.Deep.DeepCutAuto
namespace Go.Proofs.Ytdchapcpimhjaaa
open Go.RowKit

theorem str_ne (s : ByteArray) : (s.toList != s.toList) = false := by simp
theorem cmp_nan (s : ByteArray) (w : World) : Calls Try.prog 80 #[.string s] w fun e w' => e = .returned (.bool false) ∧ w = w' := by
  have h := str_ne s
  have h2 : (s.toList == s.toList) = true := by simp
  go_enter Try.func80, Try.ntmps80
  go_wp2
  go_ret
  exact ⟨rfl, rfl⟩
theorem slices_nan (s : ByteArray) (w : World) : Calls Try.prog 76 #[.string s] w fun e w' => e = .returned (.bool false) ∧ w = w' := by
  have h := str_ne s
  have h2 : (s.toList == s.toList) = true := by simp
  go_enter Try.func76, Try.ntmps76
  go_wp2
  go_ret
  exact ⟨rfl, rfl⟩
theorem cmp_less (a b : Tm.K) (w : World) : Calls Try.prog 75 #[.string (bstr a), .string (bstr b)] w fun e w' => e = .returned (.bool (Tm.lt a b)) ∧ w = w' := by
  obtain ⟨r, hr⟩ : ∃ r, r = Tm.lt a b := ⟨_, rfl⟩
  have h : Op.bytesLess (bstr a).toList (bstr b).toList = r := by rw [bstr_toList, bstr_toList, hr]
  rw [← hr]
  clear hr
  generalize bstr a = A at *
  generalize bstr b = B at *
  go_enter Try.func75, Try.ntmps75
  go_wp2_with fail
  refine (cmp_nan A w).mono ?_
  rintro e w1 ⟨rfl, rfl⟩
  go_wp2
  go_ret
  exact ⟨rfl, rfl⟩
set_option maxHeartbeats 1000000 in
set_option maxRecDepth 100000 in
theorem tre_search {ex : Nat → Prop} {a : Option Addr} {n c : Nat} {ks : List Tm.K} {W : World} (k : Tm.K) (h : Rv ex a n c (sk ks) W) (hn : n ≤ 100) (ha : Tm.AscK ks) :
    Calls Try.prog 71 #[.slice a n c, .string (bstr k)] W fun e w' => e = .returned (.tuple #[.int .i64 (Tm.fnd ks k : Int), .bool (Tm.fok ks k)]) ∧ Below W.heap.size W w' := by
  have hl : n = ks.length := by have := h.ln; simpa [sk] using this
  obtain ⟨f, hf⟩ : ∃ f, f = Tm.fnd ks k := ⟨_, rfl⟩
  obtain ⟨o, ho⟩ : ∃ o, o = Tm.fok ks k := ⟨_, rfl⟩
  have hfn : f ≤ n := by rw [hf, hl]; exact Tm.fnd_le ks k
  have HIF : Hid (∀ j, j < n → Tm.lt (ks.getD j []) k = decide (j < f)) := fun j hj => by
    rw [hf]
    have := Tm.fnd_iff ha k (j := j) (by omega)
    rw [Bool.eq_iff_iff, decide_eq_true_eq]; exact this
  have HO : Hid (o = decide (ks[f]? = some k)) := by show _ = _; rw [ho, hf]; rfl
  obtain ⟨S, hS⟩ : ∃ S, S = bstr k := ⟨_, rfl⟩
  have HCE : Hid (∀ j, j < n → ∃ g off, a = some ⟨g, off, none⟩ ∧ n ≤ c ∧ g < W.heap.size ∧ W.cell? ⟨g, off + j, none⟩ = some (.string (bstr (ks.getD j [])))) := fun j hj => by
    obtain ⟨g, off, e, hc, hg, hcell⟩ := h.at (by omega)
    exact ⟨g, off, e, hc, hg, by rw [hcell j hj, sk_get ks (by omega)]⟩
  have HL := Lib.hid hl; have HS := Lib.hid hS
  rw [← hf, ← ho, ← hS]
  clear hf ho hl hS h ha
  go_enter Try.func71, Try.ntmps71
  go_wp2_with fail
  go_loopw [7, 8, 9] (fun iv jv _ wr => ∃ i j : Nat, iv = .int .i64 (i : Int) ∧ jv = .int .i64 (j : Int) ∧ i ≤ f ∧ f ≤ j ∧ j ≤ n ∧ W = wr) (fun iv jv _ _ => (ixOf jv).toNat - (ixOf iv).toNat)
  case atStart => exact ⟨0, n, rfl, rfl, Nat.zero_le _, hfn, Nat.le_refl _, rfl⟩
  case round =>
    obtain ⟨i, j, rfl, rfl, hif, hfj, hjn, rfl⟩ := hrel
    by_cases hij : i < j
    · obtain ⟨m, hm⟩ : ∃ m, m = (i + j) / 2 := ⟨_, rfl⟩
      have hmi : i ≤ m := by omega
      have hmj : m < j := by omega
      obtain ⟨g, off, rfl, hc, hg, hcell⟩ := HCE.out m (by omega)
      have hmn : m < n := by omega
      have hw1 : IntKind.u64.wrap ((i : Int) + (j : Int)) = (i : Int) + (j : Int) := by rw [IntKind.wrap_u64]; omega
      have hsh : ((i : Int) + (j : Int)) >>> 1 = (m : Int) := by rw [Int.shiftRight_eq_div_pow]; omega
      have hdv : ((i : Int) + (j : Int)) / 2 = (m : Int) := by omega
      have HLT := Lib.hid (HIF.out m hmn)
      have HM := Lib.hid hm
      obtain ⟨X, hX⟩ : ∃ X, X = bstr (ks.getD m []) := ⟨_, rfl⟩
      rw [← hX] at hcell
      have HLE : Hid (∀ w, Calls Try.prog 75 #[.string X, .string S] w fun e w' => e = .returned (.bool (decide (m < f))) ∧ w = w') := fun w => by
        have := cmp_less (ks.getD m []) k w
        rw [HLT.out] at this
        rw [hX, HS.out]; exact this
      clear hm hX
      go_wp2_with fail
      refine (HLE.out _).mono ?_
      rintro e w1 ⟨rfl, rfl⟩
      by_cases hmf : m < f
      · have q : decide (m < f) = true := by simpa using hmf
        go_wp2
        go_roundw
        case rel => exact ⟨m + 1, j, by go_num, rfl, by omega, hfj, hjn, trivial⟩
        case measure => simp [ixOf]; omega
      · have q : decide (m < f) = false := by simpa using hmf
        go_wp2
        go_roundw
        case rel => exact ⟨i, m, rfl, rfl, hif, by omega, by omega, trivial⟩
        case measure => simp [ixOf]; omega
    · have hif2 : i = f := by omega
      subst hif2
      have hjj : ¬ (i : Int) < (j : Int) := by omega
      by_cases hin : i < n
      · obtain ⟨g, off, rfl, hc, hg, hcell⟩ := HCE.out i hin
        obtain ⟨X, hX⟩ : ∃ X, X = bstr (ks.getD i []) := ⟨_, rfl⟩
        have heq : (X.toList == S.toList) = o := by
          rw [hX, HS.out, bstr_toList, bstr_toList, HO.out]
          have : ks[i]? = some (ks.getD i []) := by simp [List.getD, List.getElem?_eq_getElem (show i < ks.length by have := HL.out; omega)]
          rw [this]
          rw [Bool.eq_iff_iff]; simp
        rw [← hX] at hcell
        have hiI : (i : Int) < (n : Int) := by omega
        clear hX hij
        cases o with
        | true =>
          go_wp2
          go_ret2
          exact ⟨rfl, Below.refl _ _⟩
        | false =>
          go_wp2_with fail
          refine (slices_nan X W).mono ?_
          rintro e w1 ⟨rfl, rfl⟩
          go_wp2
          go_ret2
          exact ⟨rfl, Below.refl _ _⟩
      · have hiI : ¬ (i : Int) < (n : Int) := by omega
        have hof : o = false := by
          rw [HO.out, List.getElem?_eq_none (by have := HL.out; omega)]; rfl
        subst hof
        clear hij
        go_wp2
        go_ret2
        exact ⟨rfl, Below.refl _ _⟩
theorem tre_hasKids {ex : Nat → Prop} {h p : Nat} {t : Tm.T} {W : World} (ht : Tn ex h p t W) :
    Calls Try.prog 61 #[ptr p] W fun e w' => e = .returned (.bool (decide (0 < t.ks.length))) ∧ W = w' := by
  obtain ⟨ka, kc, va, vn, vc, ba, bn, bc, hn, _, hb, _⟩ := ht.node
  have c2 : W.cell? ⟨p, 2, none⟩ = some (.slice ba bn bc) := by rw [Lib.cell_of_heap hn]; rfl
  have hp := hn.lt
  rw [← hb]
  clear hn hb ht
  unfold ptr
  by_cases h0 : 0 < bn
  · have q : decide ((0 : Int) < (bn : Int)) = true := by simpa using h0
    rw [decide_eq_true h0]
    go_enter Try.func61, Try.ntmps61
    go_wp2
    go_ret
    exact ⟨rfl, rfl⟩
  · have q : decide ((0 : Int) < (bn : Int)) = false := by simpa using h0
    rw [decide_eq_false h0]
    go_enter Try.func61, Try.ntmps61
    go_wp2
    go_ret
    exact ⟨rfl, rfl⟩
theorem tre_find {ex : Nat → Prop} {h p : Nat} {t : Tm.T} {W : World} (k : Tm.K) (ht : Tn ex h p t W) (hc : Tm.cnt t ≤ 100) (ha : Tm.AscK (Tm.keys h t)) :
    Calls Try.prog 63 #[ptr p, .string (bstr k)] W fun e w' => e = .returned (.tuple #[.int .i64 (Tm.fnd (Tm.keys h t) k : Int), .bool (Tm.fok (Tm.keys h t) k)]) ∧ Below W.heap.size W w' := by
  obtain ⟨ka, kc, va, vn, vc, ba, bn, bc, hn, hk, hb, _⟩ := ht.node
  have hkl : (Tm.keys h t).length ≤ 100 := by
    cases t with
    | leaf l => have : l.length ≤ 100 := hc; simpa [Tm.keys] using this
    | inner ks => have : ks.length ≤ 100 := hc; simpa [Tm.keys] using this
  have HS := Lib.hid (tre_search k hk hkl ha)
  have c0 : W.cell? ⟨p, 0, none⟩ = some (.slice ka (Tm.keys h t).length kc) := by rw [Lib.cell_of_heap hn]; rfl
  have hp := hn.lt
  generalize (Tm.keys h t).length = N at *
  generalize Tm.fnd (Tm.keys h t) k = f at *
  generalize Tm.fok (Tm.keys h t) k = o at *
  generalize bstr k = S at *
  clear hn hk ha ht
  unfold ptr
  go_enter Try.func63, Try.ntmps63
  go_wp2_with fail
  refine HS.out.mono ?_
  rintro e w1 ⟨rfl, hb1⟩
  have HB := Lib.hid hb1
  clear hb1
  go_wp2
  go_ret2
  exact ⟨rfl, HB.out⟩
theorem tre_child {ex : Nat → Prop} {h p : Nat} {t : Tm.T} {W : World} (k : Tm.K) (ht : Tn ex h p t W) (hc : Tm.cnt t ≤ 100) (ha : Tm.AscK (Tm.keys h t)) :
    Calls Try.prog 62 #[ptr p, .string (bstr k)] W fun e w' => e = .returned (.int .i64 (Tm.chd (Tm.keys h t) k : Int)) ∧ Below W.heap.size W w' := by
  have HF := Lib.hid (tre_find k ht hc ha)
  obtain ⟨f, hf⟩ : ∃ f, f = Tm.fnd (Tm.keys h t) k := ⟨_, rfl⟩
  obtain ⟨o, ho⟩ : ∃ o, o = Tm.fok (Tm.keys h t) k := ⟨_, rfl⟩
  have hfl : f ≤ 100 := by
    rw [hf]
    refine Nat.le_trans (Tm.fnd_le _ _) ?_
    cases t with
    | leaf l => have : l.length ≤ 100 := hc; simpa [Tm.keys] using this
    | inner ks => have : ks.length ≤ 100 := hc; simpa [Tm.keys] using this
  have HC : Hid (Tm.chd (Tm.keys h t) k = if o = true then f else f - 1) := by show _ = _; unfold Tm.chd; rw [hf, ho]
  obtain ⟨r, hr⟩ : ∃ r, r = Tm.chd (Tm.keys h t) k := ⟨_, rfl⟩
  rw [← hr] at HC ⊢
  rw [← hf, ← ho] at HF
  generalize bstr k = S at *
  clear ht ha hf ho hr
  unfold ptr at *
  go_enter Try.func62, Try.ntmps62
  go_wp2_with fail
  refine HF.out.mono ?_
  rintro e w1 ⟨rfl, hb1⟩
  have HB := Lib.hid hb1
  clear hb1
  cases o with
  | true =>
    go_wp2
    go_ret
    exact ⟨by rw [HC.out]; rfl, HB.out⟩
  | false =>
    rcases Nat.eq_zero_or_pos f with h0 | h0
    · subst h0
      go_wp2
      go_ret
      exact ⟨by rw [HC.out]; rfl, HB.out⟩
    · obtain ⟨f1, hf1⟩ : ∃ f1, f1 = f - 1 := ⟨_, rfl⟩
      have hf1i : (f : Int) - 1 = (f1 : Int) := by omega
      have hm : max (f1 : Int) 0 = (f1 : Int) := by omega
      have HF1 := Lib.hid hf1
      clear hf1
      go_wp2
      go_ret
      exact ⟨by rw [HC.out, if_neg (by decide), ← HF1.out]; simp, HB.out⟩
end Go.Proofs.Ytdchapcpimhjaaa
