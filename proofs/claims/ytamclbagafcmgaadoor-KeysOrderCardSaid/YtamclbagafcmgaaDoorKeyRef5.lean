/- Layer 5: Get in plain words, step by step; what Get leaves. -/
import Derived.Test.YtamclbagafcmgaaDoorKeyVs
import Derived.Test.YtamclbagafcmgaaDoorKeyNext
import Derived.Test.YtamclbagafcmgaaDoorKeyRef4
namespace Go.Proofs.YtamclbagafcmgaaDoor
open Go.RowKit

/-- the answer of Get in plain words, from a place on -/
theorem getF_more : ∀ (f g : Nat) (l : List UInt8), l.length ≤ f → l.length ≤ g → Vm.getF f l = Vm.getF g l
  | _, _, [], _, _ => by rw [Vm.getF, Vm.getF]
  | 0, _, _ :: _, h, _ => by simp at h
  | _ + 1, 0, _ :: _, _, h => by simp at h
  | f + 1, g + 1, c :: r, hf, hg => by
    rw [Vm.getF, Vm.getF]
    cases hn : Vm.next (c :: r) with
    | none => rfl
    | some p =>
      obtain ⟨v, n⟩ := p
      dsimp only
      have hp := Vm.next_pos _ _ _ hn
      have hd : ((c :: r).drop n).length ≤ r.length := by rw [List.length_drop, List.length_cons]; omega
      rw [List.length_cons] at hf hg
      rw [getF_more f g _ (by omega) (by omega)]
theorem get_cons (c : UInt8) (r : List UInt8) : Vm.get (c :: r) = match Vm.next (c :: r) with
    | none => none
    | some (v, n) => (Vm.get ((c :: r).drop n)).map (v :: ·) := by
  unfold Vm.get
  rw [List.length_cons, Vm.getF]
  cases hn : Vm.next (c :: r) with
  | none => rfl
  | some p =>
    obtain ⟨v, n⟩ := p
    dsimp only
    have hp := Vm.next_pos _ _ _ hn
    rw [getF_more r.length ((c :: r).drop n).length _ (by rw [List.length_drop, List.length_cons]; omega) (Nat.le_refl _)]
/-- how far Get has come: o are the values read, l is what is left -/
def Gt (l0 : List UInt8) (o : List Vm.Cl) (l : List UInt8) : Prop := Vm.get l0 = (Vm.get l).map (o ++ ·)
theorem gt_start (l : List UInt8) : Gt l [] l := by
  unfold Gt
  cases Vm.get l with
  | none => rfl
  | some p => rfl
theorem gt_step {l0 : List UInt8} {o : List Vm.Cl} {l : List UInt8} {v : Vm.Cl} {n : Nat} (h : Gt l0 o l) (hn : Vm.next l = some (v, n)) : Gt l0 (o ++ [v]) (l.drop n) := by
  unfold Gt at h ⊢
  cases l with
  | nil => cases hn
  | cons c r =>
    rw [h, get_cons, hn]
    dsimp only
    cases Vm.get ((c :: r).drop n) with
    | none => rfl
    | some p => simp
theorem gt_none {l0 : List UInt8} {o : List Vm.Cl} {c : UInt8} {r : List UInt8} (h : Gt l0 o (c :: r)) (hn : Vm.next (c :: r) = none) : Vm.get l0 = none := by
  unfold Gt at h
  rw [h, get_cons, hn]; rfl
theorem gt_end {l0 : List UInt8} {o : List Vm.Cl} (h : Gt l0 o []) : Vm.get l0 = some o := by
  unfold Gt at h
  rw [h]
  show some (o ++ []) = _
  rw [List.append_nil]

/-- a row that is owned stays, if what lies below the heap's size stays -/
theorem own_below {w w' : World} {B : Nat} {e : TypeId} {size n : Nat} {v : Value} {xs : List Value} (h : w.ownsRow B e size v n xs) (hb : Below w.heap.size w w') : w'.ownsRow B e size v n xs := by
  obtain ⟨h1, h2⟩ := h
  refine ⟨h1, ?_⟩
  rcases h2 with h2 | ⟨g, cap, cur, hv, hB, hg, rest⟩
  · exact .inl h2
  · exact .inr ⟨g, cap, cur, hv, hB, by rw [hb.block g (Array.getElem?_eq_some_iff.1 hg).1]; exact hg, rest⟩
/-- what a function that answers values and whether there are any leaves -/
def GtA (p : Option (List Vm.Cl)) (w : World) (e : Ending) (w' : World) : Prop :=
  ∃ a n cap l, e = .returned (.tuple #[.slice a n cap, .bool p.isSome]) ∧ l = p.getD [] ∧ n = l.length ∧ Vs (.slice a n cap) l w' ∧ Below w.heap.size w w'

end Go.Proofs.YtamclbagafcmgaaDoor
/- The reference of layer 5: Get. -/
namespace Go.Proofs.YtamclbagafcmgaaDoor
open Go.RowKit

theorem lit_srcv2 (w : World) (c : Vm.Cl) (g : Nat) (hg : g = w.heap.size) : Src Tryd.prog 4 22 (.slice (some ⟨g, 0, none⟩) 1 1) 1 (vcs [c]) (w.alloc (.cells #[.int .i64 c.k, .int .i64 c.n, .int .i64 c.sc, .string c.s] 29)) := by
  subst hg; exact lit_srcv w c
set_option maxHeartbeats 1000000 in
set_option maxRecDepth 100000 in
theorem ref5_get (s : ByteArray) (w : World) (hz : s.size ≤ 1000) : Calls Tryd.prog 15 #[.string s] w (GtA (Vm.get s.data.toList) w) := by
  obtain ⟨i0, hi0, hz0, hz1, hz2⟩ := info_parts info4v
  have HI0 := Lib.hid hi0; have HZ0 := Lib.hid hz0; have HZ1 := Lib.hid hz1; have HZ2 := Lib.hid hz2
  clear hi0 hz0 hz1 hz2
  obtain ⟨PL, hPL⟩ : ∃ PL, PL = Vm.get s.data.toList := ⟨_, rfl⟩
  rw [← hPL]
  have HPL := Lib.hid hPL
  clear hPL
  go_enter Tryd.func15, Tryd.ntmps15
  go_wp2
  go_loopw [0, 4] (fun bv ov wr => ∃ (l : List UInt8) (o : List Vm.Cl) (nn : Nat) (aa : Option Addr) (cc : Nat), bv = .string (bstr l) ∧ l.length + nn ≤ 1000 ∧ ov = .slice aa nn cc ∧ Hid (o.length = nn) ∧ Hid (Gt s.data.toList o l) ∧ Hid (wr.ownsRow w.heap.size 29 4 (.slice aa nn cc) nn (vcs o)) ∧ Hid (Below w.heap.size w wr)) (fun bv _ _ => (match bv with | .string b => b.size | _ => 0))
  case atStart => exact ⟨s.data.toList, [], 0, none, 0, rfl, by simpa using hz, rfl, rfl, gt_start _, World.ownsRow_nil _ _ _ _, Below.refl _ _⟩
  case round =>
    obtain ⟨l, o, nn, aa, cc, rfl, hl, rfl, HOL, HG, HO, HB⟩ := hrel
    cases l with
    | nil =>
      have hq : (bstr []).toList.isEmpty = true := by rw [Lib.toList_data]; rfl
      have HP : Hid (PL = some o) := by show _ = _; rw [HPL.out]; exact gt_end HG.out
      clear HG HPL
      go_wp2
      go_ret2
      exact ⟨aa, nn, cc, o, by rw [HP.out]; rfl, by rw [HP.out]; rfl, HOL.out.symm, Vs.of_own HO.out, HB.out⟩
    | cons c r =>
      have hq : (bstr (c :: r)).toList.isEmpty = false := by rw [Lib.toList_data]; rfl
      have hbs : (bstr (c :: r)).size = (c :: r).length := bstr_size _
      have hbz : (bstr (c :: r)).size ≤ 1000 := by rw [hbs]; omega
      have HN := Lib.hid (ref5_next (bstr (c :: r)) · hbz)
      rw [show (bstr (c :: r)).data.toList = c :: r from rfl] at HN
      cases hn : Vm.next (c :: r) with
      | none =>
        rw [Vm.nxt_none hn] at HN
        have HP : Hid (PL = none) := by show _ = _; rw [HPL.out]; exact gt_none HG.out hn
        clear HG HPL hn hbs hbz
        generalize bstr (c :: r) = b at *
        go_wp2_with fail
        refine (HN.out _).mono ?_
        rintro e w1 ⟨rfl, hb⟩
        have HB2 := Lib.hid (HB.out.trans ((hb.alloc hb.size (.cells #[.int .i64 0, .int .i64 0, .int .i64 0, .string ⟨#[]⟩] 29)).mono HB.out.size))
        clear hb HB HN
        dsimp only [Vm.nil]
        go_wp2
        go_ret2
        exact ⟨none, 0, 0, [], by rw [HP.out]; rfl, by rw [HP.out]; rfl, rfl, .inl ⟨_, _, rfl, rfl⟩, HB2.out⟩
      | some p =>
        obtain ⟨v, n⟩ := p
        rw [Vm.nxt_some hn] at HN
        have hs := Vm.next_some _ _ _ hn
        have hnp := Vm.next_pos _ _ _ hn
        have hnl := hs.2.2.2.2
        have HG2 : Hid (Gt s.data.toList (o ++ [v]) ((c :: r).drop n)) := gt_step HG.out hn
        have hex : (bstr (c :: r)).extract n (bstr (c :: r)).size = bstr ((c :: r).drop n) := by
          rw [hbs]
          have h := bstr_extract (c :: r) n (c :: r).length
          rw [h, List.take_of_length_le (by rw [List.length_drop]; omega)]
        have hll : ((c :: r).drop n).length = (c :: r).length - n := List.length_drop
        have hn1 : (n : Int) ≤ ((bstr (c :: r)).size : Int) := by rw [hbs]; omega
        have hn0 : ((n : Int) == 0) = false := by rw [beq_eq_false_iff_ne]; omega
        have hn3 : ((c :: r).drop n).length + (nn + 1) ≤ 1000 := by rw [hll]; omega
        have hn4 : (bstr ((c :: r).drop n)).size < (bstr (c :: r)).size := by rw [bstr_size, hbs, hll]; omega
        have hnn : nn + 1 ≤ 1001 := by omega
        have hni : n ≤ (bstr (c :: r)).size := by rw [hbs]; omega
        clear HG hn hs hnl hbs hll hl
        generalize (c :: r).drop n = l2 at *
        generalize bstr (c :: r) = b at *
        obtain ⟨vk, vn, vc, vz⟩ := v
        have hsz := HB.out.size
        go_wp2_with fail
        refine (HN.out _).mono ?_
        rintro e w1 ⟨rfl, hb⟩
        have hB2 := hb.alloc hb.size (.cells #[.int .i64 vk, .int .i64 vn, .int .i64 vc, .string vz] 29)
        have HB2 := Lib.hid (HB.out.trans (hB2.mono HB.out.size))
        have HO2 := Lib.hid (own_below HO.out hB2)
        have hsz2 := HB2.out.size
        clear hb HB HN hB2 HO hsz
        dsimp only
        go_wp2_with (at_builtin; refine wpList_append_src _ rfl (.tmp 16) (.tmp 18) 22 22 rfl w.heap.size 29 i0 _ 4 40 Tryd.underlying22 HI0.out HZ0.out HZ1.out HZ2.out rfl (.slice aa nn cc) nn (vcs o) rfl (HO2.out.alloc _) _ 1 (vcs [⟨vk, vn, vc, vz⟩]) rfl ?qs ?qa ?qb ?qc ?_)
        case qs => exact lit_srcv2 _ ⟨vk, vn, vc, vz⟩ _ (by simp)
        case qa => unfold maxLen; omega
        case qb => omega
        case qc => simp; simp at hsz2; omega
        intro v2 w2 hown hgrow hat
        have hbel := (HB2.out.alloc hsz2 _).grown hgrow (by simp; simp at hsz2; omega) (fun i hi => (HO2.out.lt i hi).1)
        rw [← vcs_append] at hown
        obtain ⟨a2, c2, hv2⟩ : ∃ a2 c2, v2 = .slice a2 (nn + 1) c2 := by
          obtain ⟨a2, c2, e⟩ := (Vs.of_own hown).form
          rw [List.length_append, HOL.out] at e; exact ⟨a2, c2, e⟩
        rw [hv2] at hown ⊢
        have HO3 := Lib.hid hown
        have HB3 := Lib.hid hbel
        clear hown hgrow hat hbel hv2 HO2 HB2 hsz2
        go_wp2
        go_roundw
        case rel => exact ⟨l2, _, nn + 1, a2, c2, rfl, hn3, rfl, by show (o ++ [_]).length = nn + 1; rw [List.length_append, HOL.out]; rfl, HG2, HO3, HB3⟩
        case measure => simp; omega
end Go.Proofs.YtamclbagafcmgaaDoor
