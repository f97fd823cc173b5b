/- Package decimal: Parse, the head of the walk. -/
import Derived.Test.YtmipomglbccjbaaDoorDecP1
namespace Go.Proofs.YtmipomglbccjbaaDoor
open Go.RowKit
/-- a text taken apart as Parse takes it apart -/
structure Apart (s : ByteArray) (neg : Bool) (wh fr : List UInt8) (pt : Bool) (u r : List UInt8) : Prop where
  small : s.size ≤ 1000
  cp : (⟨(Lib.trimPrefix s.data.toList (⟨#[45]⟩ : ByteArray).data.toList).toArray⟩ : ByteArray) = bstr u
  has : Lib.hasPrefix s.data.toList (⟨#[45]⟩ : ByteArray).data.toList = neg
  cut : Lib.cut u [46] = (wh, fr, pt)
  len : wh.length ≤ 1000 ∧ fr.length ≤ 1000 ∧ u.length ≤ 1000
  rep : Lib.replace s.data.toList [46] [] 1 = r
  req : r = (if neg then 45 :: (wh ++ fr) else wh ++ fr)
  mod : Pm.parseM s.data.toList = match (if pt then (if Pm.allD wh = true ∧ wh ≠ [] ∧ Pm.allD fr = true then some (wh, some fr) else none) else (if Pm.allD wh = true then some (wh, none) else none)) with | none => (0, 0, false) | some (D, o) => Pm.fin neg D o
  fr0 : pt = false → fr = []
theorem has_head (l : List UInt8) : Lib.hasPrefix l [45] = decide (l.head? = some 45) := by
  cases l with
  | nil => rfl
  | cons c r => simp [Lib.hasPrefix, List.isPrefixOf]; rw [Bool.eq_iff_iff]; simp; exact eq_comm
theorem trim_head (l : List UInt8) : Lib.trimPrefix l [45] = if l.head? = some 45 then l.drop 1 else l := by
  unfold Lib.trimPrefix; rw [has_head]; simp
theorem apart (s : ByteArray) (h : s.size ≤ 1000) : ∃ neg wh fr pt u r, Apart s neg wh fr pt u r := by
  have hl : s.data.toList.length ≤ 1000 := by simpa using h
  obtain ⟨l, hle⟩ : ∃ l, l = s.data.toList := ⟨_, rfl⟩
  obtain ⟨u, hu⟩ : ∃ u, u = (if l.head? = some 45 then l.drop 1 else l) := ⟨_, rfl⟩
  have hlu : l = (if (decide (l.head? = some 45)) then 45 :: u else u) := by
    cases l with
    | nil => simp at hu; simp [hu]
    | cons c r =>
      by_cases hc : c = 45
      · subst hc; simp at hu; simp [hu]
      · simp [hc] at hu; simp [hc, hu]
  obtain ⟨b, hb⟩ : ∃ b, b = decide (l.head? = some 45) := ⟨_, rfl⟩
  rw [← hb] at hlu
  have hul : u.length ≤ 1000 := by
    rw [hu]; split
    · rw [List.length_drop]; rw [← hle] at hl; omega
    · rw [← hle] at hl; exact hl
  rcases Pm.parted u with hm | ⟨wh, fr, hw, hm⟩
  · refine ⟨b, u, [], false, u, _, h, ?_, ?_, Pm.cut_miss u hm, ⟨hul, by simp, hul⟩, ?_, rfl, ?_, fun _ => rfl⟩
    · show (⟨(Lib.trimPrefix s.data.toList [45]).toArray⟩ : ByteArray) = _
      rw [← hle, trim_head, ← hu]; rfl
    · show Lib.hasPrefix s.data.toList [45] = _
      rw [← hle, has_head, ← hb]
    · rw [← hle, hlu, List.append_nil]
      clear hlu hu hle hb
      cases b
      · exact Pm.replace_miss _ hm
      · exact Pm.replace_miss _ (by simp; exact hm)
    · unfold Pm.parseM
      rw [← hle, ← hu, Pm.scan_miss u hm, ← hb]; rfl
  · subst hw
    refine ⟨b, wh, fr, true, _, _, h, ?_, ?_, Pm.cut_hit wh fr hm, ⟨by simp at hul; omega, by simp at hul; omega, hul⟩, ?_, rfl, ?_, fun e => by cases e⟩
    · show (⟨(Lib.trimPrefix s.data.toList [45]).toArray⟩ : ByteArray) = _
      rw [← hle, trim_head, ← hu]; rfl
    · show Lib.hasPrefix s.data.toList [45] = _
      rw [← hle, has_head, ← hb]
    · rw [← hle, hlu]
      clear hlu hu hle hb
      cases b
      · exact Pm.replace_hit wh fr hm
      · have := Pm.replace_hit (45 :: wh) fr (by simp; exact hm)
        simpa using this
    · unfold Pm.parseM
      rw [← hle, ← hu, Pm.scan_hit wh fr hm, ← hb]; rfl
end Go.Proofs.YtmipomglbccjbaaDoor
