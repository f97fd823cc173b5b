/- Layer 7 in plain words: numbers as bytes, heads and frames as sectors, what is read of them; a log and what its calls leave. No function of the program is named here. -/
import Derived.Test.YtofbignggadkiaaSecMath
namespace Go.Proofs.Ytofbignggadkiaa.Lm

/-- the k lowest bytes of m, the greatest first -/
def be : Nat → Nat → List UInt8
  | 0, _ => []
  | k + 1, m => UInt8.ofNat (m / 256 ^ k) :: be k m
theorem be_length : ∀ k m, (be k m).length = k
  | 0, _ => rfl
  | k + 1, m => by rw [be, List.length_cons, be_length k m]
/-- a number of bytes; -1: too great -/
def numGo : Nat → List UInt8 → Int
  | n, [] => (n : Int)
  | n, b :: r => if 18014398509481984 ≤ n then -1 else numGo (256 * n + b.toNat) r
def num (s : List UInt8) : Int := numGo 0 s
def pad (s : List UInt8) (n : Nat) : List UInt8 := s ++ List.replicate (n - s.length) 0
theorem pad_length (s : List UInt8) (n : Nat) (h : s.length ≤ n) : (pad s n).length = n := by
  unfold pad; rw [List.length_append, List.length_replicate]; omega
structure Hd where
  n : Nat
  epoch : Nat
  base : Nat
  body : List UInt8
def hsec (h : Hd) : List UInt8 := pad (be 8 h.n ++ be 4 h.epoch ++ be 4 h.base ++ [UInt8.ofNat h.body.length] ++ h.body) 56 ++ be 8 h.n
theorem hsec_length {h : Hd} (hb : h.body.length ≤ 32) : (hsec h).length = 64 := by
  unfold hsec
  rw [List.length_append, pad_length _ _ (by simp [be_length]; omega), be_length]
/-- what counts of a sector as a head -/
def rhead (s : List UInt8) (i : Nat) : Option Hd :=
  if s.take 8 ≠ s.drop 56 ∨ num (s.take 8) < 1 ∨ 4611686018427387904 ≤ num (s.take 8) ∨ num (s.take 8) % 2 ≠ (i : Int) ∨ 32 < (s.getD 16 0).toNat ∨ num ((s.drop 8).take 4) < num ((s.drop 12).take 4) then none
  else some ⟨(num (s.take 8)).toNat, (num ((s.drop 8).take 4)).toNat, (num ((s.drop 12).take 4)).toNat, (s.drop 17).take (s.getD 16 0).toNat⟩
def fsec (epoch k : Nat) (last : Bool) (body : List UInt8) : List UInt8 :=
  pad (be 4 epoch ++ be 4 k ++ [if last then 1 else 0] ++ [UInt8.ofNat body.length] ++ body) 56 ++ (be 4 epoch ++ be 4 k)
theorem fsec_length {epoch k : Nat} {last : Bool} {body : List UInt8} (hb : body.length ≤ 46) : (fsec epoch k last body).length = 64 := by
  unfold fsec
  rw [List.length_append, pad_length _ _ (by simp [be_length]; omega), List.length_append, be_length, be_length]
/-- what counts of a sector as frame k, whatever stands before it: its epoch, whether it is the last one of its batch, its contents -/
def fr (s : List UInt8) (k : Nat) : Option (Nat × Bool × List UInt8) :=
  if s.take 8 ≠ s.drop 56 ∨ num ((s.drop 4).take 4) ≠ (k : Int) ∨ 1 < (s.getD 8 0).toNat ∨ 46 < (s.getD 9 0).toNat then none
  else some ((num (s.take 4)).toNat, (s.getD 8 0).toNat != 0, (s.drop 10).take (s.getD 9 0).toNat)
/-- the batches of frames, and the place behind them: hep: the head's epoch; ahead: that of the frame before; ins: in the midst of a batch, batch: its bytes so far -/
def scan (hep : Nat) : List (List UInt8) → Nat → Nat → Bool → List UInt8 → List (List UInt8) → Nat → List (List UInt8) × Nat
  | [], _, _, _, _, l, at_ => (l, at_)
  | s :: r, k, ahead, ins, batch, l, at_ =>
    match fr s k with
    | none => (l, at_)
    | some (ep, last, body) =>
      if ep < 1 ∨ ep < ahead ∨ hep < ep ∨ (ins = true ∧ ep ≠ ahead) then (l, at_)
      else if last then scan hep r (k + 1) ep false [] (l ++ [batch ++ body]) (k + 1)
      else scan hep r (k + 1) ep true (batch ++ body) l at_
/-- a log -/
structure Lg where
  frames : Nat
  h : Hd
  l : List (List UInt8)
  at_ : Nat
  down : Bool
/-- a head with an epoch more is written and flushed -/
def next (h : Hd) (d : Sm.Dv) : Sm.Dv × Int :=
  if 4294967295 < h.epoch then (d, 70)
  else if (Sm.write d ((h.n % 2 : Nat) : Int) (hsec h)).2 ≠ 0 then Sm.write d ((h.n % 2 : Nat) : Int) (hsec h)
  else Sm.flush (Sm.write d ((h.n % 2 : Nat) : Int) (hsec h)).1
/-- what stands in sector i, whether the device is off or not -/
def cur (d : Sm.Dv) (i : Nat) : List UInt8 := Sm.last (d.kept.getD i []) i d.ws
def top (a b : Option Hd) : Hd :=
  match a, b with
  | none, none => ⟨0, 0, 0, []⟩
  | some x, none => x
  | none, some y => y
  | some x, some y => if x.n < y.n then y else x
def hd (d : Sm.Dv) : Hd := top (rhead (cur d 0) 0) (rhead (cur d 1) 1)
def bats (d : Sm.Dv) (frames : Nat) : List (List UInt8) × Nat := scan (hd d).epoch ((List.range frames).map fun k => cur d (2 + k)) 0 (hd d).base false [] [] 0
def up (h : Hd) : Hd := { h with n := h.n + 1, epoch := h.epoch + 1 }
def open_ (d : Sm.Dv) (frames : Int) : Option Lg × Sm.Dv × Int :=
  if frames < 1 ∨ (d.kept.length : Int) - 2 < frames then (none, d, 2)
  else if d.left = 0 then (none, d, 60)
  else if (next (up (hd d)) d).2 ≠ 0 then (none, (next (up (hd d)) d).1, (next (up (hd d)) d).2)
  else (some ⟨frames.toNat, up (hd d), (bats d frames.toNat).1, (bats d frames.toNat).2, false⟩, (next (up (hd d)) d).1, 0)
/-- the contents of a batch's frames -/
def cut : Nat → List UInt8 → List (List UInt8)
  | 0, b => [b]
  | n + 1, b => if 46 < b.length then b.take 46 :: cut n (b.drop 46) else [b]
def parts (b : List UInt8) : List (List UInt8) := cut b.length b
/-- frames are written, one behind another, till one fails -/
def put (ep : Nat) : List (List UInt8) → Nat → Sm.Dv → Sm.Dv × Int
  | [], _, d => (d, 0)
  | p :: r, k, d =>
    if (Sm.write d ((2 + k : Nat) : Int) (fsec ep k r.isEmpty p)).2 ≠ 0 then Sm.write d ((2 + k : Nat) : Int) (fsec ep k r.isEmpty p)
    else put ep r (k + 1) (Sm.write d ((2 + k : Nat) : Int) (fsec ep k r.isEmpty p)).1
/-- frames written, and flushed -/
def putF (ep : Nat) (ps : List (List UInt8)) (k : Nat) (d : Sm.Dv) : Sm.Dv × Int :=
  if (put ep ps k d).2 ≠ 0 then put ep ps k d else Sm.flush (put ep ps k d).1
def append (g : Lg) (d : Sm.Dv) (b : List UInt8) : Lg × Sm.Dv × Int :=
  if g.down = true then (g, d, 60)
  else if 65536 < b.length then (g, d, 2)
  else if g.frames < g.at_ + (parts b).length then (g, d, 70)
  else if (putF g.h.epoch (parts b) g.at_ d).2 ≠ 0 then ({ g with down := true }, (putF g.h.epoch (parts b) g.at_ d).1, (putF g.h.epoch (parts b) g.at_ d).2)
  else ({ g with at_ := g.at_ + (parts b).length, l := g.l ++ [b] }, (putF g.h.epoch (parts b) g.at_ d).1, 0)
def fresh (g : Lg) (body : List UInt8) : Hd := ⟨g.h.n + 1, g.h.epoch + 1, g.h.epoch + 1, body⟩
def reset (g : Lg) (d : Sm.Dv) (body : List UInt8) : Lg × Sm.Dv × Int :=
  if g.down = true then (g, d, 60)
  else if 32 < body.length then (g, d, 2)
  else if (next (fresh g body) d).2 = 70 ∧ 4294967295 < g.h.epoch + 1 then (g, d, 70)
  else if (next (fresh g body) d).2 ≠ 0 then ({ g with down := true }, (next (fresh g body) d).1, (next (fresh g body) d).2)
  else ({ g with h := fresh g body, l := [], at_ := 0 }, (next (fresh g body) d).1, 0)
end Go.Proofs.Ytofbignggadkiaa.Lm
