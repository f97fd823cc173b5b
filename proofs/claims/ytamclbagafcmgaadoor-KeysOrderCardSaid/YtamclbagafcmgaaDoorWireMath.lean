/- Plain facts about the encoding of numbers as bytes: reading reverses writing, no encoding is the beginning of another. No program is named here. -/
import Derived.Lib.BitFns
namespace Go.Proofs.YtamclbagafcmgaaDoor.Wm

/-- the k lowest bytes of m, most significant first -/
def be : Nat → Nat → List UInt8
  | 0, _ => []
  | k + 1, m => UInt8.ofNat (m / 256 ^ k) :: be k m
def val (l : List UInt8) : Nat := l.foldl (fun a b => a * 256 + b.toNat) 0
def nb (m : Nat) : Nat := (Lib.bitLen m + 7) / 8
def mag (n : Int) : Nat := if n < 0 then (-1 - n).toNat else n.toNat
def hdr (n : Int) : UInt8 := UInt8.ofNat ((if n < 0 then 128 else 0) + nb (mag n))
def enc (n : Int) : List UInt8 := hdr n :: be (nb (mag n)) (mag n)
theorem be_length (k m : Nat) : (be k m).length = k := by
  induction k with
  | zero => rfl
  | succ k ih => simp [be, ih]
theorem val_foldl (l : List UInt8) (a : Nat) : l.foldl (fun a b => a * 256 + b.toNat) a = a * 256 ^ l.length + val l := by
  induction l generalizing a with
  | nil => simp [val]
  | cons x t ih =>
    simp only [List.foldl_cons, List.length_cons, val]
    rw [ih, ih (0 * 256 + x.toNat)]
    rw [Nat.pow_succ]
    grind
theorem val_cons (x : UInt8) (t : List UInt8) : val (x :: t) = x.toNat * 256 ^ t.length + val t := by
  simp only [val, List.foldl_cons]
  rw [val_foldl]; simp [val]
theorem val_snoc (l : List UInt8) (x : UInt8) : val (l ++ [x]) = val l * 256 + x.toNat := by
  simp [val, List.foldl_append]
theorem val_lt (l : List UInt8) : val l < 256 ^ l.length := by
  induction l with
  | nil => simp [val]
  | cons x t ih =>
    rw [val_cons, List.length_cons, Nat.pow_succ]
    have := x.toNat_lt
    have hp : 0 < 256 ^ t.length := Nat.pow_pos (by omega)
    have h2 : x.toNat * 256 ^ t.length ≤ 255 * 256 ^ t.length := Nat.mul_le_mul_right _ (by omega)
    omega
theorem val_be (k m : Nat) : val (be k m) = m % 256 ^ k := by
  induction k with
  | zero => simp [be, val, Nat.mod_one]
  | succ k ih =>
    rw [be, val_cons, be_length, ih, UInt8.toNat_ofNat']
    have e : m % 256 ^ (k + 1) = m % 256 ^ k + 256 ^ k * (m / 256 ^ k % 256) := by rw [Nat.pow_succ, Nat.mod_mul]
    rw [e, Nat.mul_comm (256 ^ k), Nat.add_comm]
/-- the numbers that are written -/
def inR (n : Int) : Prop := -9223372036854775808 ≤ n ∧ n ≤ 9223372036854775807
end Go.Proofs.YtamclbagafcmgaaDoor.Wm
