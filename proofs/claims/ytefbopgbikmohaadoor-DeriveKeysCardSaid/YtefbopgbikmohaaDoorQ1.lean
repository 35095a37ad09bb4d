/- LAYER 1 DOCUMENT (chittyref01): the root by trying, walked. -/
import Derived.Test.YtefbopgbikmohaaDoorT1
import Derived.Deep.AppendLies
namespace Go.Proofs.YtefbopgbikmohaaDoor
open Go.RowKit
def mostL (p : Int) (q : Nat) : List Int := List.replicate (2 * q) 0 ++ [p]
/-- A square, or a cube, as digits. -/
def powL (t : Int) (q : Nat) : List Int := if q = 3 then timesL (timesL (digitsL t) (digitsL t)) (digitsL t) else timesL (digitsL t) (digitsL t)
def rootStep (p : Int) (q : Nat) (r : Int) (b : Nat) : Int :=
  if 137438953472 ≤ r + 2 ^ b then r
  else if aboveL (powL (r + 2 ^ b) q) (mostL p q) ((powL (r + 2 ^ b) q).length + (mostL p q).length + 1) then r else r + 2 ^ b
/-- What stands after the bits from 37 down to k. -/
def rootK (p : Int) (q : Nat) : Nat → Int
  | 0 => 0
  | j + 1 => rootStep p q (rootK p q j) (37 - j)
theorem length_timesL (a b : List Int) : (timesL a b).length = a.length + b.length := by unfold timesL; rw [len_carL, len_outL]
theorem length_digitsL (x : Int) : (digitsL x).length = 3 := rfl
theorem pow37 (b : Nat) (h : b ≤ 37) : 0 < (2 : Int) ^ b ∧ (2 : Int) ^ b ≤ 137438953472 := by
  have h1 : (2 : Nat) ^ b ≤ 2 ^ 37 := Nat.pow_le_pow_right (by decide) h
  have h2 : 0 < (2 : Nat) ^ b := Nat.two_pow_pos b
  have e : ((2 ^ b : Nat) : Int) = (2 : Int) ^ b := Int.natCast_pow 2 b
  have e2 : (2 : Nat) ^ 37 = 137438953472 := by decide
  omega
theorem rootK_bd (p : Int) (q k : Nat) : 0 ≤ rootK p q k ∧ rootK p q k < 137438953472 := by
  induction k with
  | zero => rw [rootK]; omega
  | succ k ih =>
    have := pow37 (37 - k) (by omega)
    rw [rootK, rootStep]
    split
    · exact ih
    · split <;> omega
end Go.Proofs.YtefbopgbikmohaaDoor
