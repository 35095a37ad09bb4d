/- LAYER 1: the numbers of the roots: package word's tables, and the document's. -/
import Derived.Test.YtefbopgbikmohaaDoorV1
import Derived.Test.YtefbopgbikmohaaDoorTab
namespace Go.Proofs.YtefbopgbikmohaaDoor
open Go.RowKit

def primeT : List Nat := [2, 3, 5, 7, 11, 13, 17, 19, 23, 29, 31, 37, 41, 43, 47, 53, 59, 61, 67, 71, 73, 79, 83, 89, 97, 101, 103, 107, 109, 113, 127, 131, 137, 139, 149, 151, 157, 163, 167, 173, 179, 181, 191, 193, 197, 199, 211, 223, 227, 229, 233, 239, 241, 251, 257, 263, 269, 271, 277, 281, 283, 293, 307, 311]
def primeOk (i : Nat) : Bool := isP (primeT.getD i 0) && decide (cnt (primeT.getD i 0) = i) && decide (2 ≤ primeT.getD i 0) && decide (primeT.getD i 0 ≤ 1000)
/-- The root's whole part is hi: what stands behind the point is as the table has it. -/
def rootOk (p q hi x : Nat) : Bool := decide ((hi * 4294967296 + x) ^ q ≤ p * 65536 ^ (2 * q)) && decide (p * 65536 ^ (2 * q) < (hi * 4294967296 + x + 1) ^ q) && decide (hi * 4294967296 + x < 137438953472) && decide (x < 4294967296) && decide (p < 65536)
def hiC (p : Nat) : Nat := if p < 8 then 1 else if p < 27 then 2 else if p < 64 then 3 else if p < 125 then 4 else if p < 216 then 5 else 6
def hiS (p : Nat) : Nat := if p < 4 then 1 else if p < 9 then 2 else if p < 16 then 3 else 4
def cubeOk (i : Nat) : Bool := rootOk (primeT.getD i 0) 3 (hiC (primeT.getD i 0)) (cubeT.getD i 0).toNat && decide (0 ≤ cubeT.getD i 0)
def squareOk (i : Nat) : Bool := rootOk (primeT.getD i 0) 2 (hiS (primeT.getD i 0)) (squareT.getD i 0).toNat && decide (0 ≤ squareT.getD i 0)
set_option maxRecDepth 100000 in
theorem primes_ok : (List.range 64).all primeOk = true := by decide +kernel
set_option maxRecDepth 100000 in
theorem cubes_ok : (List.range 64).all cubeOk = true := by decide +kernel
set_option maxRecDepth 100000 in
theorem squares_ok : (List.range 8).all squareOk = true := by decide +kernel
theorem prime_at (i : Nat) (h : i < 64) : isP (primeT.getD i 0) = true ∧ cnt (primeT.getD i 0) = i ∧ 2 ≤ primeT.getD i 0 ∧ primeT.getD i 0 ≤ 1000 := by
  have := List.all_eq_true.1 primes_ok i (by simpa using h)
  simp only [primeOk, Bool.and_eq_true, decide_eq_true_eq] at this
  exact ⟨this.1.1.1, this.1.1.2, this.1.2, this.2⟩
theorem root_of (p q hi : Nat) (z : Int) (hq : q = 2 ∨ q = 3) (h : rootOk p q hi z.toNat = true) (hz : 0 ≤ z) : rootK p q 38 % 4294967296 = z ∧ rootK p q 38 < 137438953472 := by
  simp only [rootOk, Bool.and_eq_true, decide_eq_true_eq] at h
  obtain ⟨⟨⟨⟨h1, h2⟩, h3⟩, h4⟩, h5⟩ := h
  obtain ⟨x, rfl⟩ := Int.eq_ofNat_of_zero_le hz
  rw [Int.toNat_natCast] at *
  have e1 : (((hi * 4294967296 + x) ^ q : Nat) : Int) ≤ ((p * 65536 ^ (2 * q) : Nat) : Int) := by exact Int.ofNat_le.2 h1
  have e2 : ((p * 65536 ^ (2 * q) : Nat) : Int) < (((hi * 4294967296 + x + 1) ^ q : Nat) : Int) := by exact Int.ofNat_lt.2 h2
  rw [Int.natCast_pow, Int.natCast_mul, Int.natCast_pow] at e1
  rw [Int.natCast_pow, Int.natCast_mul, Int.natCast_pow] at e2
  have e := root_is (p : Int) q ((hi * 4294967296 + x : Nat) : Int) hq (by omega) (by omega) (by omega) (by omega) e1 e2
  rw [e]
  omega
theorem cube_at (i : Nat) (h : i < 64) : rootK (primeT.getD i 0 : Nat) 3 38 % 4294967296 = cubeT.getD i 0 := by
  have := List.all_eq_true.1 cubes_ok i (by simpa using h)
  simp only [cubeOk, Bool.and_eq_true, decide_eq_true_eq] at this
  exact (root_of _ 3 _ _ (.inr rfl) this.1 this.2).1
theorem square_at (i : Nat) (h : i < 8) : rootK (primeT.getD i 0 : Nat) 2 38 % 4294967296 = squareT.getD i 0 := by
  have := List.all_eq_true.1 squares_ok i (by simpa using h)
  simp only [squareOk, Bool.and_eq_true, decide_eq_true_eq] at this
  exact (root_of _ 2 _ _ (.inl rfl) this.1 this.2).1

end Go.Proofs.YtefbopgbikmohaaDoor
