/- LAYER 1's SMALL FUNCTIONS: package word's turns and sums, walked. -/
import Derived.Test.YtbngnmhbnhpbeaaDoorU
namespace Go.Proofs.YtbngnmhbnhpbeaaDoor
open Go.RowKit

@[go_sem] theorem and31 (n : Int) : bits .and .u64 (IntKind.u64.wrap n) 31 = n % 32 := by
  show IntKind.u64.wrap ((BitVec.ofInt 64 (IntKind.u64.wrap n) &&& BitVec.ofInt 64 31).toNat : Int) = _
  have h1 : (BitVec.ofInt 64 (IntKind.u64.wrap n)).toNat = (n % 18446744073709551616).toNat := by
    rw [IntKind.wrap_u64, BitVec.toNat_ofInt]; simp
  have h2 : (BitVec.ofInt 64 31).toNat = 2 ^ 5 - 1 := by decide
  rw [BitVec.toNat_and, h1, h2, Nat.and_two_pow_sub_one_eq_mod, IntKind.wrap_u64]
  omega

def great (i : Int) (x : BitVec 32) : BitVec 32 :=
  if i = 0 then turn x 2 ^^^ turn x 13 ^^^ turn x 22 else if i = 1 then turn x 6 ^^^ turn x 11 ^^^ turn x 25 else 0#32
def small (i : Int) (x : BitVec 32) : BitVec 32 :=
  if i = 0 then turn x 7 ^^^ turn x 18 ^^^ x >>> 3 else if i = 1 then turn x 17 ^^^ turn x 19 ^^^ x >>> 10 else 0#32
theorem u_zero : u 0#32 = 0 := rfl
end Go.Proofs.YtbngnmhbnhpbeaaDoor
