/- LAYER 1's DOCUMENT (chittyref01), bit by bit, walked: each sum is the word that has those bits. -/
import Derived.Test.YtefbopgbikmohaaDoorW1
namespace Go.Proofs.YtefbopgbikmohaaDoor
open Go.RowKit

theorem rem2 (v : BitVec 32) (k : Nat) : (u (v >>> k)).tmod 2 = bit v k := by
  rw [Int.tmod_eq_emod_of_nonneg (u_bd _).1, bit_shr]
theorem u_quo8 (x : BitVec 32) : IntKind.u32.wrap ((u x).tdiv 8) = u (x >>> 3) := by
  rw [IntWalk.u32_quo _ _ ⟨(u_bd x).1, by have := u_bd x; omega, by decide⟩, u_shr3]
theorem u_quo1024 (x : BitVec 32) : IntKind.u32.wrap ((u x).tdiv 1024) = u (x >>> 10) := by
  rw [IntWalk.u32_quo _ _ ⟨(u_bd x).1, by have := u_bd x; omega, by decide⟩, u_shr10]
end Go.Proofs.YtefbopgbikmohaaDoor
