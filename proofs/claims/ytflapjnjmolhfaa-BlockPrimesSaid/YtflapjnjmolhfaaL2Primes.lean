/- LAYER 2, BlockPrimes: the walk of the law. -/
import Derived.Test.YtflapjnjmolhfaaPad
import Derived.Test.YtflapjnjmolhfaaPr2
import Derived.Test.YtflapjnjmolhfaaP1
namespace Go.Proofs.Ytflapjnjmolhfaa
open Go.RowKit

theorem primes_walk (w : World) :
    Calls Try.prog 5 #[] w fun e w' => e = .returned (.bool true) ∧ Below w.heap.size w w' := by
  go_enter Try.func5, Try.ntmps5
  go_wp2_with (first
    | (go_at_call 6; refine (balive_any _).mono ?_; rintro e w1 ⟨rfl, hbel1⟩)
    | (go_at_call 11; refine (rprimes_any _).mono ?_; rintro e w2 ⟨rfl, hr, hbel2⟩))
  have hb := below_step hbel1 hbel2
  go_loopw [7] (fun i wr => ∃ k : Nat, k ≤ 64 ∧ i = .int .i64 k ∧ Below w2.heap.size w2 wr) (fun i _ => 64 - (intOf i).toNat)
  case atStart => exact ⟨0, by omega, rfl, Below.refl _ _⟩
  case round =>
    obtain ⟨k, hk, rfl, hbel⟩ := hrel
    by_cases hlt : k < 64
    · have c := (hr.later hbel hr.lt).cube k hlt
      generalize hC : cubeT.getD k 0 = C at c
      have HC := Lib.hid hC
      clear hC
      go_wp2_with (first
        | (go_at_call 12; refine (rprime_any _ _ (by omega) (by omega)).mono ?_; rintro e w3 ⟨rfl, hbel3⟩; rw [Int.toNat_natCast, HC.out]))
      go_roundw
      case rel => exact ⟨k + 1, by omega, by go_num, below_step hbel hbel3⟩
      case measure => simp [intOf]; omega
    · go_wp2
      go_ret
      exact ⟨rfl, below_step hb hbel⟩
end Go.Proofs.Ytflapjnjmolhfaa
