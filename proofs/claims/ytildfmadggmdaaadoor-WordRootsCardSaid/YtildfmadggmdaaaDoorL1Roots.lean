/- LAYER 1, WordRoots: the walk of the law. -/
import Derived.Test.YtildfmadggmdaaaDoorG1
namespace Go.Proofs.YtildfmadggmdaaaDoor
open Go.RowKit
theorem start_index (k : Nat) (h : k < 8) : ∀ w : World, (Instr.index 25 startV (.int .i64 k)).run Tryd.prog w = .ok (.int .u32 (squareT.getD k 0)) w := by
  intro w
  rcases (by omega : k = 0 ∨ k = 1 ∨ k = 2 ∨ k = 3 ∨ k = 4 ∨ k = 5 ∨ k = 6 ∨ k = 7) with rfl | rfl | rfl | rfl | rfl | rfl | rfl | rfl <;> kernel_rfl
theorem roots_walk (w : World) (hT : Tabs w) :
    Calls Tryd.prog 3 #[] w fun e w' => e = .returned (.bool true) ∧ Below w.heap.size w w' := by
  go_enter Tryd.func3, Tryd.ntmps3
  go_wp2_with (go_at_call 6; refine (alive_any _ hT).mono ?_; rintro e w1 ⟨rfl, hbel1⟩)
  go_loopw [1] (fun i wr => ∃ k : Nat, k ≤ 64 ∧ i = .int .i64 k ∧ Below w.heap.size w wr) (fun i _ => 64 - (intOf i).toNat)
  case atStart => exact ⟨0, by omega, rfl, hbel1⟩
  case round =>
    obtain ⟨k, hk, rfl, hbel⟩ := hrel
    have hTr := hT.later hbel (Nat.le_refl _)
    by_cases hlt : k < 64
    · have e : primeV k = cubeT.getD k 0 := by unfold primeV; rw [if_pos (by omega), Int.toNat_natCast]
      generalize hC : cubeT.getD k 0 = C at e
      have HE := Lib.hid e
      have HC := Lib.hid hC
      clear e hC
      go_wp2_with (first
        | (go_at_call 7; refine (prime_any _ _ hTr (by omega)).mono ?_; rintro e w' ⟨rfl, rfl⟩; rw [HE.out])
        | (go_at_call 8; refine (rprime_any _ _ (by omega) (by omega)).mono ?_; rintro e w2 ⟨rfl, hbel2⟩; rw [Int.toNat_natCast, HC.out]))
      go_roundw
      case rel => exact ⟨k + 1, by omega, by go_num, hbel.trans (hbel2.mono hbel.size)⟩
      case measure => simp [intOf]; omega
    · go_wp2_with (first
        | (go_at_call 9; refine (start_any _ hTr).mono ?_; rintro e w2 ⟨rfl, hbel2⟩))
      have hbel3 : Below w.heap.size w w2 := hbel.trans (hbel2.mono hbel.size)
      have hnp : primeV (-1) = 0 := rfl
      have hnq : primeV 64 = 0 := rfl
      have HNP := Lib.hid hnp
      have HNQ := Lib.hid hnq
      clear hbel2 hTr hbel1 hbel hnp hnq
      go_loopw [16] (fun i wr => ∃ k : Nat, k ≤ 8 ∧ i = .int .i64 k ∧ Below w.heap.size w wr) (fun i _ => 8 - (intOf i).toNat)
      case atStart => exact ⟨0, by omega, rfl, hbel3⟩
      case round =>
        clear hlt hk
        obtain ⟨k, hk, rfl, hbel⟩ := hrel
        have hTr := hT.later hbel (Nat.le_refl _)
        by_cases hlt : k < 8
        · have hix := start_index k hlt
          generalize hC : squareT.getD k 0 = C at hix
          have HC := Lib.hid hC
          clear hC
          go_wp2_with (first
            | (go_at_call 10; refine (rstart_any _ _ (by omega) (by omega)).mono ?_; rintro e w2 ⟨rfl, hbel2⟩; rw [Int.toNat_natCast, HC.out]))
          go_roundw
          case rel => exact ⟨k + 1, by omega, by go_num, hbel.trans (hbel2.mono hbel.size)⟩
          case measure => simp [intOf]; omega
        · go_wp2_with (first
            | (go_at_call 7; refine (prime_any _ _ hTr (by omega)).mono ?_; rintro e w' ⟨rfl, rfl⟩; first | rw [HNP.out] | rw [HNQ.out]))
          go_ret
          exact ⟨rfl, hbel⟩
end Go.Proofs.YtildfmadggmdaaaDoor
