/- LAYER 1's DOCUMENT (chittyref01), bit by bit, walked: each sum is the word that has those bits. -/
import Derived.Test.YtflapjnjmolhfaaW1
namespace Go.Proofs.Ytflapjnjmolhfaa
open Go.RowKit

theorem rem2 (v : BitVec 32) (k : Nat) : (u (v >>> k)).tmod 2 = bit v k := by
  rw [Int.tmod_eq_emod_of_nonneg (u_bd _).1, bit_shr]
theorem rbit_any (v : BitVec 32) (i : Int) (w : World) (h0 : 0 ≤ i) (h1 : i < 32) :
    Calls Try.prog 21 #[.int .u32 (u v), .int .i64 i] w fun e w' => e = .returned (.int .u32 (bit v i.toNat)) ∧ w = w' := by
  go_enter Try.func21, Try.ntmps21
  go_wp2
  go_ret
  exact ⟨by rw [← rem2]; rfl, rfl⟩
theorem rturn_any (x : BitVec 32) (n : Int) (w : World) :
    Calls Try.prog 17 #[.int .u32 (u x), .int .i64 n] w fun e w' => e = .returned (.int .u32 (u (turn x n))) ∧ w = w' := by
  have hm : -32 < n.tmod 32 ∧ n.tmod 32 < 32 := ⟨by have := Int.tmod_lt_of_pos n (show (0 : Int) < 32 by decide); have := Int.neg_tmod n 32; have := Int.tmod_lt_of_pos (-n) (show (0 : Int) < 32 by decide); omega, Int.tmod_lt_of_pos n (by decide)⟩
  go_enter Try.func17, Try.ntmps17
  go_wp2
  go_loop [5, 6] (fun t i => ∃ k : Nat, k ≤ 32 ∧ i = .int .i64 k ∧ t = .int .u32 (low (turn x n) k)) (fun _ i => 32 - (intOf i).toNat)
  case atStart => exact ⟨0, by omega, rfl, by rw [low_zero]⟩
  case round =>
    obtain ⟨k, hk, rfl, rfl⟩ := hrel
    by_cases hlt : k < 32
    · go_wp2_with (go_at_call 21; refine (rbit_any _ _ _ (by omega) (by omega)).mono ?_; rintro e w' ⟨rfl, rfl⟩)
      go_round
      case rel => exact ⟨k + 1, by omega, by go_num, by rw [low_step' (turn x n) k hlt _ (bit_turn x n k hlt)]⟩
      case measure => simp [intOf]; omega
    · go_wp2
      go_ret
      obtain rfl : k = 32 := by omega
      rw [low_all]
      exact ⟨rfl, rfl⟩
theorem rsum_any (x y z : BitVec 32) (w : World) :
    Calls Try.prog 16 #[.int .u32 (u x), .int .u32 (u y), .int .u32 (u z)] w fun e w' => e = .returned (.int .u32 (u (x ^^^ y ^^^ z))) ∧ w = w' := by
  go_enter Try.func16, Try.ntmps16
  go_wp2
  go_loop [7, 8] (fun t i => ∃ k : Nat, k ≤ 32 ∧ i = .int .i64 k ∧ t = .int .u32 (low (x ^^^ y ^^^ z) k)) (fun _ i => 32 - (intOf i).toNat)
  case atStart => exact ⟨0, by omega, rfl, by rw [low_zero]⟩
  case round =>
    obtain ⟨k, hk, rfl, rfl⟩ := hrel
    by_cases hlt : k < 32
    · have bx := bit_bd x k
      have by' := bit_bd y k
      have bz := bit_bd z k
      go_wp2_with (go_at_call 21; refine (rbit_any _ _ _ (by omega) (by omega)).mono ?_; rintro e w' ⟨rfl, rfl⟩)
      go_round
      case rel => exact ⟨k + 1, by omega, by go_num, by rw [low_step' (x ^^^ y ^^^ z) k hlt _ (bit_xor x y z k)]⟩
      case measure => simp [intOf]; omega
    · go_wp2
      go_ret
      obtain rfl : k = 32 := by omega
      rw [low_all]
      exact ⟨rfl, rfl⟩
theorem u_quo8 (x : BitVec 32) : IntKind.u32.wrap ((u x).tdiv 8) = u (x >>> 3) := by
  rw [IntWalk.u32_quo _ _ ⟨(u_bd x).1, by have := u_bd x; omega, by decide⟩, u_shr3]
theorem u_quo1024 (x : BitVec 32) : IntKind.u32.wrap ((u x).tdiv 1024) = u (x >>> 10) := by
  rw [IntWalk.u32_quo _ _ ⟨(u_bd x).1, by have := u_bd x; omega, by decide⟩, u_shr10]
theorem rsmall_any (i : Int) (x : BitVec 32) (w : World) :
    Calls Try.prog 10 #[.int .i64 i, .int .u32 (u x)] w fun e w' => e = .returned (.int .u32 (u (small i x))) ∧ w = w' := by
  have hb := u_bd x
  by_cases h0 : i = 0
  · subst h0
    go_enter Try.func10, Try.ntmps10
    go_wp2_with (first | (go_at_call 17; refine (rturn_any _ _ _).mono ?_; rintro e w' ⟨rfl, rfl⟩) | (go_at_call 16; rw [u_shr3]; refine (rsum_any _ _ _ _).mono ?_; rintro e w' ⟨rfl, rfl⟩))
    go_ret
    exact ⟨rfl, rfl⟩
  · by_cases h1 : i = 1
    · subst h1
      go_enter Try.func10, Try.ntmps10
      go_wp2_with (first | (go_at_call 17; refine (rturn_any _ _ _).mono ?_; rintro e w' ⟨rfl, rfl⟩) | (go_at_call 16; rw [u_shr10]; refine (rsum_any _ _ _ _).mono ?_; rintro e w' ⟨rfl, rfl⟩))
      go_ret
      exact ⟨rfl, rfl⟩
    · have hg : small i x = 0#32 := by unfold small; rw [if_neg h0, if_neg h1]
      have e0 : (i == 0) = false := by simpa using h0
      have e1 : (i == 1) = false := by simpa using h1
      have HG := Lib.hid hg
      clear hg
      go_enter Try.func10, Try.ntmps10
      go_wp2
      go_ret
      rw [HG.out, u_zero]
      exact ⟨rfl, rfl⟩
end Go.Proofs.Ytflapjnjmolhfaa
