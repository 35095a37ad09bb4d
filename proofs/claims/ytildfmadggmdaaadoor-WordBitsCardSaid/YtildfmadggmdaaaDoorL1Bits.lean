/- LAYER 1, WordBits: the walk of the law. -/
import Derived.Test.YtildfmadggmdaaaDoorG1
import Derived.Deep.QuietTactic
import Derived.BigQuiet
namespace Go.Proofs.YtildfmadggmdaaaDoor
open Go.RowKit
theorem lprime_any (i : Int) (w : World) (hi : -9223372036854775808 ≤ i ∧ i ≤ 9223372036854775807) :
    Calls Tryd.prog 21 #[.int .i64 i] w fun e w' => e = .returned (.int .u32 (primeV i)) ∧ Below w.heap.size w w' := by
  by_cases h : 0 ≤ i ∧ i < 64
  · have e := Lib.hid (show primeV i = cubeT.getD i.toNat 0 by unfold primeV; rw [if_pos h])
    have h0 := h.1
    have h1 := h.2
    go_enter Tryd.func21, Tryd.ntmps21
    go_wp2_with (go_at_call 8; refine (rprime_any _ _ h0 h1).mono ?_; rintro e w2 ⟨rfl, hbel⟩)
    go_ret
    rw [e.out]
    exact ⟨rfl, hbel⟩
  · have e : primeV i = 0 := by unfold primeV; rw [if_neg h]
    rw [e]
    clear e
    by_cases h1 : i < 0
    · go_enter Tryd.func21, Tryd.ntmps21
      go_wp2
      go_ret
      exact ⟨rfl, Below.refl _ _⟩
    · have h2 : 63 < i := by omega
      go_enter Tryd.func21, Tryd.ntmps21
      go_wp2
      go_ret
      exact ⟨rfl, Below.refl _ _⟩
theorem bits_walk (x y z : BitVec 32) (n : Int) (w : World) (hT : Tabs w) (hn : -9223372036854775808 ≤ n ∧ n ≤ 9223372036854775807) :
    Calls Tryd.prog 4 #[.agg #[.int .u32 (u x), .int .u32 (u y), .int .u32 (u z)], .int .i64 n] w fun e w' => e = .returned (.bool true) ∧ Below w.heap.size w w' := by
  go_enter Tryd.func4, Tryd.ntmps4
  go_wp2_with fail
  have hb0 : Below w.heap.size w (w.alloc (Obj.cells #[Value.int IntKind.u32 (u x), Value.int IntKind.u32 (u y), Value.int IntKind.u32 (u z)] 27)) := (Below.refl _ _).alloc (Nat.le_refl _) _
  refine (alive_any _ (hT.later hb0 (Nat.le_refl _))).mono ?_
  rintro e w1 ⟨rfl, hbel⟩
  have hr1 := (Row.new w 27 [Value.int IntKind.u32 (u x), Value.int IntKind.u32 (u y), Value.int IntKind.u32 (u z)]).later hbel (by rw [World.size_alloc]; omega)
  have hb1 : Below w.heap.size w w1 := hb0.trans (hbel.mono hb0.size)
  have c0 : w1.cell? ⟨w.heap.size, 0, none⟩ = some (.int .u32 (u x)) := hr1.cell 0
  have c1 : w1.cell? ⟨w.heap.size, 1, none⟩ = some (.int .u32 (u y)) := hr1.cell 1
  have c2 : w1.cell? ⟨w.heap.size, 2, none⟩ = some (.int .u32 (u z)) := hr1.cell 2
  clear hr1 hbel hb0
  go_wp2_with fail
  go_region
  have hb2 : Below w.heap.size w w1.drew := hb1.drew
  have hT2 : Tabs w1.drew := hT.later hb2 (Nat.le_refl _)
  clear c0 c1 c2 hb1
  generalize w1.drew = w2 at *
  clear hT w1
  go_wp2_with fail
  go_loop [8] (fun i => ∃ k : Nat, k ≤ 4 ∧ i = .int .i64 ((k : Int) - 1)) (fun i => (3 - intOf i).toNat)
  case atStart => exact ⟨0, by omega, by go_num⟩
  case round =>
    obtain ⟨k, hk, rfl⟩ := hrel
    by_cases hlt : k < 4
    · go_wp2_with (first | (go_at_call 11; refine (great_any _ _ _).mono ?_; rintro e w' ⟨rfl, rfl⟩) | (go_at_call 12; refine (rgreat_any _ _ _).mono ?_; rintro e w' ⟨rfl, rfl⟩) | (go_at_call 13; refine (small_any _ _ _).mono ?_; rintro e w' ⟨rfl, rfl⟩) | (go_at_call 14; refine (rsmall_any _ _ _).mono ?_; rintro e w' ⟨rfl, rfl⟩))
      go_round
      case rel => exact ⟨k + 1, by omega, by go_num⟩
      case measure => simp [intOf]; omega
    · obtain rfl : k = 4 := by omega
      go_wp2_with (first | (go_at_call 15; refine (turn_any _ _ _).mono ?_; rintro e w' ⟨rfl, rfl⟩) | (go_at_call 16; refine (rturn_any _ _ _).mono ?_; rintro e w' ⟨rfl, rfl⟩) | (go_at_call 17; refine (choose_any _ _ _ _).mono ?_; rintro e w' ⟨rfl, rfl⟩) | (go_at_call 18; refine (rchoose_any _ _ _ _).mono ?_; rintro e w' ⟨rfl, rfl⟩) | (go_at_call 19; refine (most_any _ _ _ _).mono ?_; rintro e w' ⟨rfl, rfl⟩) | (go_at_call 20; refine (rmost_any _ _ _ _).mono ?_; rintro e w' ⟨rfl, rfl⟩) | (go_at_call 11; refine (great_any _ _ _).mono ?_; rintro e w' ⟨rfl, rfl⟩) | (go_at_call 12; refine (rgreat_any _ _ _).mono ?_; rintro e w' ⟨rfl, rfl⟩) | (go_at_call 13; refine (small_any _ _ _).mono ?_; rintro e w' ⟨rfl, rfl⟩) | (go_at_call 14; refine (rsmall_any _ _ _).mono ?_; rintro e w' ⟨rfl, rfl⟩) | (go_at_call 7; refine (prime_any _ _ hT2 hn).mono ?_; rintro e w' ⟨rfl, rfl⟩) | (go_at_call 21; refine (lprime_any _ _ hn).mono ?_; rintro e w3 ⟨rfl, hb3⟩))
      go_ret
      exact ⟨rfl, hb2.trans (hb3.mono hb2.size)⟩
end Go.Proofs.YtildfmadggmdaaaDoor
