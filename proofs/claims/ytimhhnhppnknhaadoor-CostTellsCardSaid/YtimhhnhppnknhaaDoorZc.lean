/- LAYER 15: package cost: Parts. -/
import Derived.Test.YtimhhnhppnknhaaDoorZq
import Derived.Test.YtimhhnhppnknhaaDoorZn
import Derived.Test.YtimhhnhppnknhaaDoorFd
import Derived.BigRegion
namespace Go.Proofs.YtimhhnhppnknhaaDoor
set_option maxRecDepth 100000
open Go Go.RowKit

set_option maxHeartbeats 4000000 in
theorem cparts_any (b : Nat) (hb : b < 2 ^ 64) (w : World) (hE : EnvC w) : Calls Tryd.prog 8 #[.float .f64 b] w fun e w' => e = .returned (.tuple #[.bool (partsC b).1, .int .u64 ((partsC b).2.1 : Int), .int .i64 (partsC b).2.2]) ∧ Below w.heap.size w w' := by
  have hnan := misnan_any b hb w
  have hinf := misinf_any b hb w
  have hsgn := Lib.hid (msign_any b hb w)
  obtain ⟨V, hV⟩ : ∃ V, V = partsC b := ⟨_, rfl⟩
  rw [← hV]
  have HV := Lib.hid hV
  clear hV
  cases hn : nanC b with
  | true =>
    rw [hn] at hnan
    have hnan := Lib.hid hnan
    have HW := Lib.hid (HV.out.trans (parts_nan b hn))
    clear HV hn hinf hsgn
    go_enter Tryd.func8, Tryd.ntmps8
    go_wp2_with (go_at_call 20; refine hnan.out.mono ?_; rintro e w' ⟨rfl, rfl⟩)
    go_ret3
    exact ⟨by rw [HW.out]; rfl, Below.refl _ _⟩
  | false =>
    rw [hn] at hnan
    have hnan := Lib.hid hnan
    by_cases h0 : magC b = 0
    · have o := order_zero b hb hn h0
      have HW := Lib.hid (HV.out.trans (parts_edge b hn (.inr h0)))
      clear HV hn hinf h0
      generalize negC b = g at *
      go_enter Tryd.func8, Tryd.ntmps8
      go_wp2_with (first
        | (go_at_call 20; refine hnan.out.mono ?_; rintro e w' ⟨rfl, rfl⟩)
        | (go_at_call 21; refine hsgn.out.mono ?_; rintro e w' ⟨rfl, rfl⟩))
      go_ret3
      exact ⟨by rw [HW.out]; rfl, Below.refl _ _⟩
    · have o1 := order_other b hb hn h0
      by_cases h1 : magC b = 2047 * 2 ^ 52
      · rw [decide_eq_true h1] at hinf
        have hinf := Lib.hid hinf
        have HW := Lib.hid (HV.out.trans (parts_edge b hn (.inl h1)))
        clear HV hn h0 h1
        generalize negC b = g at *
        rcases o1 with o | o
        all_goals
          go_enter Tryd.func8, Tryd.ntmps8
          go_wp2_with (first
            | (go_at_call 20; refine hnan.out.mono ?_; rintro e w' ⟨rfl, rfl⟩)
            | (go_at_call 22; refine hinf.out.mono ?_; rintro e w' ⟨rfl, rfl⟩)
            | (go_at_call 21; refine hsgn.out.mono ?_; rintro e w' ⟨rfl, rfl⟩))
          go_ret3
          exact ⟨by rw [HW.out]; rfl, Below.refl _ _⟩
      · rw [decide_eq_false h1] at hinf
        have hinf := Lib.hid hinf
        have hp := parts_fin b hn (by rintro (h | h); exact h1 h; exact h0 h)
        have hfin : FinC (magC b) := by
          have hl : ¬ 2047 * 2 ^ 52 < magC b := of_decide_eq_false (show decide (2047 * 2 ^ 52 < magC b) = false from hn)
          unfold FinC; omega
        have habs := Lib.hid (mabs_any b hb w)
        generalize magC b = a at *
        obtain ⟨E, r, x, hN⟩ := norm_of a hfin
        obtain ⟨b1, b2, b3, b4⟩ := norm_bd a E r x hN
        obtain ⟨q1, q2⟩ := norm_parts a E r x hfin hN
        have hfr := mfrexp_any a E r x hfin hN w
        rw [← q1, ← q2] at hp
        have HW := Lib.hid (HV.out.trans hp)
        obtain ⟨Z, hZ⟩ : ∃ Z, Z = 1022 * 2 ^ 52 + r := ⟨_, rfl⟩
        obtain ⟨Y, hY⟩ : ∃ Y, Y = 1075 * 2 ^ 52 + r := ⟨_, rfl⟩
        obtain ⟨M, hM⟩ : ∃ M, M = 2 ^ 52 + r := ⟨_, rfl⟩
        have hmul : ∀ w', (binOp .mul 24 (.float .f64 Z) (.float .f64 4845873199050653696)).run Tryd.prog w' = .ok (.float .f64 Y) w' := fun w' => run_float_arith w' .mul _ .f64 _ _ _ (by rw [hZ, hY]; exact mul_part r b3)
        have hcv : ∀ w', (convert 24 22 (.float .f64 Y)).run Tryd.prog w' = .ok (.int .u64 (M : Int)) w' := fun w' => run_convert_float_int w' _ _ .f64 .u64 Y (M : Int) (by kernel_rfl) Tryd.underlying22 (by rw [hY, hM]; exact to_int r b3)
        have htz := tz_any M (by omega) (by omega) w hE.tz
        obtain ⟨c1, c2⟩ := odd_twos M (by omega)
        have ht : twosC M ≤ 53 := twos_le M 53 (by omega) (by omega)
        rw [← hZ] at hfr
        rw [← hM] at HW
        have hfr := Lib.hid hfr
        have htz := Lib.hid htz
        generalize oddC M = m at *
        generalize twosC M = t at *
        have hmin : min t 64 = t := by omega
        have hsh : ((M : Nat) : Int) / 2 ^ t = (m : Int) := by
          rw [c2, Int.natCast_mul, Int.natCast_pow]
          exact Int.mul_ediv_cancel _ (by have := Nat.pow_pos (n := t) (show 0 < 2 by omega); omega)
        obtain ⟨P, hP⟩ : ∃ P : Int, P = (E : Int) - 1022 + x := ⟨_, rfl⟩
        rw [← hP] at hfr HW
        have w1 : IntKind.i64.wrap (P - 53) = P - 53 := by rw [IntKind.wrap_i64]; omega
        have w2 : IntKind.i64.wrap (P - 53 + (t : Int)) = P - 53 + (t : Int) := by rw [IntKind.wrap_i64]; omega
        clear HV hn h0 h1 hp hfin hN b1 b2 b3 b4 q1 q2 hZ hY hM c1 c2 ht hP
        rcases o1 with o | o
        all_goals
          go_enter Tryd.func8, Tryd.ntmps8
          go_wp2_with (first
            | (go_at_call 20; refine hnan.out.mono ?_; rintro e w' ⟨rfl, rfl⟩)
            | (go_at_call 22; refine hinf.out.mono ?_; rintro e w' ⟨rfl, rfl⟩)
            | (go_at_call 24; refine habs.out.mono ?_; rintro e w' ⟨rfl, rfl⟩)
            | (go_at_call 23; refine hfr.out.mono ?_; rintro e w' ⟨rfl, rfl⟩)
            | (go_at_call 25; refine htz.out.mono ?_; rintro e w' ⟨rfl, rfl⟩)
            | (go_at_call 21; refine hsgn.out.mono ?_; rintro e w' ⟨rfl, rfl⟩))
          go_region
          go_wp2
          go_ret3
          exact ⟨by rw [HW.out]; rfl, (Below.refl _ _).drew⟩
end Go.Proofs.YtimhhnhppnknhaaDoor
