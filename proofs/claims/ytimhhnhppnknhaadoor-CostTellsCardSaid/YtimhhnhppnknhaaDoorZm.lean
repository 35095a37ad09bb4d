/- LAYER 15: the library's math: IsNaN, Abs, IsInf, Signbit, Copysign, Inf, normalize, Frexp, Ldexp. -/
import Derived.Test.YtimhhnhppnknhaaDoorZl
import Derived.Test.YtimhhnhppnknhaaDoorFa
namespace Go.Proofs.YtimhhnhppnknhaaDoor
set_option maxRecDepth 100000
open Go Go.RowKit

theorem misnan_any (b : Nat) (hb : b < 2 ^ 64) (w : World) : Calls Tryd.prog 20 #[.float .f64 b] w fun e w' => e = .returned (.bool (nanC b)) ∧ w = w' := by
  cases hn : nanC b with
  | true =>
    have o := order_nan b hb hn
    go_enter Tryd.func20, Tryd.ntmps20
    go_wp2
    go_ret
    exact ⟨rfl, rfl⟩
  | false =>
    have o := order_eq b hb hn
    go_enter Tryd.func20, Tryd.ntmps20
    go_wp2
    go_ret
    exact ⟨rfl, rfl⟩
theorem mabs_any (b : Nat) (hb : b < 2 ^ 64) (w : World) : Calls Tryd.prog 24 #[.float .f64 b] w fun e w' => e = .returned (.float .f64 (magC b)) ∧ w = w' := by
  have h1 := bits_abs b hb
  generalize magC b = m at *
  go_enter Tryd.func24, Tryd.ntmps24
  go_wp2
  go_ret
  exact ⟨rfl, rfl⟩
theorem mag_nan (b : Nat) : nanC b = decide (2047 * 2 ^ 52 < magC b) := rfl
theorem mag_lt (b : Nat) : magC b < 2 ^ 63 := by unfold magC; omega
theorem misinf_any (b : Nat) (hb : b < 2 ^ 64) (w : World) : Calls Tryd.prog 22 #[.float .f64 b, .int .i64 0] w fun e w' => e = .returned (.bool (decide (magC b = 2047 * 2 ^ 52))) ∧ w = w' := by
  have hm := mag_lt b
  have ha := Lib.hid (mabs_any b hb w)
  obtain ⟨V, hV⟩ : ∃ V, V = decide (magC b = 2047 * 2 ^ 52) := ⟨_, rfl⟩
  rw [← hV]
  have HV := Lib.hid hV
  clear hV
  generalize magC b = m at *
  rcases Nat.lt_trichotomy m (2047 * 2 ^ 52) with h | h | h
  · have HW := Lib.hid (HV.out.trans (decide_eq_false (by omega)))
    have o : FloatKind.f64.format.order m 9218868437227405311 = some .lt ∨ FloatKind.f64.format.order m 9218868437227405311 = some .eq := by
      by_cases h2 : m = 9218868437227405311
      · subst h2; exact .inr (by decide +kernel)
      · exact .inl (order_lt m _ (by omega) (by omega) (by omega))
    clear HV hm h
    rcases o with o | o
    all_goals
      go_enter Tryd.func22, Tryd.ntmps22
      go_wp2_with (go_at_call 24; refine ha.out.mono ?_; rintro e w' ⟨rfl, rfl⟩)
      go_ret
      exact ⟨by rw [HW.out]; rfl, rfl⟩
  · have HW := Lib.hid (HV.out.trans (decide_eq_true h))
    have o : FloatKind.f64.format.order m 9218868437227405311 = some .gt := order_gt m _ (by omega) (by omega) (by omega)
    clear HV hm h
    go_enter Tryd.func22, Tryd.ntmps22
    go_wp2_with (go_at_call 24; refine ha.out.mono ?_; rintro e w' ⟨rfl, rfl⟩)
    go_ret
    exact ⟨by rw [HW.out]; rfl, rfl⟩
  · have HW := Lib.hid (HV.out.trans (decide_eq_false (by omega)))
    have hn : nanC m = true := by unfold nanC magC; rw [decide_eq_true_iff]; omega
    have o : FloatKind.f64.format.order m 9218868437227405311 = none := order_nan_left m _ (by omega) (by omega) hn
    clear HV hm h hn
    go_enter Tryd.func22, Tryd.ntmps22
    go_wp2_with (go_at_call 24; refine ha.out.mono ?_; rintro e w' ⟨rfl, rfl⟩)
    go_ret
    exact ⟨by rw [HW.out]; rfl, rfl⟩
theorem msign_any (b : Nat) (hb : b < 2 ^ 64) (w : World) : Calls Tryd.prog 21 #[.float .f64 b] w fun e w' => e = .returned (.bool (negC b)) ∧ w = w' := by
  cases hn : negC b with
  | true =>
    have h := of_decide_eq_true hn
    have h1 : IntKind.i64.wrap (b : Int) = (b : Int) - 18446744073709551616 := by rw [IntKind.wrap_i64]; omega
    have h2 : decide ((b : Int) - 18446744073709551616 < 0) = true := decide_eq_true (by omega)
    clear hn h
    go_enter Tryd.func21, Tryd.ntmps21
    go_wp2
    go_ret
    exact ⟨rfl, rfl⟩
  | false =>
    have h := of_decide_eq_false hn
    have h1 : IntKind.i64.wrap (b : Int) = (b : Int) := by rw [IntKind.wrap_i64]; omega
    clear hn h
    go_enter Tryd.func21, Tryd.ntmps21
    go_wp2
    go_ret
    exact ⟨rfl, rfl⟩
/-- Copysign with -1. -/
theorem mcopy_any (b : Nat) (hb : b < 2 ^ 64) (w : World) : Calls Tryd.prog 19 #[.float .f64 b, .float .f64 13830554455654793216] w fun e w' => e = .returned (.float .f64 (2 ^ 63 + magC b)) ∧ w = w' := by
  have h1 := bits_abs b hb
  have hm := mag_lt b
  generalize magC b = m at *
  have h2 : bits .and .u64 13830554455654793216 9223372036854775808 = 9223372036854775808 := by decide +kernel
  have h3 : bits .or .u64 (m : Int) 9223372036854775808 = ((2 ^ 63 + m : Nat) : Int) := by
    refine (u64_or_nat m 9223372036854775808 (by omega) (by omega)).trans ?_
    rw [Nat.or_comm, show 9223372036854775808 = 2 ^ 63 * 1 from rfl, ← Nat.two_pow_add_eq_or_of_lt hm]
  generalize 2 ^ 63 + m = M at *
  clear hm
  go_enter Tryd.func19, Tryd.ntmps19
  go_wp2
  go_ret
  exact ⟨rfl, rfl⟩
/-- Copysign of 0 with what isn't below 0. -/
theorem mcopy0_any (b : Nat) (hb : b < 2 ^ 63) (w : World) : Calls Tryd.prog 19 #[.float .f64 0, .float .f64 b] w fun e w' => e = .returned (.float .f64 0) ∧ w = w' := by
  have h1 : bits .andNot .u64 0 9223372036854775808 = 0 := by decide +kernel
  have h2 : bits .and .u64 (b : Int) 9223372036854775808 = 0 := by
    rw [bits_sgn b (by omega), show negC b = false by unfold negC; rw [decide_eq_false_iff_not]; omega]; rfl
  have h3 : bits .or .u64 0 0 = 0 := by decide +kernel
  go_enter Tryd.func19, Tryd.ntmps19
  go_wp2
  go_ret
  exact ⟨rfl, rfl⟩
theorem mnorm_great (a : Nat) (h1 : 2 ^ 52 ≤ a) (h2 : a < 2047 * 2 ^ 52) (w : World) : Calls Tryd.prog 40 #[.float .f64 a] w fun e w' => e = .returned (.tuple #[.float .f64 a, .int .i64 0]) ∧ w = w' := by
  have ha := mabs_any a (by omega) w
  rw [show magC a = a by unfold magC; omega] at ha
  have ha := Lib.hid ha
  have o : FloatKind.f64.format.order a 4503599627370496 = some .gt ∨ FloatKind.f64.format.order a 4503599627370496 = some .eq := by
    by_cases h3 : a = 4503599627370496
    · subst h3; exact .inr (by decide +kernel)
    · exact .inl (order_gt a _ (by omega) (by omega) (by omega))
  clear h1 h2
  rcases o with o | o
  all_goals
    go_enter Tryd.func40, Tryd.ntmps40
    go_wp2_with (go_at_call 24; refine ha.out.mono ?_; rintro e w' ⟨rfl, rfl⟩)
    go_ret2
    exact ⟨rfl, rfl⟩
theorem mnorm_small (a k r : Nat) (h : a < 2 ^ 52) (hk : k ≤ 52) (hr : r < 2 ^ 52) (e : a * 2 ^ k = 2 ^ 52 + r) (w : World) : Calls Tryd.prog 40 #[.float .f64 a] w fun e w' => e = .returned (.tuple #[.float .f64 ((53 - k) * 2 ^ 52 + r), .int .i64 (-52)]) ∧ w = w' := by
  have ha := mabs_any a (by omega) w
  rw [show magC a = a by unfold magC; omega] at ha
  have ha := Lib.hid ha
  have o : FloatKind.f64.format.order a 4503599627370496 = some .lt := order_lt a _ (by omega) (by omega) (by omega)
  have hmul : ∀ w', (binOp .mul 24 (.float .f64 a) (.float .f64 4841369599423283200)).run Tryd.prog w' = .ok (.float .f64 ((53 - k) * 2 ^ 52 + r)) w' := fun w' => run_float_arith w' .mul _ .f64 _ _ _ (mul_small a k r h hk hr e)
  clear h hk hr e
  generalize (53 - k) * 2 ^ 52 + r = M at *
  go_enter Tryd.func40, Tryd.ntmps40
  go_wp2_with (go_at_call 24; refine ha.out.mono ?_; rintro e w' ⟨rfl, rfl⟩)
  go_ret2
  exact ⟨rfl, rfl⟩
end Go.Proofs.YtimhhnhppnknhaaDoor
