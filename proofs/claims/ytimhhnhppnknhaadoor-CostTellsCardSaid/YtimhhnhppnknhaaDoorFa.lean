/- LAYER 15: numbers with a point in the model: math.Float64bits, Float64frombits, NaN, Inf, Copysign; the document's Same, rank, AtMost. -/
import Derived.Test.YtimhhnhppnknhaaDoorCx
import Derived.Test.YtimhhnhppnknhaaDoorMw
import Derived.Laws.Externs
namespace Go.Proofs.YtimhhnhppnknhaaDoor
set_option maxRecDepth 100000
open Go Go.RowKit

@[go_sem] theorem run_f64bits (b : Nat) (w : World) : (callFunc 26 #[.float .f64 b]).run Tryd.prog w = .ok (.value (.int .u64 b)) w := by
  rw [run_callFunc_extern (fn := Tryd.f26) (e := Extern.MathFloatBits.float64bits) Tryd.func26 (by kernel_rfl) (by kernel_rfl) (by kernel_rfl) (by kernel_rfl)]; rfl
@[go_sem] theorem run_f64from (n : Int) (w : World) : (callFunc 7 #[.int .u64 n]).run Tryd.prog w = .ok (.value (.float .f64 n.toNat)) w := by
  rw [run_callFunc_extern (fn := Tryd.f7) (e := Extern.MathFloatBits.float64frombits) Tryd.func7 (by kernel_rfl) (by kernel_rfl) (by kernel_rfl) (by kernel_rfl)]; rfl
theorem fsame_any (a b : Nat) (w : World) : Calls Tryd.prog 14 #[.float .f64 a, .float .f64 b] w fun e w' => e = .returned (.bool (decide (a = b))) ∧ w = w' := by
  go_enter Tryd.func14, Tryd.ntmps14
  go_wp2
  go_ret
  refine ⟨?_, rfl⟩
  show Ending.returned (.bool ((a : Int) == (b : Int))) = _
  congr 2
  rw [Bool.eq_iff_iff, beq_iff_eq, decide_eq_true_iff]
  omega
theorem fnan_any (w : World) : Calls Tryd.prog 17 #[] w fun e w' => e = .returned (.float .f64 9221120237041090561) ∧ w = w' := by
  go_enter Tryd.func17, Tryd.ntmps17
  go_wp2
  go_ret
  exact ⟨rfl, rfl⟩
theorem finf_any (w : World) : Calls Tryd.prog 18 #[.int .i64 1] w fun e w' => e = .returned (.float .f64 9218868437227405312) ∧ w = w' := by
  go_enter Tryd.func18, Tryd.ntmps18
  go_wp2
  go_ret
  exact ⟨rfl, rfl⟩
theorem fminf_any (w : World) : Calls Tryd.prog 18 #[.int .i64 (-1)] w fun e w' => e = .returned (.float .f64 18442240474082181120) ∧ w = w' := by
  go_enter Tryd.func18, Tryd.ntmps18
  go_wp2
  go_ret
  exact ⟨rfl, rfl⟩
theorem fmzero_any (w : World) : Calls Tryd.prog 19 #[.float .f64 0, .float .f64 13830554455654793216] w fun e w' => e = .returned (.float .f64 9223372036854775808) ∧ w = w' := by
  go_enter Tryd.func19, Tryd.ntmps19
  go_wp2
  go_ret
  exact ⟨rfl, rfl⟩
theorem frank_any (b : Nat) (hb : b < 2 ^ 64) (w : World) : Calls Tryd.prog 33 #[.float .f64 b] w fun e w' => e = .returned (.int .i64 (rankC b)) ∧ w = w' := by
  have hm : magC b = b % 9223372036854775808 := rfl
  have HR := Lib.hid (show rankC b = if negC b then -(magC b : Int) else (magC b : Int) from rfl)
  have ht : ((b : Int)).tmod 9223372036854775808 = (magC b : Int) := by rw [Int.tmod_eq_emod_of_nonneg (by omega)]; omega
  have hw : IntKind.i64.wrap (magC b : Int) = (magC b : Int) := by rw [IntKind.wrap_i64]; omega
  have hw2 : IntKind.i64.wrap (-(magC b : Int)) = -(magC b : Int) := by rw [IntKind.wrap_i64]; omega
  cases hn : negC b with
  | true =>
    have h1 : ((b : Int) / 9223372036854775808 == 1) = true := by
      have : b / 2 ^ 63 = 1 := of_decide_eq_true hn
      rw [beq_iff_eq]; omega
    have HS := Lib.hid (show rankC b = -(magC b : Int) by rw [HR.out, hn]; rfl)
    clear HR hn hm
    generalize magC b = m at *
    go_enter Tryd.func33, Tryd.ntmps33
    go_wp2
    go_ret
    exact ⟨by rw [HS.out]; rfl, rfl⟩
  | false =>
    have h1 : ((b : Int) / 9223372036854775808 == 1) = false := by
      have : ¬ b / 2 ^ 63 = 1 := of_decide_eq_false hn
      rw [beq_eq_false_iff_ne]; omega
    have HS := Lib.hid (show rankC b = (magC b : Int) by rw [HR.out, hn]; rfl)
    clear HR hn hm
    generalize magC b = m at *
    go_enter Tryd.func33, Tryd.ntmps33
    go_wp2
    go_ret
    exact ⟨by rw [HS.out]; rfl, rfl⟩
def atMostC (a b : Nat) : Bool := !nanC a && !nanC b && decide (rankC a ≤ rankC b)
/-- How numbers stand to each other, in the walk's own words. -/
theorem order_of (a b : Nat) (ha : a < 2 ^ 64) (hb : b < 2 ^ 64) : FloatKind.f64.format.order a b = if nanC a = true ∨ nanC b = true then none else some (compare (rankC a) (rankC b)) := order_rank a b ha hb
theorem compare_self (x : Int) : compare x x = .eq := by
  show compareOfLessAndEq x x = .eq
  unfold compareOfLessAndEq
  rw [if_neg (by omega), if_pos rfl]
theorem order_nan (a : Nat) (ha : a < 2 ^ 64) (h : nanC a = true) : FloatKind.f64.format.order a a = none := by rw [order_of a a ha ha, if_pos (.inl h)]
theorem order_eq (a : Nat) (ha : a < 2 ^ 64) (h : nanC a = false) : FloatKind.f64.format.order a a = some .eq := by
  rw [order_of a a ha ha, if_neg (by rw [h]; simp), compare_self]
theorem fatmost_any (a b : Nat) (ha : a < 2 ^ 64) (hb : b < 2 ^ 64) (w : World) : Calls Tryd.prog 16 #[.float .f64 a, .float .f64 b] w fun e w' => e = .returned (.bool (atMostC a b)) ∧ w = w' := by
  have HV := Lib.hid (show atMostC a b = (!nanC a && !nanC b && decide (rankC a ≤ rankC b)) from rfl)
  have hra := Lib.hid (frank_any a ha w)
  have hrb := Lib.hid (frank_any b hb w)
  have tok : True := trivial
  generalize atMostC a b = V at *
  cases hna : nanC a with
  | true =>
    have HW := Lib.hid (show V = false by rw [HV.out, hna]; rfl)
    have h1 := order_nan a ha hna
    clear HV hna
    go_enter Tryd.func16, Tryd.ntmps16
    go_wp2
    go_ret
    exact ⟨by rw [HW.out]; rfl, rfl⟩
  | false =>
    have h1 := order_eq a ha hna
    cases hnb : nanC b with
    | true =>
      have HW := Lib.hid (show V = false by rw [HV.out, hnb, Bool.not_true, Bool.and_false]; rfl)
      have h2 := order_nan b hb hnb
      clear HV hna hnb
      go_enter Tryd.func16, Tryd.ntmps16
      go_wp2
      go_ret
      exact ⟨by rw [HW.out]; rfl, rfl⟩
    | false =>
      have HW := Lib.hid (show V = decide (rankC a ≤ rankC b) by rw [HV.out, hna, hnb]; rfl)
      have h2 := order_eq b hb hnb
      clear HV hna hnb
      generalize rankC a = x at *
      generalize rankC b = y at *
      go_enter Tryd.func16, Tryd.ntmps16
      go_wp2_with (first
        | (go_at_call 33; have _t := tok; refine hra.out.mono ?_; rintro e w' ⟨rfl, rfl⟩; clear tok)
        | (go_at_call 33; refine hrb.out.mono ?_; rintro e w' ⟨rfl, rfl⟩))
      go_ret
      exact ⟨by rw [HW.out]; rfl, rfl⟩
end Go.Proofs.YtimhhnhppnknhaaDoor
