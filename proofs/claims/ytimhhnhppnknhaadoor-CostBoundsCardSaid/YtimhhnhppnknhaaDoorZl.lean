/- LAYER 15: what the library's Frexp and Ldexp do to a number's bits: numbers alone. No Go function is spoken of here. -/
import Derived.Test.YtimhhnhppnknhaaDoorCx
import Derived.Laws.BitsAllLaws
namespace Go.Proofs.YtimhhnhppnknhaaDoor
set_option maxRecDepth 100000
open Go Go.RowKit

/-! Bits cut off and laid in, in the walk's own words. -/
theorem and_pow (x i : Nat) : x &&& 2 ^ i = if x.testBit i then 2 ^ i else 0 := by
  apply Nat.eq_of_testBit_eq
  intro j
  rw [Nat.testBit_and, Nat.testBit_two_pow]
  by_cases h : i = j
  · subst h
    cases hx : x.testBit i <;> simp
  · cases hx : x.testBit i <;> simp [h]
theorem bits_abs (b : Nat) (hb : b < 2 ^ 64) : bits .andNot .u64 (b : Int) 9223372036854775808 = ((magC b : Nat) : Int) := by
  refine (u64_andNot_nat b 9223372036854775808 (by omega) (by omega)).trans ?_
  rw [show 18446744073709551615 - 9223372036854775808 = 2 ^ 63 - 1 from rfl, Nat.and_two_pow_sub_one_eq_mod]; rfl
theorem bits_sgn (b : Nat) (hb : b < 2 ^ 64) : bits .and .u64 (b : Int) 9223372036854775808 = ((if negC b then 2 ^ 63 else 0 : Nat) : Int) := by
  refine (u64_and_nat b 9223372036854775808 (by omega) (by omega)).trans ?_
  rw [show 9223372036854775808 = 2 ^ 63 from rfl, and_pow]
  have : b.testBit 63 = negC b := by
    rw [Nat.testBit_eq_decide_div_mod_eq]
    unfold negC
    rw [show b / 2 ^ 63 % 2 = b / 2 ^ 63 by omega]
  rw [this]
theorem and_frac (x : Nat) (hx : x < 2 ^ 63) : x &&& 9227875636482146303 = x % 2 ^ 52 := by
  have e : 9227875636482146303 = 2 ^ 63 ||| (2 ^ 52 - 1) := by decide
  rw [e, Nat.and_or_distrib_left, and_pow, Nat.testBit_lt_two_pow hx, Nat.and_two_pow_sub_one_eq_mod]
  simp
theorem bits_frac (x : Nat) (hx : x < 2 ^ 63) : bits .andNot .u64 (x : Int) 9218868437227405312 = ((x % 2 ^ 52 : Nat) : Int) := by
  refine (u64_andNot_nat x 9218868437227405312 (by omega) (by omega)).trans ?_
  rw [show 18446744073709551615 - 9218868437227405312 = 9227875636482146303 from rfl, and_frac x hx]
theorem or_exp (r E : Nat) (hr : r < 2 ^ 52) : r ||| E * 2 ^ 52 = E * 2 ^ 52 + r := by
  rw [Nat.or_comm, Nat.mul_comm, Nat.two_pow_add_eq_or_of_lt hr]
theorem bits_lay (r E : Nat) (hr : r < 2 ^ 52) (hE : E < 2048) : bits .or .u64 (r : Int) ((E * 2 ^ 52 : Nat) : Int) = ((E * 2 ^ 52 + r : Nat) : Int) := by
  refine (u64_or_nat r (E * 2 ^ 52) (by omega) (by omega)).trans ?_
  rw [or_exp r E hr]
theorem bits_exp (E : Nat) (hE : E < 2048) : bits .and .u64 (E : Int) 2047 = (E : Int) := by
  refine (u64_and_nat E 2047 (by omega) (by omega)).trans ?_
  rw [show 2047 = 2 ^ 11 - 1 from rfl, Nat.and_two_pow_sub_one_eq_mod, Nat.mod_eq_of_lt (by omega)]
/-! A number by its exponent's field E and its fraction r. -/
theorem pack_div (E r : Nat) (hr : r < 2 ^ 52) : (E * 2 ^ 52 + r) / 2 ^ 52 = E := by omega
theorem pack_mod (E r : Nat) (hr : r < 2 ^ 52) : (E * 2 ^ 52 + r) % 2 ^ 52 = r := by omega
theorem pack_mag (E r : Nat) (hE : E < 2048) (hr : r < 2 ^ 52) : magC (E * 2 ^ 52 + r) = E * 2 ^ 52 + r := by unfold magC; omega
theorem pack_neg (E r : Nat) (hE : E < 2048) (hr : r < 2 ^ 52) : negC (E * 2 ^ 52 + r) = false := by unfold negC; rw [decide_eq_false_iff_not]; omega
theorem pack_sig (E r : Nat) (h1 : 1 ≤ E) (hr : r < 2 ^ 52) : sigC (E * 2 ^ 52 + r) = 2 ^ 52 + r := by
  unfold sigC; rw [pack_div E r hr, pack_mod E r hr, if_pos (by omega)]; omega
theorem pack_pow (E r : Nat) (h1 : 1 ≤ E) (hr : r < 2 ^ 52) : powC (E * 2 ^ 52 + r) = (E : Int) - 1075 := by
  unfold powC; rw [pack_div E r hr, if_pos (by omega)]
theorem pack_fin (E r : Nat) (h1 : 1 ≤ E) (h2 : E ≤ 2046) (hr : r < 2 ^ 52) : FinC (E * 2 ^ 52 + r) := by unfold FinC; omega
theorem pack_read (E r : Nat) (h1 : 1 ≤ E) (h2 : E ≤ 2046) (hr : r < 2 ^ 52) : Ieee.double.read (E * 2 ^ 52 + r) = .number false (2 ^ 52 + r) ((E : Int) - 1075) := by
  rw [read_fin _ (by omega) (by rw [pack_mag E r (by omega) hr]; omega), pack_neg E r (by omega) hr, pack_mag E r (by omega) hr, pack_sig E r h1 hr, pack_pow E r h1 hr]
theorem pack_bits (E r : Nat) (h1 : 1 ≤ E) (hr : r < 2 ^ 52) : bitsC (2 ^ 52 + r) ((E : Int) - 1075) = E * 2 ^ 52 + r := by
  unfold bitsC
  rw [if_neg (by omega), show ((E : Int) - 1075 + 1075).toNat = E by omega]; omega
theorem pack_fit (E r : Nat) (h1 : 1 ≤ E) (h2 : E ≤ 2046) (hr : r < 2 ^ 52) : FitC (2 ^ 52 + r) ((E : Int) - 1075) := .inr ⟨by omega, by omega, by omega, by omega⟩
theorem pack_of (a : Nat) (h : 2 ^ 52 ≤ a) (h2 : a < 2047 * 2 ^ 52) : ∃ E r, 1 ≤ E ∧ E ≤ 2046 ∧ r < 2 ^ 52 ∧ a = E * 2 ^ 52 + r := ⟨a / 2 ^ 52, a % 2 ^ 52, by omega, by omega, by omega, by omega⟩
/-- How two such numbers stand to each other. -/
theorem order_small (a b : Nat) (ha : a ≤ 2047 * 2 ^ 52) (hb : b ≤ 2047 * 2 ^ 52) : FloatKind.f64.format.order a b = some (compare (a : Int) (b : Int)) := by
  have na : nanC a = false := by unfold nanC magC; rw [decide_eq_false_iff_not]; omega
  have nb : nanC b = false := by unfold nanC magC; rw [decide_eq_false_iff_not]; omega
  have ga : negC a = false := by unfold negC; rw [decide_eq_false_iff_not]; omega
  have gb : negC b = false := by unfold negC; rw [decide_eq_false_iff_not]; omega
  have e : FloatKind.f64.format.order a b = if nanC a = true ∨ nanC b = true then none else some (compare (rankC a) (rankC b)) := order_rank a b (by omega) (by omega)
  rw [e, if_neg (by rw [na, nb]; simp)]
  unfold rankC
  rw [ga, gb, show magC a = a by unfold magC; omega, show magC b = b by unfold magC; omega]; rfl
theorem order_lt (a b : Nat) (ha : a ≤ 2047 * 2 ^ 52) (hb : b ≤ 2047 * 2 ^ 52) (h : a < b) : FloatKind.f64.format.order a b = some .lt := by
  rw [order_small a b ha hb, cmp_lt (by omega)]
theorem order_gt (a b : Nat) (ha : a ≤ 2047 * 2 ^ 52) (hb : b ≤ 2047 * 2 ^ 52) (h : b < a) : FloatKind.f64.format.order a b = some .gt := by
  rw [order_small a b ha hb, cmp_gt (by omega)]
theorem order_nan_left (a b : Nat) (ha : a < 2 ^ 64) (hb : b < 2 ^ 64) (h : nanC a = true) : FloatKind.f64.format.order a b = none := by
  have e : FloatKind.f64.format.order a b = if nanC a = true ∨ nanC b = true then none else some (compare (rankC a) (rankC b)) := order_rank a b ha hb
  rw [e, if_pos (.inl h)]
/-! Doubled till it has 53 bits. -/
theorem up_53 (m : Nat) (h0 : 0 < m) (h : m < 2 ^ 53) : ∃ k r : Nat, k ≤ 52 ∧ r < 2 ^ 52 ∧ m * 2 ^ k = 2 ^ 52 + r := by
  have h1 := Nat.log2_self_le (n := m) (by omega)
  have h2 : m < 2 ^ (m.log2 + 1) := (Nat.log2_lt (by omega)).1 (Nat.lt_succ_self _)
  have h3 : m.log2 < 53 := (Nat.log2_lt (by omega)).2 h
  have e : 2 ^ 52 = 2 ^ m.log2 * 2 ^ (52 - m.log2) := by rw [← Nat.pow_add, show m.log2 + (52 - m.log2) = 52 by omega]
  have hlo : 2 ^ 52 ≤ m * 2 ^ (52 - m.log2) := by
    calc 2 ^ 52 = 2 ^ m.log2 * 2 ^ (52 - m.log2) := e
      _ ≤ m * 2 ^ (52 - m.log2) := Nat.mul_le_mul_right _ h1
  have hhi : m * 2 ^ (52 - m.log2) < 2 ^ 53 := by
    calc m * 2 ^ (52 - m.log2) < 2 ^ (m.log2 + 1) * 2 ^ (52 - m.log2) := Nat.mul_lt_mul_of_pos_right h2 (Nat.pow_pos (by omega))
      _ = 2 ^ 53 := by rw [← Nat.pow_add, show m.log2 + 1 + (52 - m.log2) = 53 by omega]
  exact ⟨52 - m.log2, m * 2 ^ (52 - m.log2) - 2 ^ 52, by omega, by omega, by omega⟩
theorem odd_shift (m k : Nat) (h : m ≠ 0) : oddC (m * 2 ^ k) = oddC m ∧ twosC (m * 2 ^ k) = twosC m + k := by
  obtain ⟨o1, o2⟩ := odd_twos m h
  have e : m * 2 ^ k = oddC m * 2 ^ (twosC m + k) := by rw [Nat.pow_add, ← Nat.mul_assoc, ← o2]
  obtain ⟨p1, p2⟩ := odd_of (oddC m) o1 (twosC m + k)
  rw [e]
  exact ⟨p1, p2⟩
theorem shift_le (m k : Nat) (h1 : 2 ^ 52 ≤ m * 2 ^ k) (h2 : m * 2 ^ k < 2 ^ 53) : k ≤ 52 := by
  by_cases h : k ≤ 52
  · exact h
  · exfalso
    have h3 : 2 ^ 53 ≤ 2 ^ k := Nat.pow_le_pow_right (by omega) (by omega)
    have h4 : 0 < m := by
      rcases Nat.eq_zero_or_pos m with h0 | h0
      · rw [h0, Nat.zero_mul] at h1; omega
      · exact h0
    have h5 : 2 ^ k ≤ m * 2 ^ k := Nat.le_mul_of_pos_left _ h4
    omega
theorem shift_one (m a b : Nat) (h1 : 2 ^ 52 ≤ m * 2 ^ a) (h2 : m * 2 ^ a < 2 ^ 53) (h3 : 2 ^ 52 ≤ m * 2 ^ b) (h4 : m * 2 ^ b < 2 ^ 53) : a = b := by
  have ha := shift_le m a h1 h2
  have hb := shift_le m b h3 h4
  exact fit_one m a b 0 (.inr ⟨h1, h2, by omega, by omega⟩) (.inr ⟨h3, h4, by omega, by omega⟩)
/-! The products that Frexp, Ldexp and package cost make. -/
theorem mul_of (x y : Nat) (s t : Bool) (m n : Nat) (i j : Int) (hx : Ieee.double.read x = .number s m i) (hy : Ieee.double.read y = .number t n j) : Ieee.double.mul x y = some (Ieee.double.nearest (s ^^ t) (m * n) (i + j)) := by
  unfold Ieee.Format.mul
  rw [hx, hy]; rfl
theorem read_small (a : Nat) (h : a < 2 ^ 52) : Ieee.double.read a = .number false a (-1074) := by
  rw [read_fin a (by omega) (by unfold magC; omega)]
  have hm : magC a = a := by unfold magC; omega
  have hg : negC a = false := by unfold negC; rw [decide_eq_false_iff_not]; omega
  rw [hm, hg]
  unfold sigC powC
  rw [if_neg (by omega), if_neg (by omega), Nat.mod_eq_of_lt h]
theorem word_pos (a : Nat) : Ieee.double.word false a = a := rfl
/-- A small number times 2 to 52. -/
theorem mul_small (a k r : Nat) (h : a < 2 ^ 52) (hk : k ≤ 52) (hr : r < 2 ^ 52) (e : a * 2 ^ k = 2 ^ 52 + r) : floatBits .mul .f64 a 4841369599423283200 = some ((53 - k) * 2 ^ 52 + r) := by
  show Ieee.double.mul a 4841369599423283200 = _
  have h2 : Ieee.double.read 4841369599423283200 = .number false (2 ^ 52) 0 := by decide +kernel
  rw [mul_of _ _ _ _ _ _ _ _ (read_small a h) h2]
  rw [nearest_fit _ _ _ (2 ^ 52 + r) (((53 - k : Nat) : Int) - 1075) (pack_fit _ r (by omega) (by omega) hr) ?_, pack_bits _ r (by omega) hr]
  · rfl
  · by_cases hk0 : ((53 - k : Nat) : Int) - 1075 < -1074 + 0
    · refine .inr ⟨hk0, ?_⟩
      rw [← e, show ((-1074 : Int) + 0 - (((53 - k : Nat) : Int) - 1075)).toNat = k - 52 by omega]
      have : k = 52 := by omega
      subst this
      exact absurd hk0 (by decide)
    · refine .inl ⟨by omega, ?_⟩
      rw [← e, show (((53 - k : Nat) : Int) - 1075 - (-1074 + 0)).toNat = 52 - k by omega, Nat.mul_assoc, ← Nat.pow_add, show k + (52 - k) = 52 by omega]
/-- A half or more, times 2 to 53. -/
theorem mul_part (r : Nat) (hr : r < 2 ^ 52) : floatBits .mul .f64 (1022 * 2 ^ 52 + r) 4845873199050653696 = some (1075 * 2 ^ 52 + r) := by
  show Ieee.double.mul (1022 * 2 ^ 52 + r) 4845873199050653696 = _
  have h2 : Ieee.double.read 4845873199050653696 = .number false (2 ^ 52) 1 := by decide +kernel
  rw [mul_of _ _ _ _ _ _ _ _ (pack_read 1022 r (by omega) (by omega) hr) h2]
  rw [nearest_fit _ _ _ (2 ^ 52 + r) (((1075 : Nat) : Int) - 1075) (pack_fit _ r (by omega) (by omega) hr) (.inl ⟨by omega, by rw [show (((1075 : Nat) : Int) - 1075 - (((1022 : Nat) : Int) - 1075 + 1)).toNat = 52 by decide]⟩), pack_bits _ r (by omega) hr]
  rfl
theorem to_int (r : Nat) (hr : r < 2 ^ 52) : floatToIntVal .f64 (1075 * 2 ^ 52 + r) .u64 = some ((2 ^ 52 + r : Nat) : Int) := by
  have h1 : FloatKind.f64.decode (1075 * 2 ^ 52 + r) = .number false (2 ^ 52 + r) 0 := (pack_read 1075 r (by omega) (by omega) hr).trans (by rfl)
  have h2 : (FloatKind.f64.decode (1075 * 2 ^ 52 + r)).toInt .zero = some ((2 ^ 52 + r : Nat) : Int) := by
    rw [h1]
    show some (Ieee.signed false (Ieee.Toward.zero.cut false ((2 ^ 52 + r) <<< 0) 0) 0) = _
    have hc : Ieee.Toward.zero.cut false ((2 ^ 52 + r) <<< 0) 0 = 2 ^ 52 + r := by
      unfold Ieee.Toward.cut
      simp
    rw [hc]
    unfold Ieee.signed
    simp
  unfold floatToIntVal
  rw [h2]
  have a1 : IntKind.u64.min = 0 := rfl
  have a2 : IntKind.u64.max = 18446744073709551615 := rfl
  simp only
  rw [if_pos (by rw [a1, a2]; omega)]
theorem of_int (m k r : Nat) (hm : 0 < m) (hk : k ≤ 52) (hr : r < 2 ^ 52) (e : m * 2 ^ k = 2 ^ 52 + r) : floatOfInt .f64 (m : Int) = (1075 - k) * 2 ^ 52 + r := by
  have h : floatOfInt .f64 (m : Int) = Ieee.double.nearest false m 0 := by
    show Ieee.double.nearest (decide ((m : Int) < 0)) (m : Int).natAbs 0 = _
    rw [decide_eq_false (by omega)]; rfl
  rw [h, nearest_fit false m 0 (2 ^ 52 + r) (((1075 - k : Nat) : Int) - 1075) (pack_fit _ r (by omega) (by omega) hr) ?_, pack_bits _ r (by omega) hr]
  · rfl
  · by_cases hk0 : k = 0
    · subst hk0
      rw [Nat.pow_zero, Nat.mul_one] at e
      exact .inl ⟨by omega, by rw [e, show (((1075 - 0 : Nat) : Int) - 1075 - 0).toNat = 0 by decide, Nat.pow_zero, Nat.mul_one]⟩
    · exact .inr ⟨by omega, by rw [← e, show ((0 : Int) - (((1075 - k : Nat) : Int) - 1075)).toNat = k by omega]⟩
theorem of_zero : floatOfInt .f64 0 = 0 := by decide +kernel
theorem mul_one_pack (E r : Nat) (h1 : 1 ≤ E) (h2 : E ≤ 2046) (hr : r < 2 ^ 52) : floatBits .mul .f64 4607182418800017408 (E * 2 ^ 52 + r) = some (E * 2 ^ 52 + r) := by
  have hm := pack_mag E r (by omega) hr
  have h := mul_unit false 4607182418800017408 (E * 2 ^ 52 + r) read_one (by omega) (by rw [hm]; exact pack_fin E r h1 h2 hr)
  rw [hm, pack_neg E r (by omega) hr] at h
  exact h
/-- What is too small for a full significand. -/
def lowC (E r : Nat) : Nat := Ieee.double.nearest false (2 ^ 52 * (2 ^ 52 + r)) (-105 + ((E : Int) - 1075))
theorem mul_low (E r : Nat) (h1 : 1 ≤ E) (h2 : E ≤ 2046) (hr : r < 2 ^ 52) : floatBits .mul .f64 4368491638549381120 (E * 2 ^ 52 + r) = some (lowC E r) := by
  show Ieee.double.mul 4368491638549381120 (E * 2 ^ 52 + r) = _
  have hx : Ieee.double.read 4368491638549381120 = .number false (2 ^ 52) (-105) := by decide +kernel
  rw [mul_of _ _ _ _ _ _ _ _ hx (pack_read E r h1 h2 hr)]; rfl
theorem low_lt (E r : Nat) : lowC E r < 2 ^ 64 := Ieee.Format.nearest_lt Ieee.double false _ _
/-- What Ldexp answers of the bits of m (which is m·2^k = 2^52 + r ahead) and a power. -/
def ldC (k r : Nat) (p : Int) : Nat :=
  if p + 52 - k < -1075 then 0
  else if 1023 < p + 52 - k then 2047 * 2 ^ 52
  else if p + 52 - k < -1022 then lowC (p + 52 - k + 1076).toNat r
  else (p + 52 - k + 1023).toNat * 2 ^ 52 + r
theorem ld_lt (k r : Nat) (p : Int) (hr : r < 2 ^ 52) : ldC k r p < 2 ^ 64 := by
  unfold ldC
  split
  · omega
  · split
    · omega
    · split
      · exact low_lt _ _
      · omega
theorem ld_right (m k r a : Nat) (p : Int) (hk : k ≤ 52) (hr : r < 2 ^ 52) (e : m * 2 ^ k = 2 ^ 52 + r) (hf : FinC a) (ho : oddC (sigC a) = m) (hp : powC a + twosC (sigC a) = p) : ldC k r p = a := by
  obtain ⟨g1, g2⟩ := fit_of a hf
  obtain ⟨o1, o2⟩ := odd_twos (sigC a) (by have := sig_pos a hf; omega)
  rw [ho] at o1 o2
  generalize ht : twosC (sigC a) = t at *
  unfold ldC
  rcases g1 with ⟨h1, h2, h3⟩ | ⟨h1, h2, h3, h4⟩
  · have hkt : t < k := by
      by_cases hle : t < k
      · exact hle
      · exfalso
        have e2 : m * 2 ^ t = m * 2 ^ k * 2 ^ (t - k) := by rw [Nat.mul_assoc, ← Nat.pow_add, show k + (t - k) = t by omega]
        have : m * 2 ^ k ≤ m * 2 ^ k * 2 ^ (t - k) := Nat.le_mul_of_pos_right _ (Nat.pow_pos (by omega))
        omega
    rw [if_neg (by omega), if_neg (by omega), if_pos (by omega)]
    unfold lowC
    rw [nearest_fit false _ _ (sigC a) (powC a) (.inl ⟨h1, h2, h3⟩) (.inl ⟨by omega, ?_⟩), g2]
    · rfl
    · rw [h3, show ((-1074 : Int) - (-105 + (((p + 52 - k + 1076).toNat : Nat) - 1075))).toNat = 52 + (k - t) by omega, ← e, o2, Nat.mul_comm, Nat.mul_assoc, ← Nat.pow_add, Nat.mul_assoc, ← Nat.pow_add, show k + 52 = t + (52 + (k - t)) by omega]
  · rw [o2] at h1 h2
    obtain rfl := shift_one m k t (by omega) (by omega) h1 h2
    rw [if_neg (by omega), if_neg (by omega), if_neg (by omega)]
    have hs : sigC a = 2 ^ 52 + r := by rw [o2, e]
    rw [← g2, hs]
    have hq := pack_bits (p + 52 - k + 1023).toNat r (by omega) hr
    rw [← hq]
    congr 1
    omega
end Go.Proofs.YtimhhnhppnknhaaDoor
