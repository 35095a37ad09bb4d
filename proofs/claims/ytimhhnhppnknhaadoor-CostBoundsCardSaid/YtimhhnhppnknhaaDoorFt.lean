/- LAYER 15: what the laws ask of texts, parts and bounds, as lists. -/
import Derived.Test.YtimhhnhppnknhaaDoorFh
namespace Go.Proofs.YtimhhnhppnknhaaDoor
set_option maxRecDepth 100000
open Go Go.RowKit

theorem text_len (b : Nat) : (textC b).length ≤ 100 := by
  cases hn : nanC b with
  | true => rw [text_nan b hn]; simp
  | false =>
    rw [text_of b hn, List.length_append]
    have h1 : (if negC b = true then [(45 : UInt8)] else []).length ≤ 1 := by split <;> simp
    have h2 : (bodyC (magC b)).length ≤ 60 := by
      by_cases h0 : magC b = 0
      · rw [h0]; decide
      · by_cases hi : magC b = 2047 * 2 ^ 52
        · rw [hi]; decide
        · obtain ⟨b1, b2, b3, b4⟩ := fin_bounds b hn h0 hi
          rw [body_fin _ h0 hi, List.length_append, List.length_cons]
          have x1 := numL_len 10 (by omega) 20 (oddC (sigC (magC b))) (by omega)
          generalize powC (magC b) + (twosC (sigC (magC b)) : Int) = P at *
          have x2 : (intL P).length ≤ 22 := by
            have := numL_len 10 (by omega) 20 P.natAbs (by omega)
            unfold intL
            split
            · rw [List.length_cons]; omega
            · omega
          omega
    omega
theorem parse_text (b : Nat) (hb : b < 2 ^ 64) (h : nanC b = false) : parseC (textC b) = some b := (parseC_iff _ b).2 ⟨hb, h, rfl⟩
theorem parse_nil : parseC [] = none := by decide
theorem text_of_sig (b m k : Nat) (P : Int) (h1 : nanC b = false) (h2 : negC b = false) (h3 : magC b = b) (h4 : sigC b = m * 2 ^ k) (hm : m % 2 = 1) (h5 : powC b = P) (h0 : b ≠ 0) (hi : b ≠ 2047 * 2 ^ 52) : textC b = numL 10 m ++ 112 :: intL (P + k) := by
  rw [text_of b h1, h2, h3, body_fin b h0 hi, h4, h5, (odd_of m hm k).1, (odd_of m hm k).2]; rfl
theorem text_15 : textC 4609434218613702656 = [51, 112, 45, 49] := by
  rw [text_of_sig 4609434218613702656 3 51 (-52) (by decide) (by decide) (by decide) (by decide) (by decide) (by decide) (by decide) (by decide)]
  decide
theorem text_8 : textC 4620693217682128896 = [49, 112, 51] := by
  rw [text_of_sig 4620693217682128896 1 52 (-49) (by decide) (by decide) (by decide) (by decide) (by decide) (by decide) (by decide) (by decide)]
  decide
theorem most_self (a : Nat) : atMostC a a = !nanC a := by
  unfold atMostC
  rw [decide_eq_true (Int.le_refl _)]
  cases nanC a <;> rfl
theorem most_nan1 (b : Nat) : atMostC 9221120237041090561 b = false := by
  unfold atMostC
  rw [show nanC 9221120237041090561 = true by decide]; rfl
theorem most_nan2 (a : Nat) : atMostC a 9221120237041090561 = false := by
  unfold atMostC
  rw [show nanC 9221120237041090561 = true by decide, Bool.not_true, Bool.and_false]; rfl
theorem most_inf (a : Nat) : atMostC a 9218868437227405312 = !nanC a := by
  unfold atMostC
  rw [show nanC 9218868437227405312 = false by decide]
  cases h : nanC a with
  | true => rfl
  | false =>
    have h1 := of_decide_eq_false h
    have h2 : rankC a ≤ rankC 9218868437227405312 := by
      rw [show rankC 9218868437227405312 = 9218868437227405312 by decide]
      unfold rankC
      split <;> omega
    rw [decide_eq_true h2]; rfl
theorem most_zero1 : atMostC 9223372036854775808 0 = true := by decide
theorem most_zero2 : atMostC 0 9223372036854775808 = true := by decide
end Go.Proofs.YtimhhnhppnknhaaDoor
