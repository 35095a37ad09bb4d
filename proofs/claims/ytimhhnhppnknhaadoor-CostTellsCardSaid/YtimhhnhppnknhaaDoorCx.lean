/- LAYER 15: numbers with a point, written from a significand and a power: where nothing is lost; times 1, times -1. No Go function is spoken of here. -/
import Derived.Test.YtimhhnhppnknhaaDoorCo
import Derived.Laws.FloatArith
namespace Go.Proofs.YtimhhnhppnknhaaDoor
set_option maxRecDepth 100000
open Go Go.RowKit

theorem log2_pow (M k : Nat) (h : 0 < M) : (M * 2 ^ k).log2 = M.log2 + k := by
  have h1 := Nat.log2_self_le (n := M) (by omega)
  have h2 : M < 2 ^ (M.log2 + 1) := (Nat.log2_lt (by omega)).1 (Nat.lt_succ_self _)
  have hp : 0 < 2 ^ k := Nat.pow_pos (by omega)
  have h3 : 2 ^ (M.log2 + k) ≤ M * 2 ^ k := by rw [Nat.pow_add]; exact Nat.mul_le_mul_right _ h1
  have h4 : M * 2 ^ k < 2 ^ (M.log2 + k + 1) := by
    rw [show M.log2 + k + 1 = (M.log2 + 1) + k by omega, Nat.pow_add]
    exact Nat.mul_lt_mul_of_pos_right h2 hp
  have h0 : M * 2 ^ k ≠ 0 := Nat.ne_of_gt (Nat.mul_pos h hp)
  have a : (M * 2 ^ k).log2 < M.log2 + k + 1 := (Nat.log2_lt h0).2 h4
  have b : ¬ (M * 2 ^ k).log2 < M.log2 + k := fun h5 => by have := (Nat.log2_lt h0).1 h5; omega
  omega
theorem cut_exact (neg : Bool) (M d : Nat) (h : 0 < M) : Ieee.Toward.even.cut neg (M * 2 ^ d) d = M := by
  unfold Ieee.Toward.cut
  have e : min d ((M * 2 ^ d).log2 + 2) = d := by rw [log2_pow M d h]; omega
  have hp : 0 < 2 ^ d := Nat.pow_pos (by omega)
  simp only [e, Nat.one_shiftLeft, Nat.mul_div_cancel _ hp, Nat.mul_mod_left, Nat.mul_zero]
  rw [decide_eq_false (by omega), show ((2 ^ d : Nat) == 0) = false from by rw [beq_eq_false_iff_ne]; omega]
  rfl
theorem rung_min (E M Q : Nat) (hE : E ≤ 2045) (h1 : Q ≤ M) (h2 : M < 2 * Q) : min (E * Q + M) (2047 * Q) = (E + 1) * Q + M - Q := by
  have h : E * Q ≤ 2045 * Q := Nat.mul_le_mul_right _ hE
  rw [Nat.add_mul, Nat.one_mul]
  generalize E * Q = X at *
  omega
/-- What a significand and a power write, where nothing is lost. -/
theorem nearest_fit (neg : Bool) (mag : Nat) (place : Int) (M : Nat) (P : Int) (h : FitC M P)
    (hv : (place ≤ P ∧ mag = M * 2 ^ (P - place).toNat) ∨ (P < place ∧ M = mag * 2 ^ (place - P).toNat)) :
    Ieee.double.nearest neg mag place = Ieee.double.word neg (bitsC M P) := by
  have hM : 0 < M := by rcases h with ⟨h, _, _⟩ | ⟨h, _, _, _⟩ <;> omega
  have hm : 0 < mag := by
    rcases hv with ⟨_, rfl⟩ | ⟨_, e⟩
    · exact Nat.mul_pos hM (Nat.pow_pos (by omega))
    · rcases Nat.eq_zero_or_pos mag with h0 | h0
      · rw [h0, Nat.zero_mul] at e; omega
      · exact h0
  have hl : place + (mag.log2 : Int) = P + (M.log2 : Int) := by
    rcases hv with ⟨h1, rfl⟩ | ⟨h1, rfl⟩
    · rw [log2_pow M _ hM]; omega
    · rw [log2_pow mag _ hm]; omega
  have hlast : max (P + (M.log2 : Int) - 52) (-1074) = P := by
    rcases h with ⟨h1, h2, rfl⟩ | ⟨h1, h2, h3, h4⟩
    · have : M.log2 < 52 := (Nat.log2_lt (by omega)).2 h2
      omega
    · have a : M.log2 < 53 := (Nat.log2_lt (by omega)).2 h2
      have b : ¬ M.log2 < 52 := fun h5 => by have := (Nat.log2_lt (by omega)).1 h5; omega
      omega
  unfold Ieee.Format.nearest
  rw [if_neg (by omega)]
  have hf : ((Ieee.double.fractionBits : Nat) : Int) = 52 := rfl
  have hlp : Ieee.double.leastPlace = -1074 := rfl
  have hbi : Ieee.double.binade = 2 ^ 52 := rfl
  have hin : Ieee.double.infRung = 2047 * 2 ^ 52 := rfl
  simp only [hf, hlp, hbi, hin, hl, hlast, shl]
  have hk : Ieee.Toward.even.cut neg (mag * 2 ^ (place - P).toNat) (P - place).toNat = M := by
    rcases hv with ⟨h1, rfl⟩ | ⟨h1, rfl⟩
    · rw [show (place - P).toNat = 0 by omega, Nat.pow_zero, Nat.mul_one]
      exact cut_exact neg M _ hM
    · have := cut_exact neg (mag * 2 ^ (place - P).toNat) 0 hM
      rw [Nat.pow_zero, Nat.mul_one] at this
      rw [show (P - place).toNat = 0 by omega]; exact this
  rw [hk]
  congr 1
  unfold bitsC
  rcases h with ⟨h1, h2, rfl⟩ | ⟨h1, h2, h3, h4⟩
  · rw [if_pos h2, show ((-1074 : Int) - -1074).toNat = 0 by decide, Nat.zero_mul, Nat.zero_add]
    exact Nat.min_eq_left (by omega)
  · rw [if_neg (by omega)]
    generalize hE : (P - -1074).toNat = E
    rw [show (P + 1075).toNat = E + 1 by omega]
    have hE2 : E ≤ 2045 := by omega
    exact rung_min E M (2 ^ 52) hE2 h1 (by omega)
theorem word_sign (neg : Bool) (a : Nat) : Ieee.double.word neg a = if neg then 2 ^ 63 + a else a := rfl
/-- A number's bits with a sign. -/
theorem word_mag (b : Nat) (hb : b < 2 ^ 64) : Ieee.double.word (negC b) (magC b) = b := by
  rw [word_sign]
  unfold negC magC
  by_cases h : b / 2 ^ 63 = 1
  · rw [decide_eq_true h, if_pos rfl]; omega
  · rw [decide_eq_false h, if_neg (by simp)]; omega
/-- 1 and -1. -/
theorem read_one : Ieee.double.read 4607182418800017408 = .number false (2 ^ 52) (-52) := by decide +kernel
theorem read_minus : Ieee.double.read 13830554455654793216 = .number true (2 ^ 52) (-52) := by decide +kernel
theorem mul_unit (s : Bool) (x b : Nat) (hx : Ieee.double.read x = .number s (2 ^ 52) (-52)) (hb : b < 2 ^ 64) (hf : FinC (magC b)) : Ieee.double.mul x b = some (Ieee.double.word (s ^^ negC b) (magC b)) := by
  unfold Ieee.Format.mul
  rw [hx, read_fin b hb hf.2]
  obtain ⟨g1, g2⟩ := fit_of (magC b) hf
  show some (Ieee.double.nearest (s ^^ negC b) (2 ^ 52 * sigC (magC b)) (-52 + powC (magC b))) = _
  congr 1
  rw [nearest_fit (s ^^ negC b) _ _ (sigC (magC b)) (powC (magC b)) g1 (.inl ⟨by omega, by rw [show (powC (magC b) - (-52 + powC (magC b))).toNat = 52 by omega, Nat.mul_comm]⟩), g2]
end Go.Proofs.YtimhhnhppnknhaaDoor
