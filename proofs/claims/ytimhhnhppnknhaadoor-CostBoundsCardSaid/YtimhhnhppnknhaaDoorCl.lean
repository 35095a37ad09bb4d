/- LAYER 15: the bits of a number with a point, as an odd number and a power of two. No Go function is spoken of here. -/
import Derived.Test.YtimhhnhppnknhaaDoorS
namespace Go.Proofs.YtimhhnhppnknhaaDoor
set_option maxRecDepth 100000
open Go Go.RowKit

/-- A number's odd part, and how many twos are in it. -/
def oddC (m : Nat) : Nat := if h : m = 0 then 0 else if m % 2 = 0 then oddC (m / 2) else m
termination_by m
decreasing_by omega
def twosC (m : Nat) : Nat := if h : m = 0 then 0 else if m % 2 = 0 then twosC (m / 2) + 1 else 0
termination_by m
decreasing_by omega
theorem oddC_even (m : Nat) (h : m ≠ 0) (h2 : m % 2 = 0) : oddC m = oddC (m / 2) := by rw [oddC, dif_neg h, if_pos h2]
theorem oddC_odd (m : Nat) (h2 : m % 2 = 1) : oddC m = m := by rw [oddC, dif_neg (by omega), if_neg (by omega)]
theorem twosC_even (m : Nat) (h : m ≠ 0) (h2 : m % 2 = 0) : twosC m = twosC (m / 2) + 1 := by rw [twosC, dif_neg h, if_pos h2]
theorem twosC_odd (m : Nat) (h2 : m % 2 = 1) : twosC m = 0 := by rw [twosC, dif_neg (by omega), if_neg (by omega)]
theorem odd_twos (m : Nat) (h : m ≠ 0) : oddC m % 2 = 1 ∧ m = oddC m * 2 ^ twosC m := by
  induction m using Nat.strongRecOn with
  | _ m ih =>
    by_cases h2 : m % 2 = 0
    · obtain ⟨a, b⟩ := ih (m / 2) (by omega) (by omega)
      rw [oddC_even m h h2, twosC_even m h h2]
      refine ⟨a, ?_⟩
      rw [Nat.pow_succ, ← Nat.mul_assoc, ← b]
      omega
    · rw [oddC_odd m (by omega), twosC_odd m (by omega)]
      exact ⟨by omega, by simp⟩
/-- An odd number times a power of two: which they are. -/
theorem odd_of (m : Nat) (hm : m % 2 = 1) : ∀ k, oddC (m * 2 ^ k) = m ∧ twosC (m * 2 ^ k) = k := by
  intro k
  induction k with
  | zero => rw [Nat.pow_zero, Nat.mul_one]; exact ⟨oddC_odd m hm, twosC_odd m hm⟩
  | succ k ih =>
    have e : m * 2 ^ (k + 1) = 2 * (m * 2 ^ k) := by rw [Nat.pow_succ, ← Nat.mul_assoc, Nat.mul_comm]
    have hp : 0 < m * 2 ^ k := Nat.mul_pos (by omega) (Nat.pow_pos (by omega))
    rw [e]
    generalize m * 2 ^ k = n at *
    rw [oddC_even _ (by omega) (by omega), twosC_even _ (by omega) (by omega), show 2 * n / 2 = n by omega]
    exact ⟨ih.1, by rw [ih.2]⟩
/-- The significand and the power of a number's bits (without its sign), as whole numbers: M times 2 to P. -/
def sigC (a : Nat) : Nat := if a / 2 ^ 52 > 0 then a % 2 ^ 52 + 2 ^ 52 else a % 2 ^ 52
def powC (a : Nat) : Int := if a / 2 ^ 52 > 0 then (a / 2 ^ 52 : Nat) - 1075 else -1074
/-- Such bits are those of a number that is neither 0, nor infinite, nor none. -/
def FinC (a : Nat) : Prop := 0 < a ∧ a < 2047 * 2 ^ 52
theorem sig_pos (a : Nat) (h : FinC a) : 0 < sigC a := by
  obtain ⟨h1, h2⟩ := h
  unfold sigC
  split <;> omega
/-- The bits of M times 2 to P. -/
def bitsC (M : Nat) (P : Int) : Nat := if M < 2 ^ 52 then M else (P + 1075).toNat * 2 ^ 52 + M - 2 ^ 52
/-- M and P are what some bits have. -/
def FitC (M : Nat) (P : Int) : Prop := (0 < M ∧ M < 2 ^ 52 ∧ P = -1074) ∨ (2 ^ 52 ≤ M ∧ M < 2 ^ 53 ∧ -1074 ≤ P ∧ P ≤ 971)
theorem fit_of (a : Nat) (h : FinC a) : FitC (sigC a) (powC a) ∧ bitsC (sigC a) (powC a) = a := by
  obtain ⟨h1, h2⟩ := h
  by_cases h0 : a / 2 ^ 52 > 0
  · have e1 : sigC a = a % 2 ^ 52 + 2 ^ 52 := if_pos h0
    have e2 : powC a = (a / 2 ^ 52 : Nat) - 1075 := if_pos h0
    rw [e1, e2]
    refine ⟨.inr ⟨by omega, by omega, by omega, by omega⟩, ?_⟩
    unfold bitsC
    rw [if_neg (by omega), show (((a / 2 ^ 52 : Nat) : Int) - 1075 + 1075).toNat = a / 2 ^ 52 by omega]
    omega
  · have e1 : sigC a = a % 2 ^ 52 := if_neg h0
    have e2 : powC a = -1074 := if_neg h0
    rw [e1, e2]
    refine ⟨.inl ⟨by omega, by omega, rfl⟩, ?_⟩
    unfold bitsC
    rw [if_pos (by omega)]
    omega
theorem fit_back (M : Nat) (P : Int) (h : FitC M P) : FinC (bitsC M P) ∧ sigC (bitsC M P) = M ∧ powC (bitsC M P) = P := by
  rcases h with ⟨h1, h2, rfl⟩ | ⟨h1, h2, h3, h4⟩
  · have e : bitsC M (-1074) = M := if_pos h2
    rw [e]
    refine ⟨⟨h1, by omega⟩, ?_, ?_⟩
    · unfold sigC; rw [if_neg (by omega)]; omega
    · unfold powC; rw [if_neg (by omega)]
  · have e : bitsC M P = (P + 1075).toNat * 2 ^ 52 + M - 2 ^ 52 := if_neg (by omega)
    rw [e]
    generalize hE : (P + 1075).toNat = E at *
    have hE1 : 1 ≤ E ∧ E ≤ 2046 := by omega
    have hd : (E * 2 ^ 52 + M - 2 ^ 52) / 2 ^ 52 = E := by omega
    have hm : (E * 2 ^ 52 + M - 2 ^ 52) % 2 ^ 52 = M - 2 ^ 52 := by omega
    refine ⟨⟨by omega, by omega⟩, ?_, ?_⟩
    · unfold sigC; rw [hd, hm, if_pos (by omega)]; omega
    · unfold powC; rw [hd, if_pos (by omega)]; omega
/-- Two ways to write a number as an odd one times a power of two, fitted: the bits are one. -/
theorem fit_one (m : Nat) (k1 k2 : Nat) (p : Int) (h1 : FitC (m * 2 ^ k1) (p - k1)) (h2 : FitC (m * 2 ^ k2) (p - k2)) : k1 = k2 := by
  have key : ∀ a b : Nat, a < b → FitC (m * 2 ^ a) (p - a) → FitC (m * 2 ^ b) (p - b) → False := by
    intro a b hab ha hb
    have e : m * 2 ^ b = 2 * (m * 2 ^ a * 2 ^ (b - a - 1)) := by
      rw [Nat.mul_assoc, ← Nat.pow_add, show b = (a + (b - a - 1)) + 1 by omega, Nat.pow_succ]
      rw [show a + (b - a - 1) + 1 - a - 1 = b - a - 1 by omega]
      rw [← Nat.mul_assoc, Nat.mul_comm]
    have hp : 1 ≤ 2 ^ (b - a - 1) := Nat.one_le_two_pow
    have hge : m * 2 ^ a ≤ m * 2 ^ a * 2 ^ (b - a - 1) := Nat.le_mul_of_pos_right _ hp
    generalize m * 2 ^ a * 2 ^ (b - a - 1) = X at *
    generalize m * 2 ^ a = A at *
    rw [e] at hb
    rcases ha with ⟨_, _, a3⟩ | ⟨a1, a2, a3, a4⟩
    · rcases hb with ⟨_, _, b3⟩ | ⟨_, _, b3, _⟩ <;> omega
    · rcases hb with ⟨_, b2, _⟩ | ⟨_, b2, _, _⟩ <;> omega
  rcases Nat.lt_trichotomy k1 k2 with h | h | h
  · exact (key k1 k2 h h1 h2).elim
  · exact h
  · exact (key k2 k1 h h2 h1).elim
/-- Doubled, as long as it is small and its power not the least. -/
def upC : Nat → Nat → Int → Nat × Int
  | 0, m, p => (m, p)
  | f + 1, m, p => if m < 2 ^ 52 ∧ -1074 < p then upC f (2 * m) (p - 1) else (m, p)
theorem up_spec : ∀ (f m : Nat) (p : Int), 0 < m → -1074 ≤ p → 2 ^ 52 ≤ m * 2 ^ f →
    ∃ k : Nat, upC f m p = (m * 2 ^ k, p - k) ∧ (k = 0 ∨ m * 2 ^ k < 2 ^ 53) ∧ -1074 ≤ p - k ∧ ¬ (m * 2 ^ k < 2 ^ 52 ∧ -1074 < p - k) := by
  intro f
  induction f with
  | zero =>
    intro m p hm hp hf
    rw [Nat.pow_zero, Nat.mul_one] at hf
    exact ⟨0, by simp [upC], .inl rfl, by omega, by simp; omega⟩
  | succ f ih =>
    intro m p hm hp hf
    rw [upC]
    by_cases h : m < 2 ^ 52 ∧ -1074 < p
    · rw [if_pos h]
      have hf2 : 2 ^ 52 ≤ 2 * m * 2 ^ f := by
        have e : m * 2 ^ (f + 1) = 2 * m * 2 ^ f := by rw [Nat.pow_succ, ← Nat.mul_assoc, Nat.mul_comm, ← Nat.mul_assoc]
        rw [← e]; exact hf
      obtain ⟨k, h1, h2, h3, h4⟩ := ih (2 * m) (p - 1) (by omega) (by omega) hf2
      have e : m * 2 ^ (k + 1) = 2 * m * 2 ^ k := by rw [Nat.pow_succ, ← Nat.mul_assoc, Nat.mul_comm, ← Nat.mul_assoc]
      refine ⟨k + 1, ?_, .inr ?_, by omega, ?_⟩
      · rw [h1, e]; congr 1; omega
      · rw [e]
        rcases h2 with h2 | h2
        · subst h2; simp; omega
        · exact h2
      · rw [e]; intro h5; exact h4 ⟨h5.1, by omega⟩
    · rw [if_neg h]
      exact ⟨0, by simp, .inl rfl, by omega, by simpa using h⟩
/-- The bits of an odd number times a power of two, if they are some number's. -/
def ofC (m : Nat) (p : Int) : Option Nat :=
  if m % 2 = 0 ∨ 2 ^ 53 ≤ m ∨ p < -1074 ∨ 1023 < p then none
  else if 971 < (upC 52 m p).2 then none else some (bitsC (upC 52 m p).1 (upC 52 m p).2)
theorem ofC_iff (m : Nat) (p : Int) (a : Nat) : ofC m p = some a ↔ FinC a ∧ oddC (sigC a) = m ∧ powC a + twosC (sigC a) = p := by
  unfold ofC
  constructor
  · intro h
    split at h
    · cases h
    · rename_i hg
      have hm : m % 2 = 1 := by omega
      obtain ⟨k, h1, h2, h3, h4⟩ := up_spec 52 m p (by omega) (by omega) (Nat.le_mul_of_pos_left _ (by omega))
      rw [h1] at h
      split at h
      · cases h
      · rename_i h5
        have h5 : ¬ 971 < p - (k : Int) := h5
        cases h
        have hM : m * 2 ^ k < 2 ^ 53 := by
          rcases h2 with h2 | h2
          · subst h2; simp; omega
          · exact h2
        have hp : 0 < m * 2 ^ k := Nat.mul_pos (by omega) (Nat.pow_pos (by omega))
        have hfit : FitC (m * 2 ^ k) (p - k) := by
          by_cases hs : m * 2 ^ k < 2 ^ 52
          · exact .inl ⟨hp, hs, by omega⟩
          · exact .inr ⟨by omega, hM, h3, by omega⟩
        obtain ⟨f1, f2, f3⟩ := fit_back _ _ hfit
        refine ⟨f1, ?_, ?_⟩
        · show oddC (sigC (bitsC (m * 2 ^ k) (p - k))) = m
          rw [f2, (odd_of m hm k).1]
        · show powC (bitsC (m * 2 ^ k) (p - k)) + (twosC (sigC (bitsC (m * 2 ^ k) (p - k))) : Nat) = p
          rw [f2, f3, (odd_of m hm k).2]; omega
  · rintro ⟨hf, hm, hp⟩
    have hs := sig_pos a hf
    obtain ⟨o1, o2⟩ := odd_twos (sigC a) (by omega)
    obtain ⟨g1, g2⟩ := fit_of a hf
    rw [hm] at o1 o2
    generalize ht : twosC (sigC a) = t at *
    have hsl : sigC a < 2 ^ 53 := by
      rcases g1 with ⟨_, h, _⟩ | ⟨_, h, _, _⟩ <;> omega
    have hpow : -1074 ≤ powC a ∧ powC a ≤ 971 := by
      rcases g1 with ⟨_, _, h⟩ | ⟨_, _, h, h'⟩ <;> omega
    have ht52 : t ≤ 52 := by
      by_cases hlt : t ≤ 52
      · exact hlt
      · exfalso
        have : 2 ^ 53 ≤ 2 ^ t := Nat.pow_le_pow_right (by omega) (by omega)
        have : 2 ^ t ≤ m * 2 ^ t := Nat.le_mul_of_pos_left _ (by omega)
        omega
    have hmle : m ≤ m * 2 ^ t := Nat.le_mul_of_pos_right _ (Nat.pow_pos (by omega))
    rw [if_neg (by omega)]
    obtain ⟨k, h1, h2, h3, h4⟩ := up_spec 52 m p (by omega) (by omega) (Nat.le_mul_of_pos_left _ (by omega))
    rw [h1]
    have hM : m * 2 ^ k < 2 ^ 53 := by
      rcases h2 with h2 | h2
      · subst h2; simp; omega
      · exact h2
    have hP : ¬ 971 < p - (k : Int) := by
      intro h5
      have hk : k < t := by omega
      have e : m * 2 ^ t = 2 * (m * 2 ^ k * 2 ^ (t - k - 1)) := by
        rw [Nat.mul_assoc, ← Nat.pow_add, show t = (k + (t - k - 1)) + 1 by omega, Nat.pow_succ]
        rw [show k + (t - k - 1) + 1 - k - 1 = t - k - 1 by omega]
        rw [← Nat.mul_assoc, Nat.mul_comm]
      have hge : m * 2 ^ k ≤ m * 2 ^ k * 2 ^ (t - k - 1) := Nat.le_mul_of_pos_right _ (Nat.pow_pos (by omega))
      generalize m * 2 ^ k * 2 ^ (t - k - 1) = X at *
      omega
    rw [if_neg hP]
    have hp0 : 0 < m * 2 ^ k := Nat.mul_pos (by omega) (Nat.pow_pos (by omega))
    have hfit : FitC (m * 2 ^ k) (p - k) := by
      by_cases hs : m * 2 ^ k < 2 ^ 52
      · exact .inl ⟨hp0, hs, by omega⟩
      · exact .inr ⟨by omega, hM, h3, by omega⟩
    have hfit2 : FitC (m * 2 ^ t) (p - t) := by rw [← o2, show p - (t : Int) = powC a by omega]; exact g1
    have hkt := fit_one m k t p hfit hfit2
    subst hkt
    show some (bitsC (m * 2 ^ k) (p - k)) = some a
    rw [← o2, show p - (k : Int) = powC a by omega, g2]
end Go.Proofs.YtimhhnhppnknhaaDoor
