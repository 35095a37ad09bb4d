/- LAYER 1's DOCUMENT (chittyref01): the primes by trying, walked. -/
import Derived.Test.YtefbopgbikmohaaDoorR1
namespace Go.Proofs.YtefbopgbikmohaaDoor
open Go.RowKit

/-- None of the numbers from 2 to below d divides n. -/
def sieve (n d : Nat) : Bool := (List.range d).all fun x => decide (x < 2) || decide (n % x ≠ 0)
theorem sieve_two (n : Nat) : sieve n 2 = true := rfl
theorem sieve_succ (n d : Nat) (h : 2 ≤ d) : sieve n (d + 1) = (sieve n d && decide (n % d ≠ 0)) := by
  unfold sieve
  rw [List.range_succ, List.all_append]
  simp [show ¬ d < 2 by omega]
def isP (n : Nat) : Bool := sieve n n
/-- How many primes there are from 2 to below n. -/
def cnt : Nat → Nat
  | 0 => 0
  | n + 1 => cnt n + if 2 ≤ n ∧ isP n = true then 1 else 0
theorem cnt_mono (a b : Nat) (h : a ≤ b) : cnt a ≤ cnt b := by
  induction h with
  | refl => exact Nat.le_refl _
  | step _ ih => exact Nat.le_trans ih (by rw [cnt]; omega)
theorem cnt_step (n : Nat) (h : 2 ≤ n) (hp : isP n = true) : cnt (n + 1) = cnt n + 1 := by rw [cnt, if_pos ⟨h, hp⟩]
theorem cnt_stay (n : Nat) (hp : isP n = false) : cnt (n + 1) = cnt n := by rw [cnt, if_neg (by simp [hp])]; rfl

/-- The rest of the way to prime P, number i of all. -/
structure Way (P i n : Nat) (j : Int) : Prop where
  two : 2 ≤ n
  le : n ≤ P
  left : j = (i : Int) - cnt n
theorem Way.pos {P i n : Nat} {j : Int} (h : Way P i n j) (hc : cnt P = i) : 0 ≤ j ∧ j ≤ i := by
  have := cnt_mono n P h.le
  have := h.left
  omega
theorem Way.next {P i n : Nat} {j : Int} (h : Way P i n j) (hp : isP P = true) (hn : isP n = false) : Way P i (n + 1) j := by
  refine ⟨by have := h.two; omega, ?_, by rw [cnt_stay n hn]; exact h.left⟩
  have := h.le
  by_cases e : n = P
  · subst e; rw [hp] at hn; cases hn
  · omega
theorem Way.take {P i n : Nat} {j : Int} (h : Way P i n j) (hc : cnt P = i) (hn : isP n = true) (hj : j ≠ 0) : Way P i (n + 1) (j - 1) := by
  have h2 := h.two
  have hl := h.left
  refine ⟨by omega, ?_, by rw [cnt_step n h2 hn]; omega⟩
  have := h.le
  by_cases e : n = P
  · subst e; omega
  · omega
theorem Way.there {P i n : Nat} {j : Int} (h : Way P i n j) (hc : cnt P = i) (hn : isP n = true) (hj : j = 0) : n = P := by
  have h2 := h.two
  have hl := h.left
  have hle := h.le
  have hs := cnt_step n h2 hn
  by_cases e : n = P
  · exact e
  · have := cnt_mono (n + 1) P (by omega)
    omega
theorem rem_test (n d : Nat) : (((n : Int) % (d : Int)) == 0) = !decide (n % d ≠ 0) := by
  by_cases h : n % d = 0
  · have : ((n : Int) % d) = 0 := by exact_mod_cast h
    simp [h, this]
  · have : ((n : Int) % d) ≠ 0 := by exact_mod_cast h
    simp [h, this]
theorem cnt_le (n : Nat) : cnt n ≤ n := by
  induction n with
  | zero => exact Nat.le_refl _
  | succ n ih => rw [cnt]; split <;> omega
/-- The round's own loop: whether n is a prime. -/
def isV (n d : Nat) : Value := .bool (sieve n d)
end Go.Proofs.YtefbopgbikmohaaDoor
