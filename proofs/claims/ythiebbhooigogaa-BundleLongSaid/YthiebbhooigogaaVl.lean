/- LAYER 8: numbers in as few bytes as they need: lists alone. -/
import Derived.Test.YthiebbhooigogaaM
namespace Go.Proofs.Ythiebbhooigogaa
open Go Go.RowKit

/-- A number's bytes, with at most k of them ahead of the last. -/
def varF : Nat → Nat → List UInt8
  | 0, n => [UInt8.ofNat n]
  | k + 1, n => if n < 128 then [UInt8.ofNat n] else UInt8.ofNat (n % 128 + 128) :: varF k (n / 128)
def varL (n : Nat) : List UInt8 := varF 9 n
theorem varF_small (k n : Nat) (h : n < 128) : varF k n = [UInt8.ofNat n] := by
  cases k with
  | zero => rfl
  | succ k => unfold varF; rw [if_pos h]
theorem varF_big (k n : Nat) (h : ¬ n < 128) : varF (k + 1) n = UInt8.ofNat (n % 128 + 128) :: varF k (n / 128) := by
  rw [varF, if_neg h]
theorem varF_more : ∀ (k n : Nat), n < 128 ^ (k + 1) → varF (k + 1) n = varF k n
  | 0, n, h => by rw [varF_small 1 n (by simpa using h), varF_small 0 n (by simpa using h)]
  | k + 1, n, h => by
    by_cases h0 : n < 128
    · rw [varF_small _ n h0, varF_small _ n h0]
    · rw [varF_big _ n h0, varF_big k n h0, varF_more k (n / 128) (by rw [Nat.div_lt_iff_lt_mul (by omega)]; rw [Nat.pow_succ] at h; exact h)]
theorem varL_small (n : Nat) (h : n < 128) : varL n = [UInt8.ofNat n] := varF_small 9 n h
theorem varL_big (n : Nat) (h : ¬ n < 128) (hn : n < 18446744073709551616) : varL n = UInt8.ofNat (n % 128 + 128) :: varL (n / 128) := by
  unfold varL
  rw [varF_big 8 n h, varF_more 8 (n / 128) (by have : (128 : Nat) ^ (8 + 1) = 9223372036854775808 := by decide
                                                omega)]
theorem length_varF : ∀ (k n : Nat), 1 ≤ (varF k n).length ∧ (varF k n).length ≤ k + 1
  | 0, n => by simp [varF]
  | k + 1, n => by
    by_cases h0 : n < 128
    · rw [varF_small _ n h0]; simp
    · have := length_varF k (n / 128)
      rw [varF_big k n h0, List.length_cons]; omega
theorem length_varL (n : Nat) : 1 ≤ (varL n).length ∧ (varL n).length ≤ 10 := length_varF 9 n
/-- What bytes come to, seven bits of each, the lowest first. -/
def valL : List UInt8 → Nat
  | [] => 0
  | b :: l => b.toNat % 128 + 128 * valL l
theorem valL_snoc (l : List UInt8) (b : UInt8) : valL (l ++ [b]) = valL l + b.toNat % 128 * 128 ^ l.length := by
  induction l with
  | nil => simp [valL]
  | cons c l ih =>
    rw [List.cons_append, valL, valL, ih, List.length_cons, Nat.pow_succ, Nat.mul_add, Nat.add_assoc]
    congr 2
    rw [Nat.mul_comm 128, Nat.mul_assoc]
theorem valL_varF : ∀ (k n : Nat), n < 128 ^ (k + 1) → valL (varF k n) = n
  | 0, n, h => by
    have h : n < 128 := by simpa using h
    show (UInt8.ofNat n).toNat % 128 + 128 * 0 = n
    rw [UInt8.toNat_ofNat']; omega
  | k + 1, n, h => by
    by_cases h0 : n < 128
    · rw [varF_small _ n h0]
      show (UInt8.ofNat n).toNat % 128 + 128 * 0 = n
      rw [UInt8.toNat_ofNat']; omega
    · rw [varF_big k n h0, valL, valL_varF k (n / 128) (by rw [Nat.div_lt_iff_lt_mul (by omega)]; rw [Nat.pow_succ] at h; exact h), UInt8.toNat_ofNat']
      omega
theorem valL_varL (n : Nat) (hn : n < 18446744073709551616) : valL (varL n) = n :=
  valL_varF 9 n (by have : (128 : Nat) ^ (9 + 1) = 1180591620717411303424 := by decide
                    omega)
/-- The beginning that ends at the first small byte of at most k; none: []. -/
def headL : Nat → List UInt8 → List UInt8
  | 0, _ => []
  | _ + 1, [] => []
  | k + 1, b :: l => if b.toNat < 128 then [b] else match headL k l with
    | [] => []
    | c :: h => b :: c :: h
def BigTo (l : List UInt8) (i : Nat) : Prop := ∀ j, j < i → 128 ≤ (l.getD j 0).toNat
theorem BigTo.zero (l : List UInt8) : BigTo l 0 := fun j h => by omega
theorem BigTo.succ {l : List UInt8} {i : Nat} (h : BigTo l i) (hi : 128 ≤ (l.getD i 0).toNat) : BigTo l (i + 1) := fun j hj => by
  by_cases e : j = i
  · subst e; exact hi
  · exact h j (by omega)
theorem head_stop : ∀ (i k : Nat) (l : List UInt8), i < k → i < l.length → BigTo l i → (l.getD i 0).toNat < 128 → headL k l = l.take (i + 1)
  | 0, k + 1, b :: l, _, _, _, hs => by
    have hs : b.toNat < 128 := hs
    rw [headL, if_pos hs]; rfl
  | i + 1, k + 1, b :: l, hk, hl, hb, hs => by
    have hb0 : 128 ≤ b.toNat := hb 0 (by omega)
    have ih := head_stop i k l (by omega) (by simpa using hl) (fun j hj => by have := hb (j + 1) (by omega); simpa using this) (by simpa using hs)
    have hl' : i + 1 < l.length + 1 := hl
    have hne : l.take (i + 1) ≠ [] := List.ne_nil_of_length_pos (by rw [List.length_take]; omega)
    rw [headL, if_neg (by omega), ih]
    rw [List.take_succ_cons]
    cases hq : l.take (i + 1) with
    | nil => exact absurd hq hne
    | cons c h => rfl
  | _, 0, _, h, _, _, _ => by omega
  | _, _, [], _, h, _, _ => by simp at h
theorem head_none : ∀ (k : Nat) (l : List UInt8) (i : Nat), BigTo l i → (i = k ∨ i = l.length) → i ≤ k → i ≤ l.length → headL k l = []
  | 0, _, _, _, _, _, _ => rfl
  | k + 1, [], _, _, _, _, _ => rfl
  | k + 1, b :: l, 0, _, h, _, _ => by simp at h
  | k + 1, b :: l, i + 1, hb, h, h1, h2 => by
    have hb0 : 128 ≤ b.toNat := hb 0 (by omega)
    have ih := head_none k l i (fun j hj => by have := hb (j + 1) (by omega); simpa using this) (by simpa using h) (by omega) (by simpa using h2)
    rw [headL, if_neg (by omega), ih]
/-- The number with which bytes begin, and how many bytes it has; none: 0 and 0. -/
def getL (l : List UInt8) : Nat × Nat :=
  if headL 10 l ≠ [] ∧ varL (valL (headL 10 l) % 18446744073709551616) = headL 10 l then (valL (headL 10 l) % 18446744073709551616, (headL 10 l).length) else (0, 0)
theorem head_var : ∀ (k n : Nat) (l : List UInt8), n < 128 ^ (k + 1) → headL (k + 1) (varF k n ++ l) = varF k n
  | 0, n, l, h => by
    have h : n < 128 := by simpa using h
    have e : (UInt8.ofNat n).toNat < 128 := by rw [UInt8.toNat_ofNat']; omega
    show headL 1 (UInt8.ofNat n :: l) = _
    rw [headL, if_pos e]; rfl
  | k + 1, n, l, h => by
    by_cases h0 : n < 128
    · have e : (UInt8.ofNat n).toNat < 128 := by rw [UInt8.toNat_ofNat']; omega
      rw [varF_small _ n h0]
      show headL (k + 2) (UInt8.ofNat n :: l) = _
      rw [headL, if_pos e]
    · have e : ¬ (UInt8.ofNat (n % 128 + 128)).toNat < 128 := by rw [UInt8.toNat_ofNat']; omega
      have ih := head_var k (n / 128) l (by rw [Nat.div_lt_iff_lt_mul (by omega)]; rw [Nat.pow_succ] at h; exact h)
      rw [varF_big k n h0, List.cons_append, headL, if_neg e, ih]
      have hl := length_varF k (n / 128)
      cases hq : varF k (n / 128) with
      | nil => rw [hq] at hl; simp at hl
      | cons c t => rfl
theorem headL_varL (n : Nat) (l : List UInt8) (hn : n < 18446744073709551616) : headL 10 (varL n ++ l) = varL n :=
  head_var 9 n l (by have : (128 : Nat) ^ (9 + 1) = 1180591620717411303424 := by decide
                     omega)
theorem getL_varL (n : Nat) (l : List UInt8) (hn : n < 18446744073709551616) : getL (varL n ++ l) = (n, (varL n).length) := by
  have h := headL_varL n l hn
  have hv := valL_varL n hn
  have hl := length_varL n
  unfold getL
  rw [h, hv, Nat.mod_eq_of_lt hn, if_pos ⟨fun e => by rw [e] at hl; simp at hl, rfl⟩]
theorem head_cut : ∀ (k n i : Nat), i < (varF k n).length → n < 128 ^ (k + 1) → BigTo ((varF k n).take i) i
  | 0, n, i, h, _ => by
    have : i = 0 := by simpa [varF] using h
    subst this; exact BigTo.zero _
  | k + 1, n, i, h, hn => by
    by_cases h0 : n < 128
    · rw [varF_small _ n h0] at h
      have : i = 0 := by simpa using h
      subst this; exact BigTo.zero _
    · rw [varF_big k n h0] at h ⊢
      intro j hj
      cases i with
      | zero => omega
      | succ i =>
        have ih := head_cut k (n / 128) i (by simpa using h) (by rw [Nat.div_lt_iff_lt_mul (by omega)]; rw [Nat.pow_succ] at hn; exact hn)
        rw [List.take_succ_cons]
        cases j with
        | zero =>
          show 128 ≤ (UInt8.ofNat (n % 128 + 128)).toNat
          rw [UInt8.toNat_ofNat']; omega
        | succ j => simpa using ih j (by omega)
/-- No beginning of a number's bytes is a number's. -/
theorem getL_cut (n i : Nat) (hn : n < 18446744073709551616) (hi : i < (varL n).length) : getL ((varL n).take i) = (0, 0) := by
  have hb := head_cut 9 n i hi (by have : (128 : Nat) ^ (9 + 1) = 1180591620717411303424 := by decide
                                   omega)
  have hl := length_varL n
  have hlen : ((varL n).take i).length = i := by rw [List.length_take]; omega
  have h : headL 10 ((varL n).take i) = [] := head_none 10 _ i hb (.inr hlen.symm) (by omega) (by omega)
  unfold getL
  rw [h, if_neg (fun e => e.1 rfl)]
theorem headL_take : ∀ (k : Nat) (l : List UInt8), headL k l = l.take (headL k l).length
  | 0, _ => by simp [headL]
  | _ + 1, [] => by simp [headL]
  | k + 1, b :: l => by
    have ih := headL_take k l
    rw [headL]
    split
    · simp
    · cases hq : headL k l with
      | nil => simp
      | cons c h =>
        rw [hq] at ih
        show b :: c :: h = (b :: l).take (h.length + 1 + 1)
        rw [List.take_succ_cons]
        congr 1
/-- What is read is written as it was. -/
theorem getL_back (l : List UInt8) : (getL l = (0, 0)) ∨ (0 < (getL l).2 ∧ (getL l).2 ≤ l.length ∧ (getL l).2 ≤ 10 ∧ (getL l).1 < 18446744073709551616 ∧ varL (getL l).1 = l.take (getL l).2) := by
  unfold getL
  split
  · rename_i h
    refine .inr ?_
    have h0 : 0 < (headL 10 l).length := List.length_pos_iff.2 h.1
    have ht := headL_take 10 l
    refine ⟨h0, ?_, ?_, Nat.mod_lt _ (by decide), ?_⟩
    · have := congrArg List.length ht
      rw [List.length_take] at this
      show (headL 10 l).length ≤ _
      omega
    · have := length_varL (valL (headL 10 l) % 18446744073709551616)
      rw [h.2] at this
      exact this.2
    · show varL _ = l.take (headL 10 l).length
      rw [← ht]; exact h.2
  · exact .inl rfl
end Go.Proofs.Ythiebbhooigogaa
