/- Texts of this claim, one behind the other. -/
import Derived.Lib.AppendStr
import Derived.Test.YtlocgfekgbdlmaaDoorMa
import Derived.Test.YtlocgfekgbdlmaaDoorMb
import Derived.Test.YtlocgfekgbdlmaaDoorMc
/- LAYER 1: what the document's digits come to as numbers, and what its root is. Lists and numbers alone. -/
namespace Go.Proofs.YtlocgfekgbdlmaaDoor
open Go.RowKit

/-- The number that the first k digits are. -/
def vN (l : List Int) : Nat → Int
  | 0 => 0
  | k + 1 => vN l k + l.getD k 0 * 65536 ^ k
theorem getD_set (l : List Int) (p i : Nat) (v : Int) (hp : p < l.length) : (l.set p v).getD i 0 = if i = p then v else l.getD i 0 := by
  by_cases h : i = p
  · subst h; simp [hp]
  · rw [if_neg h]; simp [Ne.symm h]
theorem vN_set (l : List Int) (p : Nat) (v : Int) (hp : p < l.length) (k : Nat) : vN (l.set p v) k = if p < k then vN l k + (v - l.getD p 0) * 65536 ^ p else vN l k := by
  induction k with
  | zero => rfl
  | succ k ih =>
    rw [vN, vN, ih, getD_set l p k v hp]
    by_cases h : k = p
    · subst h
      rw [if_neg (by omega), if_pos rfl, if_pos (by omega), Int.sub_mul]; omega
    · rw [if_neg h]
      by_cases h2 : p < k
      · rw [if_pos h2, if_pos (by omega)]; omega
      · rw [if_neg h2, if_neg (by omega)]
def Dig (l : List Int) : Prop := ∀ i, 0 ≤ l.getD i 0 ∧ l.getD i 0 < 65536
def Bd (l : List Int) (M : Int) : Prop := ∀ i, 0 ≤ l.getD i 0 ∧ l.getD i 0 ≤ M
theorem P_pos (k : Nat) : (0 : Int) < 65536 ^ k := Int.pow_pos (by decide)
theorem vN_bd (l : List Int) (h : Dig l) (k : Nat) : 0 ≤ vN l k ∧ vN l k < 65536 ^ k := by
  induction k with
  | zero => exact ⟨by rw [vN]; omega, by rw [vN]; decide⟩
  | succ k ih =>
    have hk := h k
    have hP := P_pos k
    rw [vN, Int.pow_succ]
    have h1 : 0 ≤ l.getD k 0 * 65536 ^ k := Int.mul_nonneg hk.1 (by omega)
    have h2 : l.getD k 0 * 65536 ^ k ≤ 65535 * 65536 ^ k := Int.mul_le_mul_of_nonneg_right (by omega) (by omega)
    omega
theorem vN_more (l : List Int) (k : Nat) (h : l.length ≤ k) : vN l k = vN l l.length := by
  induction k with
  | zero => rw [show l.length = 0 by omega]
  | succ k ih =>
    by_cases e : l.length = k + 1
    · rw [e]
    · rw [vN, ih (by omega), show l.getD k 0 = 0 by simp [show l.length ≤ k by omega]]; omega
theorem aboveL_val (a b : List Int) (ha : Dig a) (hb : Dig b) (k : Nat) : aboveL a b k = decide (vN b k < vN a k) := by
  induction k with
  | zero => rw [aboveL, vN, vN]; rfl
  | succ k ih =>
    have h1 := ha k
    have h2 := hb k
    have h3 := vN_bd a ha k
    have h4 := vN_bd b hb k
    have hP := P_pos k
    rw [aboveL_succ, vN, vN]
    generalize a.getD k 0 = x at *
    generalize b.getD k 0 = y at *
    rcases Int.lt_trichotomy x y with h | h | h
    · have : (x + 1) * 65536 ^ k ≤ y * 65536 ^ k := Int.mul_le_mul_of_nonneg_right (by omega) (by omega)
      rw [Int.add_mul] at this
      rw [if_pos (by omega), decide_eq_false (by omega), decide_eq_false (by omega)]
    · subst h
      rw [if_neg (by simp), ih]
      congr 1
      exact propext ⟨fun _ => by omega, fun _ => by omega⟩
    · have : (y + 1) * 65536 ^ k ≤ x * 65536 ^ k := Int.mul_le_mul_of_nonneg_right (by omega) (by omega)
      rw [Int.add_mul] at this
      rw [if_pos (by omega), decide_eq_true (by omega), decide_eq_true (by omega)]

/-! ### The product -/
theorem mul_bd (x y : Int) (hx : 0 ≤ x ∧ x < 65536) (hy : 0 ≤ y ∧ y < 65536) : 0 ≤ x * y ∧ x * y < 4294967296 := by
  have h1 : 0 ≤ x * y := Int.mul_nonneg hx.1 hy.1
  have h2 : x * y ≤ 65535 * y := Int.mul_le_mul_of_nonneg_right (by omega) hy.1
  omega
theorem mul1_eq (out : List Int) (p : Nat) (x y M : Int) (hx : 0 ≤ x ∧ x < 65536) (hy : 0 ≤ y ∧ y < 65536) (hB : Bd out M) (hM : M ≤ 1000000000000000) :
    mul1 out p x y = (out.set p (out.getD p 0 + x * y % 65536)).set (p + 1) (out.getD (p + 1) 0 + x * y / 65536) := by
  have h := mul_bd x y hx hy
  have h1 := hB p
  have h2 := hB (p + 1)
  unfold mul1
  generalize x * y = z at *
  rw [IntWalk.wrap64_in z (by omega), Int.tmod_eq_emod_of_nonneg h.1, Int.tdiv_eq_ediv_of_nonneg h.1, IntWalk.wrap64_in (z / 65536) (by omega),
    IntWalk.wrap64_in (out.getD p 0 + z % 65536) (by omega), IntWalk.wrap64_in (out.getD (p + 1) 0 + z / 65536) (by omega)]
theorem mul1_bd (out : List Int) (p : Nat) (x y M : Int) (hx : 0 ≤ x ∧ x < 65536) (hy : 0 ≤ y ∧ y < 65536) (hB : Bd out M) (hM : M ≤ 1000000000000000) (hp : p + 1 < out.length) :
    Bd (mul1 out p x y) (M + 65536) := by
  have h := mul_bd x y hx hy
  rw [mul1_eq out p x y M hx hy hB hM]
  intro i
  rw [getD_set _ _ _ _ (by simp; omega), getD_set _ _ _ _ (by omega)]
  have h1 := hB p
  have h2 := hB (p + 1)
  have h3 := hB i
  split
  · omega
  · split <;> omega
theorem mul1_val (out : List Int) (p : Nat) (x y M : Int) (hx : 0 ≤ x ∧ x < 65536) (hy : 0 ≤ y ∧ y < 65536) (hB : Bd out M) (hM : M ≤ 1000000000000000) (hp : p + 1 < out.length) (n : Nat) (hn : p + 1 < n) :
    vN (mul1 out p x y) n = vN out n + x * y * 65536 ^ p := by
  rw [mul1_eq out p x y M hx hy hB hM, vN_set _ _ _ (by simp; omega), if_pos hn, vN_set _ _ _ (by omega), if_pos (by omega), getD_set _ _ _ _ (by omega), if_neg (by omega), Int.pow_succ]
  generalize (65536 : Int) ^ p = P
  generalize x * y = z
  have h1 : z = 65536 * (z / 65536) + z % 65536 := (Int.mul_ediv_add_emod z 65536).symm
  have h2 : z * P = z / 65536 * (P * 65536) + z % 65536 * P := by
    have e1 : z / 65536 * (P * 65536) = 65536 * (z / 65536) * P := by rw [Int.mul_comm P 65536, ← Int.mul_assoc, Int.mul_comm (z / 65536) 65536]
    rw [e1, ← Int.add_mul]
    exact congrArg (· * P) h1
  rw [h2, show out.getD p 0 + z % 65536 - out.getD p 0 = z % 65536 by omega, show out.getD (p + 1) 0 + z / 65536 - out.getD (p + 1) 0 = z / 65536 by omega]
  omega
theorem rowL_ok (x : Int) (b out : List Int) (i : Nat) (M : Int) (hx : 0 ≤ x ∧ x < 65536) (hb : Dig b) (hB : Bd out M) (k : Nat) (hM : M + 65536 * k ≤ 1000000000000000) (hk : i + k < out.length) (n : Nat) (hn : i + k < n) :
    Bd (rowL x b out i k) (M + 65536 * k) ∧ vN (rowL x b out i k) n = vN out n + x * 65536 ^ i * vN b k := by
  induction k with
  | zero => exact ⟨by rw [rowL]; simpa using hB, by rw [rowL, vN]; omega⟩
  | succ k ih =>
    obtain ⟨h1, h2⟩ := ih (by omega) (by omega) (by omega)
    have hl := len_rowL x b out i k
    rw [rowL]
    refine ⟨?_, ?_⟩
    · have := mul1_bd _ (i + k) x (b.getD k 0) _ hx (hb k) h1 (by omega) (by omega)
      intro j
      have := this j
      omega
    · rw [mul1_val _ (i + k) x (b.getD k 0) _ hx (hb k) h1 (by omega) (by omega) n (by omega), h2, vN, Int.pow_add, Int.mul_add]
      have e : x * b.getD k 0 * (65536 ^ i * 65536 ^ k) = x * 65536 ^ i * (b.getD k 0 * 65536 ^ k) := by
        generalize (65536 : Int) ^ i = P
        generalize (65536 : Int) ^ k = Q
        generalize b.getD k 0 = y
        ac_rfl
      rw [e]; omega
theorem outL_ok (a b : List Int) (ha : Dig a) (hb : Dig b) (hla : a.length ≤ 1000) (hlb : b.length ≤ 1000) (i : Nat) (hi : i ≤ a.length) (hl : 0 < b.length) :
    Bd (outL a b i) (65536 * 1000 * i) ∧ vN (outL a b i) (a.length + b.length) = vN a i * vN b b.length := by
  induction i with
  | zero =>
    refine ⟨fun j => ?_, ?_⟩
    · have : (outL a b 0).getD j 0 = 0 := by
        rw [outL]
        by_cases h : j < a.length + b.length
        · simp [h]
        · simp [show a.length + b.length ≤ j by omega]
      omega
    · rw [vN, outL]
      have : ∀ n k, vN (List.replicate n 0) k = 0 := by
        intro n k
        induction k with
        | zero => rfl
        | succ k ih =>
          rw [vN, ih]
          have : (List.replicate n (0 : Int)).getD k 0 = 0 := by
            by_cases h : k < n
            · simp [h]
            · simp [show n ≤ k by omega]
          rw [this]; omega
      rw [this]; omega
  | succ i ih =>
    obtain ⟨h1, h2⟩ := ih (by omega)
    rw [outL]
    obtain ⟨h3, h4⟩ := rowL_ok (a.getD i 0) b (outL a b i) i _ (ha i) hb h1 b.length (by omega) (by rw [len_outL]; omega) (a.length + b.length) (by omega)
    refine ⟨fun j => by have := h3 j; omega, ?_⟩
    rw [h4, h2, vN, Int.add_mul]
theorem car1_eq (out : List Int) (i : Nat) (M : Int) (hB : Bd out M) (hM : M ≤ 1000000000000000) (hi : i + 1 < out.length) :
    car1 out i = (out.set (i + 1) (out.getD (i + 1) 0 + out.getD i 0 / 65536)).set i (out.getD i 0 % 65536) := by
  have h1 := hB i
  have h2 := hB (i + 1)
  unfold car1
  rw [if_pos hi, Int.tdiv_eq_ediv_of_nonneg h1.1, Int.tmod_eq_emod_of_nonneg h1.1, IntWalk.wrap64_in (out.getD i 0 / 65536) (by omega), IntWalk.wrap64_in _ (by omega)]
theorem carL_ok (out : List Int) (M : Int) (hB : Bd out M) (hM : M ≤ 100000000000000) (hM0 : 65536 ≤ M) (i : Nat) (hi : i < out.length) :
    (∀ j, 0 ≤ (carL out i).getD j 0 ∧ (j < i → (carL out i).getD j 0 < 65536) ∧ (i < j → (carL out i).getD j 0 ≤ M)) ∧ (carL out i).getD i 0 ≤ 2 * M ∧ vN (carL out i) out.length = vN out out.length := by
  induction i with
  | zero => exact ⟨fun j => ⟨(hB j).1, fun h => absurd h (by omega), fun _ => (hB j).2⟩, by have := hB 0; rw [carL]; omega, rfl⟩
  | succ i ih =>
    obtain ⟨h1, h2, h3⟩ := ih (by omega)
    have hl := len_carL out i
    have hB2 : Bd (carL out i) (2 * M) := by
      intro j
      have := h1 j
      rcases Nat.lt_trichotomy j i with h | h | h
      · have := this.2.1 h; omega
      · subst h; omega
      · have := this.2.2 h; omega
    have he := car1_eq (carL out i) i (2 * M) hB2 (by omega) (by omega)
    rw [carL, he]
    have hi0 := hB2 i
    have hi1 := (h1 (i + 1)).2.2 (by omega)
    have hi2 := (h1 (i + 1)).1
    refine ⟨fun j => ?_, ?_, ?_⟩
    · rw [getD_set _ _ _ _ (by simp; omega), getD_set _ _ _ _ (by omega)]
      have hj := h1 j
      by_cases e1 : j = i
      · subst e1; rw [if_pos rfl]; omega
      · rw [if_neg e1]
        by_cases e2 : j = i + 1
        · subst e2; rw [if_pos rfl]; refine ⟨by omega, fun h => by omega, fun h => by omega⟩
        · rw [if_neg e2]
          refine ⟨hj.1, fun h => hj.2.1 (by omega), fun h => hj.2.2 (by omega)⟩
    · rw [getD_set _ _ _ _ (by simp; omega), getD_set _ _ _ _ (by omega), if_neg (by omega), if_pos rfl]; omega
    · rw [vN_set _ _ _ (by simp; omega), if_pos (by omega), vN_set _ _ _ (by omega), if_pos (by omega), getD_set _ _ _ _ (by omega), if_neg (by omega), h3, Int.pow_succ]
      generalize (carL out i).getD i 0 = z
      generalize (carL out i).getD (i + 1) 0 = y
      generalize (65536 : Int) ^ i = P
      have h1 : z = 65536 * (z / 65536) + z % 65536 := (Int.mul_ediv_add_emod z 65536).symm
      have h2 : z / 65536 * (P * 65536) + (z % 65536 - z) * P = 0 := by
        have e1 : z / 65536 * (P * 65536) = 65536 * (z / 65536) * P := by rw [Int.mul_comm P 65536, ← Int.mul_assoc, Int.mul_comm (z / 65536) 65536]
        rw [e1, ← Int.add_mul, show 65536 * (z / 65536) + (z % 65536 - z) = 0 by omega, Int.zero_mul]
      rw [show y + z / 65536 - y = z / 65536 by omega]
      omega
theorem times_ok (a b : List Int) (ha : Dig a) (hb : Dig b) (hla : a.length ≤ 1000) (hlb : b.length ≤ 1000) (h1a : 0 < a.length) (h1b : 0 < b.length) :
    Dig (timesL a b) ∧ vN (timesL a b) (a.length + b.length) = vN a a.length * vN b b.length := by
  obtain ⟨o1, o2⟩ := outL_ok a b ha hb hla hlb a.length (by omega) h1b
  have hl := len_outL a b a.length
  have o1' : Bd (outL a b a.length) 100000000000 := fun j => by have := o1 j; omega
  obtain ⟨n, hn⟩ : ∃ n, a.length + b.length = n + 1 := ⟨a.length + b.length - 1, by omega⟩
  obtain ⟨c1, c2, c3⟩ := carL_ok (outL a b a.length) 100000000000 o1' (by omega) (by omega) n (by omega)
  have hlast : timesL a b = carL (outL a b a.length) n := by
    unfold timesL
    rw [hn, carL, car1, if_neg (by rw [len_carL]; omega)]
  rw [hl] at c3
  rw [hlast]
  refine ⟨?_, by rw [c3, o2]⟩
  intro j
  have hj := c1 j
  rcases Nat.lt_trichotomy j n with h | h | h
  · exact ⟨hj.1, hj.2.1 h⟩
  · subst h
    refine ⟨hj.1, ?_⟩
    have hv : vN (carL (outL a b a.length) j) (j + 1) = vN a a.length * vN b b.length := by rw [← hn, c3, o2]
    have hva := vN_bd a ha a.length
    have hvb := vN_bd b hb b.length
    have hlt : vN a a.length * vN b b.length < 65536 ^ (j + 1) := by
      rw [← hn, Int.pow_add]
      have h1 : vN a a.length * vN b b.length ≤ vN a a.length * 65536 ^ b.length := Int.mul_le_mul_of_nonneg_left (by omega) hva.1
      have h2 : vN a a.length * 65536 ^ b.length < 65536 ^ a.length * 65536 ^ b.length := Int.mul_lt_mul_of_pos_right hva.2 (P_pos _)
      omega
    rw [vN] at hv
    have hlow : ∀ k, k ≤ j → 0 ≤ vN (carL (outL a b a.length) j) k := by
      intro k hk
      induction k with
      | zero => rw [vN]; omega
      | succ k ih =>
        rw [vN]
        have := ih (by omega)
        have := Int.mul_nonneg (c1 k).1 (Int.le_of_lt (P_pos k))
        omega
    have h0 := hlow j (Nat.le_refl _)
    have hP := P_pos j
    have h5 : (carL (outL a b a.length) j).getD j 0 * 65536 ^ j < 65536 * 65536 ^ j := by
      rw [Int.pow_succ] at hlt; omega
    exact Int.lt_of_mul_lt_mul_right h5 (by omega)
  · have : (carL (outL a b a.length) n).getD j 0 = 0 := by simp [show (carL (outL a b a.length) n).length ≤ j by rw [len_carL]; omega]
    omega
/-! ### The root -/
theorem digitsL_ok (t : Int) (h0 : 0 ≤ t) (h1 : t < 281474976710656) : Dig (digitsL t) ∧ vN (digitsL t) 3 = t := by
  refine ⟨fun i => ?_, ?_⟩
  · match i with
    | 0 => show 0 ≤ t % 65536 ∧ t % 65536 < 65536; omega
    | 1 => show 0 ≤ t / 65536 % 65536 ∧ t / 65536 % 65536 < 65536; omega
    | 2 => show 0 ≤ t / 65536 / 65536 ∧ t / 65536 / 65536 < 65536; omega
    | n + 3 => show 0 ≤ (0 : Int) ∧ (0 : Int) < 65536; omega
  · show 0 + t % 65536 * 65536 ^ 0 + t / 65536 % 65536 * 65536 ^ 1 + t / 65536 / 65536 * 65536 ^ 2 = t
    simp only [Int.pow_zero, Int.pow_succ]; omega
theorem mostL_get (p : Int) (q i : Nat) : (mostL p q).getD i 0 = if i = 2 * q then p else 0 := by
  unfold mostL
  by_cases h : i = 2 * q
  · subst h; simp
  · rw [if_neg h]
    by_cases h2 : i < 2 * q
    · rw [List.getD_eq_getElem?_getD, List.getElem?_append_left (by simp; omega)]; simp [h2]
    · rw [List.getD_eq_getElem?_getD, List.getElem?_eq_none (by simp; omega)]; rfl
theorem mostL_ok (p : Int) (q : Nat) (h0 : 0 ≤ p) (h1 : p < 65536) : Dig (mostL p q) ∧ ∀ k, vN (mostL p q) k = if 2 * q < k then p * 65536 ^ (2 * q) else 0 := by
  refine ⟨fun i => by rw [mostL_get]; split <;> omega, fun k => ?_⟩
  induction k with
  | zero => rfl
  | succ k ih =>
    rw [vN, ih, mostL_get]
    by_cases h : k = 2 * q
    · subst h; rw [if_neg (by omega), if_pos rfl, if_pos (by omega)]; omega
    · rw [if_neg h]
      by_cases h2 : 2 * q < k
      · rw [if_pos h2, if_pos (by omega)]; omega
      · rw [if_neg h2, if_neg (by omega)]; omega
theorem powL_ok (t : Int) (q : Nat) (hq : q = 2 ∨ q = 3) (h0 : 0 ≤ t) (h1 : t < 281474976710656) : Dig (powL t q) ∧ (powL t q).length = 3 * q ∧ vN (powL t q) (3 * q) = t ^ q := by
  obtain ⟨d1, d2⟩ := digitsL_ok t h0 h1
  have l3 := length_digitsL t
  obtain ⟨s1, s2⟩ := times_ok _ _ d1 d1 (by omega) (by omega) (by omega) (by omega)
  have ls := length_timesL (digitsL t) (digitsL t)
  have hsq : vN (timesL (digitsL t) (digitsL t)) (3 * 2) = t ^ 2 := by
    rw [l3, d2] at s2
    rw [show 3 * 2 = 3 + 3 from rfl, s2, Int.pow_succ, Int.pow_succ, Int.pow_zero, Int.one_mul]
  rcases hq with rfl | rfl
  · have e : powL t 2 = timesL (digitsL t) (digitsL t) := by unfold powL; rw [if_neg (by decide)]
    rw [e]
    exact ⟨s1, by omega, hsq⟩
  · have e : powL t 3 = timesL (timesL (digitsL t) (digitsL t)) (digitsL t) := by unfold powL; rw [if_pos rfl]
    rw [e]
    obtain ⟨c1, c2⟩ := times_ok _ _ s1 d1 (by omega) (by omega) (by omega) (by omega)
    have lc := length_timesL (timesL (digitsL t) (digitsL t)) (digitsL t)
    refine ⟨c1, by omega, ?_⟩
    rw [ls, l3, d2] at c2
    rw [show 3 * 3 = 3 + 3 + 3 from rfl, c2, show 3 + 3 = 3 * 2 from rfl, hsq, Int.pow_succ t 2]
theorem rootStep_eq (p : Int) (q : Nat) (r : Int) (b : Nat) (hq : q = 2 ∨ q = 3) (hp0 : 0 ≤ p) (hp1 : p < 65536) (hr : 0 ≤ r) (hb : b ≤ 37) :
    rootStep p q r b = if 137438953472 ≤ r + 2 ^ b then r else if p * 65536 ^ (2 * q) < (r + 2 ^ b) ^ q then r else r + 2 ^ b := by
  unfold rootStep
  have hpw := pow37 b hb
  by_cases h : 137438953472 ≤ r + 2 ^ b
  · rw [if_pos h, if_pos h]
  · rw [if_neg h, if_neg h]
    obtain ⟨p1, p2, p3⟩ := powL_ok (r + 2 ^ b) q hq (by omega) (by omega)
    obtain ⟨m1, m2⟩ := mostL_ok p q hp0 hp1
    have hl : (mostL p q).length = 2 * q + 1 := by unfold mostL; simp
    have hn : (powL (r + 2 ^ b) q).length ≤ (powL (r + 2 ^ b) q).length + (mostL p q).length + 1 := by omega
    have e : aboveL (powL (r + 2 ^ b) q) (mostL p q) ((powL (r + 2 ^ b) q).length + (mostL p q).length + 1) = decide (p * 65536 ^ (2 * q) < (r + 2 ^ b) ^ q) := by
      rw [aboveL_val _ _ p1 m1, vN_more _ _ hn, m2, p2, p3, if_pos (by omega)]
    rw [e]
    simp only [decide_eq_true_eq]
/-- The greatest number whose power is not above, bit by bit from the top. -/
theorem rootK_eq (p : Int) (q : Nat) (T : Int) (hq : q = 2 ∨ q = 3) (hp0 : 0 ≤ p) (hp1 : p < 65536) (hT0 : 0 ≤ T) (hT1 : T < 137438953472) (hlo : T ^ q ≤ p * 65536 ^ (2 * q)) (hhi : p * 65536 ^ (2 * q) < (T + 1) ^ q) (k : Nat) (hk : k ≤ 38) :
    rootK p q k = T - T % 2 ^ (38 - k) := by
  have mono : ∀ x y : Int, 0 ≤ x → x ≤ y → x ^ q ≤ y ^ q := by
    intro x y h1 h2
    rcases hq with rfl | rfl
    · simp only [Int.pow_succ, Int.pow_zero, Int.one_mul]
      exact Int.mul_le_mul h2 h2 h1 (by omega)
    · simp only [Int.pow_succ, Int.pow_zero, Int.one_mul]
      exact Int.mul_le_mul (Int.mul_le_mul h2 h2 h1 (by omega)) h2 h1 (Int.mul_nonneg (by omega) (by omega))
  induction k with
  | zero => rw [rootK, show 38 - 0 = 38 from rfl, show (2 : Int) ^ 38 = 274877906944 from by decide]; omega
  | succ k ih =>
    have hpw := pow37 (37 - k) (by omega)
    have ih := ih (by omega)
    have hmod := Int.emod_nonneg T (b := 2 ^ (38 - k)) (by have : (2 : Int) ^ (38 - k) = 2 * 2 ^ (37 - k) := by rw [show 38 - k = 37 - k + 1 by omega, Int.pow_succ]; omega
                                                           omega)
    have hr : 0 ≤ rootK p q k := (rootK_bd p q k).1
    rw [rootK, rootStep_eq p q _ _ hq hp0 hp1 hr (by omega)]
    rw [show 38 - k = 37 - k + 1 by omega, Int.pow_succ] at ih
    rw [show 38 - (k + 1) = 37 - k by omega]
    generalize (2 : Int) ^ (37 - k) = B at *
    have hdm : T % (B * 2) % B = T % B := Int.emod_emod_of_dvd T (Int.dvd_mul_right B 2)
    have hm0 := Int.emod_nonneg T (b := B * 2) (by omega)
    have hm1 := Int.emod_lt_of_pos T (b := B * 2) (by omega)
    by_cases hm : T % (B * 2) < B
    · rw [Int.emod_eq_of_lt hm0 hm] at hdm
      have ht : T + 1 ≤ rootK p q k + B := by omega
      have hpow := mono _ _ (by omega) ht
      by_cases h : 137438953472 ≤ rootK p q k + B
      · rw [if_pos h]; omega
      · rw [if_neg h, if_pos (by omega)]; omega
    · have e : T % (B * 2) % B = T % (B * 2) - B := by
        rw [← Int.sub_emod_right, Int.emod_eq_of_lt (by omega) (by omega)]
      rw [e] at hdm
      have hb0 := Int.emod_nonneg T (b := B) (by omega)
      have ht : rootK p q k + B ≤ T := by omega
      have hpow := mono _ _ (by omega) ht
      rw [if_neg (by omega), if_neg (by omega)]; omega
theorem root_is (p : Int) (q : Nat) (T : Int) (hq : q = 2 ∨ q = 3) (hp0 : 0 ≤ p) (hp1 : p < 65536) (hT0 : 0 ≤ T) (hT1 : T < 137438953472) (hlo : T ^ q ≤ p * 65536 ^ (2 * q)) (hhi : p * 65536 ^ (2 * q) < (T + 1) ^ q) :
    rootK p q 38 = T := by
  rw [rootK_eq p q T hq hp0 hp1 hT0 hT1 hlo hhi 38 (Nat.le_refl _)]
  simp
end Go.Proofs.YtlocgfekgbdlmaaDoor

/- LAYER 1: the numbers of the roots: package word's tables, and the document's. -/
namespace Go.Proofs.YtlocgfekgbdlmaaDoor
open Go.RowKit

def primeT : List Nat := [2, 3, 5, 7, 11, 13, 17, 19, 23, 29, 31, 37, 41, 43, 47, 53, 59, 61, 67, 71, 73, 79, 83, 89, 97, 101, 103, 107, 109, 113, 127, 131, 137, 139, 149, 151, 157, 163, 167, 173, 179, 181, 191, 193, 197, 199, 211, 223, 227, 229, 233, 239, 241, 251, 257, 263, 269, 271, 277, 281, 283, 293, 307, 311]
def primeOk (i : Nat) : Bool := isP (primeT.getD i 0) && decide (cnt (primeT.getD i 0) = i) && decide (2 ≤ primeT.getD i 0) && decide (primeT.getD i 0 ≤ 1000)
/-- The root's whole part is hi: what stands behind the point is as the table has it. -/
def rootOk (p q hi x : Nat) : Bool := decide ((hi * 4294967296 + x) ^ q ≤ p * 65536 ^ (2 * q)) && decide (p * 65536 ^ (2 * q) < (hi * 4294967296 + x + 1) ^ q) && decide (hi * 4294967296 + x < 137438953472) && decide (x < 4294967296) && decide (p < 65536)
def hiC (p : Nat) : Nat := if p < 8 then 1 else if p < 27 then 2 else if p < 64 then 3 else if p < 125 then 4 else if p < 216 then 5 else 6
def hiS (p : Nat) : Nat := if p < 4 then 1 else if p < 9 then 2 else if p < 16 then 3 else 4
def cubeOk (i : Nat) : Bool := rootOk (primeT.getD i 0) 3 (hiC (primeT.getD i 0)) (cubeT.getD i 0).toNat && decide (0 ≤ cubeT.getD i 0)
def squareOk (i : Nat) : Bool := rootOk (primeT.getD i 0) 2 (hiS (primeT.getD i 0)) (squareT.getD i 0).toNat && decide (0 ≤ squareT.getD i 0)
set_option maxRecDepth 100000 in
theorem primes_ok : (List.range 64).all primeOk = true := by decide +kernel
set_option maxRecDepth 100000 in
theorem cubes_ok : (List.range 64).all cubeOk = true := by decide +kernel
set_option maxRecDepth 100000 in
theorem squares_ok : (List.range 8).all squareOk = true := by decide +kernel
theorem prime_at (i : Nat) (h : i < 64) : isP (primeT.getD i 0) = true ∧ cnt (primeT.getD i 0) = i ∧ 2 ≤ primeT.getD i 0 ∧ primeT.getD i 0 ≤ 1000 := by
  have := List.all_eq_true.1 primes_ok i (by simpa using h)
  simp only [primeOk, Bool.and_eq_true, decide_eq_true_eq] at this
  exact ⟨this.1.1.1, this.1.1.2, this.1.2, this.2⟩
theorem root_of (p q hi : Nat) (z : Int) (hq : q = 2 ∨ q = 3) (h : rootOk p q hi z.toNat = true) (hz : 0 ≤ z) : rootK p q 38 % 4294967296 = z ∧ rootK p q 38 < 137438953472 := by
  simp only [rootOk, Bool.and_eq_true, decide_eq_true_eq] at h
  obtain ⟨⟨⟨⟨h1, h2⟩, h3⟩, h4⟩, h5⟩ := h
  obtain ⟨x, rfl⟩ := Int.eq_ofNat_of_zero_le hz
  rw [Int.toNat_natCast] at *
  have e1 : (((hi * 4294967296 + x) ^ q : Nat) : Int) ≤ ((p * 65536 ^ (2 * q) : Nat) : Int) := by exact Int.ofNat_le.2 h1
  have e2 : ((p * 65536 ^ (2 * q) : Nat) : Int) < (((hi * 4294967296 + x + 1) ^ q : Nat) : Int) := by exact Int.ofNat_lt.2 h2
  rw [Int.natCast_pow, Int.natCast_mul, Int.natCast_pow] at e1
  rw [Int.natCast_pow, Int.natCast_mul, Int.natCast_pow] at e2
  have e := root_is (p : Int) q ((hi * 4294967296 + x : Nat) : Int) hq (by omega) (by omega) (by omega) (by omega) e1 e2
  rw [e]
  omega
theorem cube_at (i : Nat) (h : i < 64) : rootK (primeT.getD i 0 : Nat) 3 38 % 4294967296 = cubeT.getD i 0 := by
  have := List.all_eq_true.1 cubes_ok i (by simpa using h)
  simp only [cubeOk, Bool.and_eq_true, decide_eq_true_eq] at this
  exact (root_of _ 3 _ _ (.inr rfl) this.1 this.2).1
theorem square_at (i : Nat) (h : i < 8) : rootK (primeT.getD i 0 : Nat) 2 38 % 4294967296 = squareT.getD i 0 := by
  have := List.all_eq_true.1 squares_ok i (by simpa using h)
  simp only [squareOk, Bool.and_eq_true, decide_eq_true_eq] at this
  exact (root_of _ 2 _ _ (.inl rfl) this.1 this.2).1

end Go.Proofs.YtlocgfekgbdlmaaDoor

/- LAYER 3: the document's SHA-256. -/
namespace Go.Proofs.YtlocgfekgbdlmaaDoor
open Go Go.RowKit

theorem rstart3_any (w : World) :
    Calls Tryd.prog 35 #[] w (GaveWords S0.list w) := by
  go_enter Tryd.func35, Tryd.ntmps35
  go_wp2
  go_ret
  exact ⟨_, rfl, World.ownsRow_lit w #[_, _, _, _, _, _, _, _] 8 (Nat.le_refl _) (by unfold maxLen; omega) rfl, (Below.refl _ _).alloc (Nat.le_refl _) _⟩
theorem square_words_all : (List.range 8).all (fun i => decide (u (S0.list.getD i 0#32) = squareT.getD i 0)) = true := by decide +kernel
theorem square_words (i : Nat) (h : i < 8) : squareT.getD i 0 = u (S0.list.getD i 0#32) := by
  have := List.all_eq_true.1 square_words_all i (by simpa using h)
  exact (by simpa using this : _ = _).symm
set_option maxRecDepth 20000 in
set_option maxHeartbeats 1000000 in
theorem rof_any (A : Option Addr) (n c : Nat) (l : List UInt8) (w : World) (hs : Sl w A c (byts l)) (hn : n = l.length) (hm : l.length ≤ 35184372088832) :
    Calls Tryd.prog 28 #[.slice A n c] w (GaveBytes (shaL l) w) := by
  subst hn
  obtain ⟨i0, hi, hz0, hz1, hz2⟩ := info_parts infoByte
  have hm0 : 0 + l.length ≤ maxLen := by unfold maxLen; omega
  have hmb : (0 + l.length) * 1 ≤ 140737488355328 := by omega
  have hpl := length_padL l.length
  have hpn := noughts_lt l.length
  have hm1 : 0 + l.length + (padL l.length).length ≤ maxLen := by unfold maxLen; omega
  have hmc : (0 + l.length + (padL l.length).length) * 1 ≤ 140737488355328 := by omega
  have hpm := padded_mod l
  have hwl : IntKind.u64.wrap (l.length : Int) = (l.length : Int) := by rw [IntKind.wrap_u64]; omega
  have hown0 : (w.alloc (.cells #[] 5)).ownsRow w.heap.size 5 1 (.slice (some ⟨w.heap.size, 0, none⟩) 0 0) 0 [] := World.ownsRow_lit w #[] 0 (Nat.le_refl _) (by unfold maxLen; omega) rfl
  have hb0 : Below w.heap.size w (w.alloc (.cells #[] 5)) := (Below.refl _ _).alloc (Nat.le_refl _) _
  obtain ⟨M, hM⟩ : ∃ M, M = l ++ padL l.length := ⟨_, rfl⟩
  have hMl : M.length = l.length + (padL l.length).length := by rw [hM, List.length_append]
  have HM := Lib.hid hM
  have HML := Lib.hid hMl
  have HPM := Lib.hid hpm
  have HPL := Lib.hid hpl
  clear hM hMl hpm hpl
  go_enter Tryd.func28, Tryd.ntmps28
  go_wp2_with (first
    | (at_builtin; refine wpList_append_sl rfl (.tmp 9) (.tmp 10) 28 rfl w.heap.size 5 i0 _ 1 Tryd.underlying28 hi hz0 hz1 hz2 rfl _ 0 [] rfl hown0 A l.length c (byts l) rfl (length_byts l).symm (hs.later (Nat.le_refl _) hb0) (byts_one l) hm0 hmb hb0.size ?_; intro v1 w1 hown1 hg1; have hb1 : Below w.heap.size w w1 := hb0.grown hg1 hb0.size (fun k hk => (hown0.lt k hk).1))
    | (go_at_call 34; refine (rpad_any l.length _).mono ?_; rintro e w2 ⟨v2, rfl, hown2, hb2⟩; obtain ⟨A2, c2, rfl, hl2, hsl2⟩ := Sl.of_own hown2; have hown1' := own_later hown1 hb2 (Nat.le_refl _); have hbB := hb1.trans (hb2.mono hb1.size))
    | (at_builtin; refine wpList_append_sl rfl (.tmp 11) (.tmp 15) 28 rfl w.heap.size 5 i0 _ 1 Tryd.underlying28 hi hz0 hz1 hz2 rfl _ (0 + l.length) ([] ++ byts l) rfl hown1' A2 (padL l.length).length c2 (byts (padL l.length)) rfl (length_byts _).symm hsl2 (byts_one _) hm1 hmc hbB.size ?_; intro v3 w3 hown3 hg3; have hb3 : Below w.heap.size w w3 := hbB.grown hg3 hbB.size (fun k hk => (hown1'.lt k hk).1))
    | (go_at_call 35; refine (rstart3_any _).mono ?_; rintro e w4 ⟨v4, rfl, hown4, hb4⟩))
  have hM0 : 0 < M.length := by rw [HML.out, HPL.out]; omega
  have hM64 : M.length % 64 = 0 := by rw [HML.out]; exact HPM.out
  have e0 : 0 + l.length + (padL l.length).length = M.length := by rw [HML.out]; omega
  have eM : [] ++ byts l ++ byts (padL l.length) = byts M := by rw [HM.out, byts_append, List.nil_append]
  rw [e0, eM] at hown3
  have hl8 : S0.list.length = 8 := rfl
  rw [hl8] at hown4
  obtain ⟨g3, cap3, rfl, _, hgl3⟩ := hown3.form hM0
  obtain ⟨A3, c3, he3, _, hsl3⟩ := Sl.of_own hown3
  cases he3
  have hsl4 := hsl3.later (Nat.le_refl _) hb4
  have hb4' := hb3.trans (hb4.mono hb3.size)
  have hroom := hsl4.room
  rw [length_byts] at hroom
  have hMm : M.length ≤ 140737488355328 := by rw [HML.out]; omega
  clear hown0 hb0 hown1 hg1 hb1 hb2 hown2 hl2 hsl2 hown1' hbB hg3 hown3 hsl3 e0 eM hl8 hwl
  go_loopw [4, 5] (fun v i wr => ∃ k : Nat, 64 * k ≤ M.length ∧ i = .int .i64 ((64 * k : Nat) : Int) ∧ wr.ownsRow w3.heap.size 53 1 v 8 (words (stK M k).list) ∧ Below w4.heap.size w4 wr) (fun _ i _ => M.length - (intOf i).toNat)
  case atStart => exact ⟨0, by omega, rfl, hown4, Below.refl _ _⟩
  case round =>
    clear hown4
    obtain ⟨k, hk, rfl, hown, hb⟩ := hrel
    by_cases hlt : 64 * k < M.length
    · have hk1 : 64 * k + 64 ≤ M.length := by omega
      obtain ⟨g5, cap5, rfl, hg5, hgl5⟩ := hown.form (by omega)
      obtain ⟨A5, c5, he5, _, hsl5⟩ := Sl.of_own hown
      cases he5
      have hsl6 := hsl4.later (Nat.le_refl _) hb
      have hsl7 := hsl6.cut (k := 64 * k) (by rw [length_byts]; omega)
      rw [blkAt_cut, Nat.zero_add] at hsl7
      have hsl8 := hsl7.pre
      have hbl := Lib.hid (length_blkAt M k (by omega))
      have HST := Lib.hid (show stK M (k + 1) = compS (blkAt M k) (stK M k) from rfl)
      generalize blkAt M k = B at *
      generalize stK M k = st at *
      obtain ⟨p, hp⟩ : ∃ p, p = 64 * k := ⟨_, rfl⟩
      rw [← hp] at hlt hk1 hsl8 ⊢
      have hI0 : IntKind.i64.wrap ((p : Int) + 64) = (p : Int) + 64 := by rw [IntKind.wrap_i64]; omega
      have hI1 : (p : Int) + 64 ≤ (cap3 : Int) := by omega
      have hI2 : ¬ (cap3 = p) := by omega
      have hI3 : (p : Int) < (M.length : Int) := by omega
      have HPk := Lib.hid hp
      clear hp hsl6 hsl7 hk
      have hI4 : p + 64 - p = 64 := by omega
      have hle : w3.heap.size ≤ wr.heap.size := Nat.le_trans hb4.size hb.size
      go_wp2_with (go_at_call 36; refine (rcompress_any g5 0 cap5 g3 p (cap3 - p) st B hbl.out _ hsl5 hsl8).mono ?_; rintro e w6 ⟨v6, rfl, hown6, hb6⟩)
      have hown6' : w6.ownsRow w3.heap.size 53 1 v6 8 (words (compS B st).list) := own_mono hown6 hle
      have hb6' := below_step hb hb6
      clear hI0 hI1 hI2 hI4 hsl8 hsl5 hown6 hb6 hown hb
      go_roundw
      case rel =>
        refine ⟨k + 1, by have := HPk.out; omega, ?_, by rw [HST.out]; exact hown6', hb6'⟩
        rw [show 64 * (k + 1) = p + 64 by rw [HPk.out]; omega]
        go_num
      case measure => simp [intOf]; omega
    · have ek : k = M.length / 64 := by omega
      have hst : (stK M k).list = (shaS l).list := by rw [ek, HML.out, HM.out]; rfl
      rw [hst] at hown
      have hge : ¬ (((64 * k : Nat) : Int) < (M.length : Int)) := by omega
      obtain ⟨p, hp⟩ : ∃ p, p = 64 * k := ⟨_, rfl⟩
      rw [← hp] at hge ⊢
      obtain ⟨ws, hws⟩ : ∃ ws, ws = (shaS l).list := ⟨_, rfl⟩
      have hwsl : ws.length = 8 := by rw [hws]; rfl
      rw [← hws] at hown
      have HWS := Lib.hid hws
      have HWL := Lib.hid hwsl
      obtain ⟨g5, cap5, rfl, hg5, hgl5⟩ := hown.form (by omega)
      have hb5 := hb4'.trans (hb.mono hb4'.size)
      clear hb
      obtain ⟨wo, rfl⟩ : ∃ wo : World, wo = wr := ⟨_, rfl⟩
      have hownB : (wo.alloc (.cells #[] 5)).ownsRow wo.heap.size 5 1 (.slice (some ⟨wo.heap.size, 0, none⟩) 0 0) 0 (byts (wordsB (ws.take 0))) := World.ownsRow_lit wo #[] 0 (Nat.le_refl _) (by unfold maxLen; omega) rfl
      have hbC : Below wo.heap.size wo (wo.alloc (.cells #[] 5)) := (Below.refl _ wo).alloc (Nat.le_refl _) (.cells #[] 5)
      clear hst hp hws hwsl ek
      go_wp2_with fail
      go_loopw [6, 34] (fun v i wq => ∃ j : Nat, j ≤ 8 ∧ i = .int .i64 j ∧ wq.ownsRow wo.heap.size 5 1 v (4 * j) (byts (wordsB (ws.take j))) ∧ Below wo.heap.size wo wq) (fun _ i _ => 8 - (intOf i).toNat)
      case atStart => exact ⟨0, by omega, rfl, hownB, hbC⟩
      case round =>
        clear hownB hbC
        obtain ⟨j, hj, rfl, howno, hb⟩ := hrel
        by_cases hlt8 : j < 8
        · have cj := own_cell (own_later hown hb (Nat.le_refl _)) j (by rw [HWL.out]; exact hlt8)
          have HS := Lib.hid (wordsB_succ ws j (by rw [HWL.out]; exact hlt8))
          generalize ws.getD j 0#32 = x at *
          have n1 : 4 * j + 4 ≤ maxLen := by unfold maxLen; omega
          have n2 : (4 * j + 4) * 1 ≤ 140737488355328 := by omega
          go_wp2_with (first
            | (go_at_call 37; refine (rbytes_any x _).mono ?_; rintro e w7 ⟨v7, rfl, hown7, hb7⟩; obtain ⟨A7, c7, rfl, _, hsl9⟩ := Sl.of_own hown7; have howno' := own_later howno hb7 (Nat.le_refl _); have hbD := below_step hb hb7)
            | (at_builtin; refine wpList_append_sl rfl (.tmp 38) (.tmp 40) 28 rfl wo.heap.size 5 i0 _ 1 Tryd.underlying28 hi hz0 hz1 hz2 rfl _ (4 * j) (byts (wordsB (ws.take j))) rfl howno' A7 (bytesL x).length c7 (byts (bytesL x)) rfl (length_byts _).symm hsl9 (byts_one _) n1 n2 hbD.size ?_; intro v8 w8 hown8 hg8; have hb8 : Below wo.heap.size wo w8 := hbD.grown hg8 hbD.size (fun k hk => (howno'.lt k hk).1)))
          clear hg8 howno' hbD hown7 hb7 hsl9 howno hb cj
          rw [← byts_append, ← HS.out] at hown8
          go_roundw
          case rel => exact ⟨j + 1, by omega, by go_num, hown8, hb8⟩
          case measure => simp [intOf]; omega
        · have e8 : j = 8 := by omega
          rw [e8, List.take_of_length_le (by rw [HWL.out]; exact Nat.le_refl _), HWS.out] at howno
          go_wp2
          go_ret
          exact ⟨_, rfl, own_mono howno hb5.size, hb5.trans (hb.mono hb5.size)⟩
end Go.Proofs.YtlocgfekgbdlmaaDoor

/- LAYER 4: the document's HMAC. -/
namespace Go.Proofs.YtlocgfekgbdlmaaDoor
open Go Go.RowKit

theorem xor_take (x : UInt8) (k : List UInt8) (j : Nat) (h : j < k.length) : xorL x (k.take (j + 1)) = xorL x (k.take j) ++ [k.getD j 0 ^^^ x] := by
  have e : k.take (j + 1) = k.take j ++ [k[j]] := by rw [List.take_add_one]; simp [h]
  have g : k.getD j 0 = k[j] := by simp [h]
  rw [e, g]
  unfold xorL
  rw [List.map_append]
  rfl
theorem key_in {s k : List UInt8} {j : Nat} (hs : s = shortL k) (h : j < s.length) : (keyL k).getD j 0 = s.getD j 0 := by
  unfold keyL
  rw [← hs, List.getD_eq_getElem?_getD, List.getElem?_append_left h, List.getD_eq_getElem?_getD]
theorem key_out {s k : List UInt8} {j : Nat} (hs : s = shortL k) (h : s.length ≤ j) : (keyL k).getD j 0 = 0 := by
  unfold keyL
  rw [← hs, List.getD_eq_getElem?_getD, List.getElem?_append_right h, List.getElem?_replicate]
  split <;> rfl
set_option maxRecDepth 20000 in
set_option maxHeartbeats 1000000 in
theorem rturned_any (A : Option Addr) (n c : Nat) (k : List UInt8) (x : UInt8) (w : World) (hs : Sl w A c (byts k)) (hn : n = k.length) (hm : k.length ≤ 35184372088832) :
    Calls Tryd.prog 29 #[.slice A n c, .int .u8 (x.toNat : Int)] w (GaveBytes (xorL x (keyL k)) w) := by
  subst hn
  obtain ⟨i0, hi, hz0, hz1, hz2⟩ := info_parts infoByte
  have HKL := Lib.hid (length_keyL k)
  by_cases h64 : k.length ≤ 64
  · have HS := Lib.hid (show k = shortL k by unfold shortL; rw [if_pos h64])
    have hb1 := Below.refl w.heap.size w
    go_enter Tryd.func29, Tryd.ntmps29
    go_wp2
    have hown0 : (w.alloc (.cells #[] 5)).ownsRow w.heap.size 5 1 (.slice (some ⟨w.heap.size, 0, none⟩) 0 0) 0 [] := World.ownsRow_lit w #[] 0 (Nat.le_refl _) (by unfold maxLen; omega) rfl
    have hb0 := (Below.refl w.heap.size w).alloc (Nat.le_refl _) (.cells #[] 5)
    go_loopw [5, 6] (fun v i wr => ∃ j : Nat, j ≤ 64 ∧ i = .int .i64 j ∧ wr.ownsRow w.heap.size 5 1 v j (byts (xorL x ((keyL k).take j))) ∧ Below w.heap.size w wr) (fun _ i _ => 64 - (intOf i).toNat)
    case atStart => exact ⟨0, by omega, rfl, hown0, hb0⟩
    case round =>
      clear hown0 hb0
      obtain ⟨j, hj, rfl, hown, hb⟩ := hrel
      by_cases hlt : j < 64
      · have hd1 : j + 1 ≤ maxLen := by unfold maxLen; omega
        have hd2 : (j + 1) * 1 ≤ 140737488355328 := by omega
        have HX := Lib.hid (xor_take x (keyL k) j (by rw [HKL.out]; exact hlt))
        by_cases hin : j < k.length
        · obtain ⟨b, o, hA, _, hcj⟩ := (hs.later (Nat.le_refl _) hb).rd.get (i := j) (by rw [length_byts]; exact hin)
          have hix := index_bytes A b o k.length c j hA hin
          rw [get_byts _ _ hin] at hcj
          have HY := Lib.hid (key_in HS.out hin)
          generalize k.getD j 0 = y at *
          have hby := Lib.hid (show byts [y ^^^ x] = [Value.int .u8 (bits .xor .u8 (y.toNat : Int) (x.toNat : Int))] by rw [byte_xor]; rfl)
          have HA := Lib.hid hA
          clear hA
          go_wp2_with (at_builtin; go_loud (refine wpList_append_own _ rfl (.tmp 26) (.tmp 30) 28 rfl w.heap.size 5 i0 _ 1 1 Tryd.underlying28 hi hz0 hz1 hz2 rfl (by omega) _ j (byts (xorL x ((keyL k).take j))) rfl (hown.alloc _) ⟨wr.heap.size, 0, none⟩ 1 1 (byts [y ^^^ x]) rfl (length_byts _) (by rw [hby.out]; exact cells_new _ _ _) (byts_one _) hd1 hd2 (by rw [World.size_alloc]; have := hb.size; omega) ?_; intro v3 w3 hown3 hg3 _; have hb3 : Below w.heap.size w w3 := (hb.alloc hb.size _).grown hg3 (by rw [World.size_alloc]; have := hb.size; omega) (fun k hk => (hown.lt k hk).1)))
          rw [← byts_append, ← HY.out, ← HX.out] at hown3
          clear hb hown hg3
          go_roundw
          case rel => exact ⟨j + 1, by omega, by go_num, hown3, hb3⟩
          case measure => simp [intOf]; omega
        · have HY := Lib.hid (key_out HS.out (Nat.le_of_not_lt hin))
          have hby := Lib.hid (show byts [0 ^^^ x] = [Value.int .u8 (bits .xor .u8 0 (x.toNat : Int))] by rw [show (0 : Int) = ((0 : UInt8).toNat : Int) from rfl, byte_xor]; rfl)
          go_wp2_with (at_builtin; go_loud (refine wpList_append_own _ rfl (.tmp 26) (.tmp 30) 28 rfl w.heap.size 5 i0 _ 1 1 Tryd.underlying28 hi hz0 hz1 hz2 rfl (by omega) _ j (byts (xorL x ((keyL k).take j))) rfl (hown.alloc _) ⟨wr.heap.size, 0, none⟩ 1 1 (byts [0 ^^^ x]) rfl (length_byts _) (by rw [hby.out]; exact cells_new _ _ _) (byts_one _) hd1 hd2 (by rw [World.size_alloc]; have := hb.size; omega) ?_; intro v3 w3 hown3 hg3 _; have hb3 : Below w.heap.size w w3 := (hb.alloc hb.size _).grown hg3 (by rw [World.size_alloc]; have := hb.size; omega) (fun k hk => (hown.lt k hk).1)))
          rw [← byts_append, ← HY.out, ← HX.out] at hown3
          clear hb hown hg3
          go_roundw
          case rel => exact ⟨j + 1, by omega, by go_num, hown3, hb3⟩
          case measure => simp [intOf]; omega
      · have e64 : j = 64 := by omega
        rw [e64, List.take_of_length_le (by rw [HKL.out]; exact Nat.le_refl _)] at hown
        go_wp2
        go_ret
        refine ⟨_, rfl, ?_, hb1.trans (hb.mono hb1.size)⟩
        rw [length_xorL, HKL.out]
        exact own_mono hown hb1.size
  · have hr := Lib.hid (rof_any A k.length c k w hs rfl hm)
    obtain ⟨s, hsq⟩ : ∃ s, s = shaL k := ⟨_, rfl⟩
    have HS := Lib.hid (show s = shortL k by unfold shortL; rw [if_neg h64, hsq])
    have hsl64 := Lib.hid (show s.length = 32 by rw [hsq]; exact length_shaL k)
    rw [← hsq] at hr
    clear hsq
    go_enter Tryd.func29, Tryd.ntmps29
    go_wp2_with (go_at_call 28; refine hr.out.mono ?_; rintro e w1 ⟨v1, rfl, hown1, hb1⟩; obtain ⟨A1, c1, rfl, _, hsl1⟩ := Sl.of_own hown1; clear hown1)
    have hown0 : (w1.alloc (.cells #[] 5)).ownsRow w1.heap.size 5 1 (.slice (some ⟨w1.heap.size, 0, none⟩) 0 0) 0 [] := World.ownsRow_lit w1 #[] 0 (Nat.le_refl _) (by unfold maxLen; omega) rfl
    have hb0 := (Below.refl w1.heap.size w1).alloc (Nat.le_refl _) (.cells #[] 5)
    go_loopw [5, 6] (fun v i wr => ∃ j : Nat, j ≤ 64 ∧ i = .int .i64 j ∧ wr.ownsRow w1.heap.size 5 1 v j (byts (xorL x ((keyL k).take j))) ∧ Below w1.heap.size w1 wr) (fun _ i _ => 64 - (intOf i).toNat)
    case atStart => exact ⟨0, by omega, rfl, hown0, hb0⟩
    case round =>
      clear hown0 hb0
      obtain ⟨j, hj, rfl, hown, hb⟩ := hrel
      by_cases hlt : j < 64
      · have hd1 : j + 1 ≤ maxLen := by unfold maxLen; omega
        have hd2 : (j + 1) * 1 ≤ 140737488355328 := by omega
        have HX := Lib.hid (xor_take x (keyL k) j (by rw [HKL.out]; exact hlt))
        by_cases hin : j < s.length
        · obtain ⟨b, o, hA, _, hcj⟩ := (hsl1.later (Nat.le_refl _) hb).rd.get (i := j) (by rw [length_byts]; exact hin)
          have hix := index_bytes A1 b o s.length c1 j hA hin
          rw [get_byts _ _ hin] at hcj
          have HY := Lib.hid (key_in HS.out hin)
          generalize s.getD j 0 = y at *
          have hby := Lib.hid (show byts [y ^^^ x] = [Value.int .u8 (bits .xor .u8 (y.toNat : Int) (x.toNat : Int))] by rw [byte_xor]; rfl)
          have HA := Lib.hid hA
          clear hA
          go_wp2_with (at_builtin; go_loud (refine wpList_append_own _ rfl (.tmp 26) (.tmp 30) 28 rfl w1.heap.size 5 i0 _ 1 1 Tryd.underlying28 hi hz0 hz1 hz2 rfl (by omega) _ j (byts (xorL x ((keyL k).take j))) rfl (hown.alloc _) ⟨wr.heap.size, 0, none⟩ 1 1 (byts [y ^^^ x]) rfl (length_byts _) (by rw [hby.out]; exact cells_new _ _ _) (byts_one _) hd1 hd2 (by rw [World.size_alloc]; have := hb.size; omega) ?_; intro v3 w3 hown3 hg3 _; have hb3 : Below w1.heap.size w1 w3 := (hb.alloc hb.size _).grown hg3 (by rw [World.size_alloc]; have := hb.size; omega) (fun k hk => (hown.lt k hk).1)))
          rw [← byts_append, ← HY.out, ← HX.out] at hown3
          clear hb hown hg3
          go_roundw
          case rel => exact ⟨j + 1, by omega, by go_num, hown3, hb3⟩
          case measure => simp [intOf]; omega
        · have HY := Lib.hid (key_out HS.out (Nat.le_of_not_lt hin))
          have hby := Lib.hid (show byts [0 ^^^ x] = [Value.int .u8 (bits .xor .u8 0 (x.toNat : Int))] by rw [show (0 : Int) = ((0 : UInt8).toNat : Int) from rfl, byte_xor]; rfl)
          go_wp2_with (at_builtin; go_loud (refine wpList_append_own _ rfl (.tmp 26) (.tmp 30) 28 rfl w1.heap.size 5 i0 _ 1 1 Tryd.underlying28 hi hz0 hz1 hz2 rfl (by omega) _ j (byts (xorL x ((keyL k).take j))) rfl (hown.alloc _) ⟨wr.heap.size, 0, none⟩ 1 1 (byts [0 ^^^ x]) rfl (length_byts _) (by rw [hby.out]; exact cells_new _ _ _) (byts_one _) hd1 hd2 (by rw [World.size_alloc]; have := hb.size; omega) ?_; intro v3 w3 hown3 hg3 _; have hb3 : Below w1.heap.size w1 w3 := (hb.alloc hb.size _).grown hg3 (by rw [World.size_alloc]; have := hb.size; omega) (fun k hk => (hown.lt k hk).1)))
          rw [← byts_append, ← HY.out, ← HX.out] at hown3
          clear hb hown hg3
          go_roundw
          case rel => exact ⟨j + 1, by omega, by go_num, hown3, hb3⟩
          case measure => simp [intOf]; omega
      · have e64 : j = 64 := by omega
        rw [e64, List.take_of_length_le (by rw [HKL.out]; exact Nat.le_refl _)] at hown
        go_wp2
        go_ret
        refine ⟨_, rfl, ?_, hb1.trans (hb.mono hb1.size)⟩
        rw [length_xorL, HKL.out]
        exact own_mono hown hb1.size
set_option maxRecDepth 20000 in
set_option maxHeartbeats 1000000 in
theorem rmac_any (A : Option Addr) (n c : Nat) (k : List UInt8) (B : Option Addr) (m d : Nat) (l : List UInt8) (w : World) (hs : Sl w A c (byts k)) (hn : n = k.length) (hk : k.length ≤ 35184372088832) (hp : Sl w B d (byts l)) (hmn : m = l.length) (hm : 64 + l.length ≤ 35184372088832) :
    Calls Tryd.prog 22 #[.slice A n c, .slice B m d] w (GaveBytes (macL k l) w) := by
  subst hmn
  obtain ⟨i0, hi, hz0, hz1, hz2⟩ := info_parts infoByte
  obtain ⟨XI, hXI⟩ : ∃ XI, XI = xorL 54 (keyL k) := ⟨_, rfl⟩
  obtain ⟨XO, hXO⟩ : ∃ XO, XO = xorL 92 (keyL k) := ⟨_, rfl⟩
  have hXIl : XI.length = 64 := by rw [hXI, length_xorL, length_keyL]
  have hXOl : XO.length = 64 := by rw [hXO, length_xorL, length_keyL]
  have ht1 := Lib.hid (show Calls Tryd.prog 29 #[.slice A n c, .int .u8 54] w (GaveBytes XI w) by rw [hXI]; exact rturned_any A n c k 54 w hs hn hk)
  have ht2 := Lib.hid (show ∀ w1, Below w.heap.size w w1 → Calls Tryd.prog 29 #[.slice A n c, .int .u8 92] w1 (GaveBytes XO w1) by rw [hXO]; exact fun w1 hb => rturned_any A n c k 92 w1 (hs.later (Nat.le_refl _) hb) hn hk)
  have HM := Lib.hid (show macL k l = shaL (XO ++ shaL (XI ++ l)) by unfold macL; rw [hXI, hXO])
  have m1 : XI.length + l.length ≤ maxLen := by unfold maxLen; omega
  have m2 : (XI.length + l.length) * 1 ≤ 140737488355328 := by omega
  have m3 : XO.length + (shaL (XI ++ l)).length ≤ maxLen := by rw [length_shaL]; unfold maxLen; omega
  have m4 : (XO.length + (shaL (XI ++ l)).length) * 1 ≤ 140737488355328 := by rw [length_shaL]; omega
  have m5 : (XI ++ l).length ≤ 35184372088832 := by rw [List.length_append]; omega
  have m6 : (XO ++ shaL (XI ++ l)).length ≤ 35184372088832 := by rw [List.length_append, length_shaL]; omega
  have tok1 : True := trivial
  have tok2 : True := trivial
  have tok3 : True := trivial
  have tok4 : True := trivial
  have tok5 : True := trivial
  have tok6 : True := trivial
  have HL1 := Lib.hid (show XI.length + l.length = (XI ++ l).length by rw [List.length_append])
  have HL2 := Lib.hid (show XO.length + (shaL (XI ++ l)).length = (XO ++ shaL (XI ++ l)).length by rw [List.length_append])
  clear hXI hXO hXIl hXOl hs hn hk hm
  generalize hD : XI ++ l = D at *
  generalize hS : shaL D = S at *
  go_enter Tryd.func22, Tryd.ntmps22
  go_wp2_with (first
    | (go_at_call 29; have _t := tok1; refine ht1.out.mono ?_; rintro e w1 ⟨v1, rfl, hown1, hb1⟩; have hp1 := hp.later (Nat.le_refl _) hb1; clear tok1)
    | (at_builtin; have _t := tok5; clear tok5; refine wpList_append_sl rfl (.tmp 7) (.tmp 8) 28 rfl w.heap.size 5 i0 _ 1 Tryd.underlying28 hi hz0 hz1 hz2 rfl _ XI.length (byts XI) rfl hown1 B l.length d (byts l) rfl (length_byts _).symm hp1 (byts_one _) m1 m2 hb1.size ?_; intro v2 w2 hown2 hg2; have hb2 : Below w.heap.size w w2 := hb1.grown hg2 hb1.size (fun k hk => (hown1.lt k hk).1); rw [← byts_append, hD, HL1.out] at hown2; obtain ⟨A2, c2, rfl, _, hsl2⟩ := Sl.of_own hown2)
    | (go_at_call 28; have _t := tok2; refine (rof_any A2 D.length c2 D _ hsl2 rfl m5).mono ?_; rw [hS]; rintro e w3 ⟨v3, rfl, hown3, hb3⟩; obtain ⟨A3, c3, rfl, _, hsl3⟩ := Sl.of_own hown3; have hbB := hb2.trans (hb3.mono hb2.size); clear tok2)
    | (go_at_call 29; have _t := tok3; refine (ht2.out _ hbB).mono ?_; rintro e w4 ⟨v4, rfl, hown4, hb4⟩; have hsl4 := hsl3.later (Nat.le_refl _) hb4; clear tok3)
    | (at_builtin; have _t := tok6; clear tok6; refine wpList_append_sl rfl (.tmp 12) (.tmp 13) 28 rfl w3.heap.size 5 i0 _ 1 Tryd.underlying28 hi hz0 hz1 hz2 rfl _ XO.length (byts XO) rfl hown4 A3 S.length c3 (byts S) rfl (length_byts _).symm hsl4 (byts_one _) m3 m4 hb4.size ?_; intro v5 w5 hown5 hg5; have hb5 : Below w3.heap.size w3 w5 := hb4.grown hg5 hb4.size (fun k hk => (hown4.lt k hk).1); rw [← byts_append, HL2.out] at hown5; obtain ⟨A5, c5, rfl, _, hsl5⟩ := Sl.of_own hown5)
    | (go_at_call 28; have _t := tok4; refine (rof_any A5 _ c5 (XO ++ S) _ hsl5 HL2.out m6).mono ?_; rintro e w6 ⟨v6, rfl, hown6, hb6⟩; have hbC := hbB.trans ((below_step hb5 hb6).mono hbB.size); clear tok4))

  go_ret
  rw [HM.out]
  exact ⟨v6, rfl, own_mono hown6 (Nat.le_trans hbB.size hb5.size), hbC⟩
end Go.Proofs.YtlocgfekgbdlmaaDoor

/- LAYER 6: the document's frame and key. -/
namespace Go.Proofs.YtlocgfekgbdlmaaDoor
open Go Go.RowKit

set_option maxRecDepth 20000 in
set_option maxHeartbeats 1000000 in
theorem rframe_any (A : Option Addr) (n c : Nat) (ss : List (List UInt8)) (w : World) (hs : Sl w A c (strsV ss)) (hn : n = ss.length) (hm : sumS ss ≤ 1000000000) :
    Calls Tryd.prog 23 #[.slice A n c] w (GaveBytes (frameL ss) w) := by
  subst hn
  obtain ⟨i0, hi, hz0, hz1, hz2⟩ := info_parts infoByte
  have hl1 := sumS_len ss
  have hown0 : (w.alloc (.cells #[] 5)).ownsRow w.heap.size 5 1 (.slice (some ⟨w.heap.size, 0, none⟩) 0 0) 0 [] := World.ownsRow_lit w #[] 0 (Nat.le_refl _) (by unfold maxLen; omega) rfl
  have hb0 := (Below.refl w.heap.size w).alloc (Nat.le_refl _) (.cells #[] 5)
  go_enter Tryd.func23, Tryd.ntmps23
  go_wp2_with fail
  go_loopw [3, 9] (fun v i wr => ∃ k : Nat, k ≤ ss.length ∧ i = .int .i64 k ∧ wr.ownsRow w.heap.size 5 1 v (frameL (ss.take k)).length (byts (frameL (ss.take k))) ∧ Below w.heap.size w wr) (fun _ i _ => ss.length - (intOf i).toNat)
  case atStart => exact ⟨0, by omega, rfl, hown0, hb0⟩
  case round =>
    clear hown0 hb0
    obtain ⟨k, hk, rfl, hown, hb⟩ := hrel
    by_cases hlt : k < ss.length
    · obtain ⟨b, o, rfl, hb0, hr0⟩ := hs.rd.get (i := 0) (by rw [length_strsV]; omega)
      clear hb0 hr0
      have hix := index_strs (some ⟨b, o, none⟩) b o ss.length c k rfl hlt
      have hc := strs_cell (hs.later (Nat.le_refl _) hb) k hlt
      have HS := Lib.hid (frameL_succ ss k hlt)
      have hq1 := sumS_mem ss (ss.getD k []) (by rw [List.getD_eq_getElem?_getD, List.getElem?_eq_getElem hlt]; exact List.getElem_mem hlt)
      have hF := frameL_le ss k
      have hF2 := length_frameL ss
      generalize ss.getD k [] = q at *
      generalize frameL (ss.take k) = F at *
      have hz := size_bstr q
      have n1 : F.length + (eightL q.length).length ≤ maxLen := by rw [length_eightL]; unfold maxLen; omega
      have n2 : (F.length + (eightL q.length).length) * 1 ≤ 140737488355328 := by rw [length_eightL]; omega
      have m1 : F.length + (eightL q.length).length + q.length ≤ maxLen := by rw [length_eightL]; unfold maxLen; omega
      have m2 : (F.length + (eightL q.length).length + q.length) * 1 ≤ 140737488355328 := by rw [length_eightL]; omega
      have hql : (q.length : Int) ≤ 1000000000 := by omega
      have hnum := rnumber_any q.length (by omega)
      have HL8 := Lib.hid (show (eightL q.length).length = (byts (eightL q.length)).length from (length_byts _).symm)
      have HLq := Lib.hid (show q.length = (byts q).length from (length_byts q).symm)
      have HP := Lib.hid (show partL q = eightL q.length ++ q from rfl)
      have hbs := hb.size
      clear hq1 hF hF2
      generalize eightL q.length = e8 at *
      go_wp2_with (first
        | (go_at_call 25; refine (hnum _).mono ?_; rintro e w1 ⟨v1, rfl, hown1, hb1⟩; obtain ⟨A1, c1, rfl, _, hsl1⟩ := Sl.of_own hown1; have hownF := own_later hown hb1 (Nat.le_refl _); have hbw1 := hb.trans (hb1.mono hbs); clear hown1)
        | (at_builtin; refine wpList_append_sl rfl (.tmp 13) (.tmp 17) 28 rfl w.heap.size 5 i0 _ 1 Tryd.underlying28 hi hz0 hz1 hz2 rfl _ F.length (byts F) rfl hownF A1 e8.length c1 (byts e8) rfl HL8.out hsl1 (byts_one _) n1 n2 hbw1.size ?_; intro v2 w2 hown2 hg2; have hbw2 : Below w.heap.size w w2 := hbw1.grown hg2 hbw1.size (fun k hk => (hownF.lt k hk).1); clear hg2 hownF hsl1)
        | (refine wpList_conv_string rfl (.tmp 20) rfl q rfl ?_; intro A3 c3 w3 hsl3 hb3; have hown3 := own_later hown2 hb3 (Nat.le_refl _); have hbw3 := hbw2.trans (hb3.mono hbw2.size); clear hown2 hb3)
        | (at_builtin; refine wpList_append_sl rfl (.tmp 19) (.tmp 21) 28 rfl w.heap.size 5 i0 _ 1 Tryd.underlying28 hi hz0 hz1 hz2 rfl _ (F.length + e8.length) (byts F ++ byts e8) rfl hown3 A3 q.length c3 (byts q) rfl HLq.out hsl3 (byts_one _) m1 m2 hbw3.size ?_; intro v4 w4 hown4 hg4; have hbw4 : Below w.heap.size w w4 := hbw3.grown hg4 hbw3.size (fun k hk => (hown3.lt k hk).1)))
      go_roundw
      case rel =>
        refine ⟨k + 1, by omega, by go_num, ?_, hbw4⟩
        rw [HS.out, HP.out]
        have e1 : byts F ++ byts e8 ++ byts q = byts (F ++ (e8 ++ q)) := by rw [byts_append, byts_append, List.append_assoc]
        have e2 : F.length + e8.length + q.length = (F ++ (e8 ++ q)).length := by simp only [List.length_append]; omega
        rw [e1, e2] at hown4
        exact hown4
      case measure => simp [intOf]; omega
    · obtain rfl : k = ss.length := by omega
      rw [List.take_length] at hown
      clear hlt hk hs
      generalize ss.length = n at *
      go_wp2
      go_ret
      exact ⟨_, rfl, hown, hb⟩
end Go.Proofs.YtlocgfekgbdlmaaDoor

/- LAYER 6: the document's Tag and Key. -/
namespace Go.Proofs.YtlocgfekgbdlmaaDoor
open Go Go.RowKit

theorem take_next (l : List UInt8) (k : Nat) (hk : k < l.length) (n : Nat) (hn : k < n) : (l.take k ++ List.replicate (n - k) 0).set k (l.getD k 0) = l.take (k + 1) ++ List.replicate (n - (k + 1)) 0 := by
  have hl : (l.take k).length = k := by rw [List.length_take]; omega
  have e : l.take (k + 1) = l.take k ++ [l.getD k 0] := by rw [List.take_add_one]; simp [hk]
  rw [List.set_append_right _ _ (by omega), hl, Nat.sub_self, show n - k = n - (k + 1) + 1 by omega, List.replicate_succ, List.set_cons_zero, e, List.append_assoc]
  rfl
set_option maxRecDepth 20000 in
set_option maxHeartbeats 1000000 in
theorem rtag5_any (A : Option Addr) (n c : Nat) (l : List UInt8) (w : World) (hs : Sl w A c (byts l)) (hn : n = l.length) (h32 : l.length = 32) :
    Calls Tryd.prog 15 #[.slice A n c] w fun e w' => e = .returned (.agg (byts l).toArray) ∧ Below w.heap.size w w' := by
  obtain rfl : n = 32 := by omega
  clear hn
  obtain ⟨b, o, rfl, hb0, hr0⟩ := hs.rd.get (i := 0) (by rw [length_byts]; omega)
  clear hb0 hr0
  obtain ⟨Z, hZ⟩ : ∃ Z, Z = byts zeroT := ⟨_, rfl⟩
  have HZ := Lib.hid hZ
  obtain ⟨V, hV⟩ : ∃ V, V = byts l := ⟨_, rfl⟩
  have hVl : V.length = 32 := by rw [hV, length_byts]; exact h32
  have hone := Lib.hid (all_one (show ∀ v ∈ V, v.oneCell' = true by rw [hV]; exact byts_one _))
  have hsz2 := Lib.hid (show (Tryd.prog.info? 23).map (·.size) = some V.toArray.size by rw [size_tag, List.size_toArray, hVl])
  have hzv := Lib.hid (show Z.toArray.size = V.toArray.size by rw [List.size_toArray, List.size_toArray, hVl, hZ]; rfl)
  have HV := Lib.hid hV
  have HL := Lib.hid h32
  clear hV hVl hZ h32
  go_enter Tryd.func15, Tryd.ntmps15
  go_wp2_with (with_reducible refine wpList_store_row rfl 23 (.tmp 3) (.tmp 5) rfl (w.heap.size + 1) _ rfl rfl 23 _ (heap_alloc2_new w _ _) (by kernel_rfl) (by kernel_rfl) (by kernel_rfl) ?_; refine Hid.out ?_)
  refine Lib.hid ?_
  generalize hw4 : World.setRow _ _ _ = w4
  obtain ⟨r0, r1, hb4⟩ := row_new_set2 hw4
  have r0 : Row w4 w.heap.size 23 Z := by rw [HZ.out, ← zero_cells]; exact r0
  have r1 : Row w4 (w.heap.size + 1) 23 (byts (l.take 0 ++ List.replicate (32 - 0) 0)) := r1
  clear hw4
  go_wp2_with fail
  go_loopw [6] (fun i wr => ∃ k : Nat, k ≤ 32 ∧ i = .int .i64 k ∧ Row wr (w.heap.size + 1) 23 (byts (l.take k ++ List.replicate (32 - k) 0)) ∧ Row wr w.heap.size 23 Z ∧ Below w.heap.size w wr) (fun i _ => 32 - (intOf i).toNat)
  case atStart => exact ⟨0, by omega, rfl, r1, r0, hb4⟩
  case round =>
    clear r0 r1 hb4
    obtain ⟨k, hk, rfl, hrow, hres, hb⟩ := hrel
    by_cases hlt : k < 32
    · have hc := (hs.later (Nat.le_refl _) hb).range k _ (get_byts l k (by rw [HL.out]; exact hlt))
      have hix := index_bytes (some ⟨b, o, none⟩) b o 32 c k rfl hlt
      have HS := Lib.hid (take_next l k (by rw [HL.out]; exact hlt) 32 hlt)
      have hlen : (l.take k ++ List.replicate (32 - k) 0).length = 32 := by rw [List.length_append, List.length_take, List.length_replicate, HL.out]; omega
      have hd := hrow.cell k
      rw [get_byts _ _ (by omega)] at hd
      have hf := hrow.free k
      generalize (((l.take k ++ List.replicate (32 - k) 0).getD k 0).toNat : Int) = y at *
      generalize l.getD k 0 = x at *
      clear hlen
      go_wp2
      go_roundw
      case rel =>
        refine ⟨k + 1, by omega, by go_num, ?_, hres.far _ _ (by show w.heap.size ≠ w.heap.size + 1; omega), hb.grown (grown_setCell _ _ _ _) hb.size (fun k h => by cases h; omega)⟩
        rw [← HS.out, ← byts_set]
        exact hrow.set _ _
      case measure => simp [intOf]; omega
    · obtain rfl : k = 32 := by omega
      rw [List.take_of_length_le (by rw [HL.out]; exact Nat.le_refl _), show 32 - 32 = 0 from rfl, List.replicate_zero, List.append_nil, ← HV.out] at hrow
      have HR := Lib.hid (show wr.heap[w.heap.size + 1]? = some (.cells V.toArray 23 (0, 0)) from hrow)
      have H0 := Lib.hid (show wr.heap[w.heap.size]? = some (.cells Z.toArray 23 (0, 0)) from hres)
      clear hrow hres hs
      go_wp2_with (first
        | (with_reducible refine wpList_load_row rfl 23 (.tmp 3) rfl (w.heap.size + 1) rfl 23 V.toArray (0, 0) _ HR.out Tryd.underlying23 rfl hsz2.out ?_)
        | (with_reducible refine wpList_store_row rfl 23 (.tmp 2) (.tmp 16) rfl w.heap.size V.toArray rfl rfl 23 _ H0.out hsz2.out hzv.out hone.out ?_; refine Hid.out ?_))
      refine Lib.hid ?_
      generalize hw5 : World.setRow _ _ _ = w5
      obtain ⟨r4, hg4⟩ := row_set (show Row wr w.heap.size 23 Z from H0.out) hw5
      have R4 := Lib.hid (show w5.heap[w.heap.size]? = some (.cells V.toArray 23 (0, 0)) from r4)
      have hb5 := hb.grown hg4 hb.size (fun k h => by cases h; exact Nat.le_refl _)
      clear hw5 r4 hg4 HR H0
      go_wp2_with (with_reducible refine bodyPost_ret (results_cell_row rfl _ _ w.heap.size 23 V.toArray (0, 0) (.array 32 5) rfl R4.out Tryd.underlying23 rfl hsz2.out) rfl ?_)
      exact ⟨by rw [HV.out], hb5⟩
/-- What Key answers. -/
def keyD (key use : List UInt8) (ss : List (List UInt8)) : List UInt8 := macL key (frameL (use :: ss))
theorem length_keyD (key use : List UInt8) (ss : List (List UInt8)) : (keyD key use ss).length = 32 := length_macL _ _
set_option maxRecDepth 20000 in
set_option maxHeartbeats 1000000 in
theorem rkey_any (key : List UInt8) (hk : key.length = 32) (use : List UInt8) (A : Option Addr) (n c : Nat) (ss : List (List UInt8)) (w : World) (hs : Sl w A c (strsV ss)) (hn : n = ss.length) (hm : sumS (use :: ss) ≤ 1000000000) :
    Calls Tryd.prog 17 #[.agg (byts key).toArray, .string (bstr use), .slice A n c] w fun e w' => e = .returned (.agg (byts (keyD key use ss)).toArray) ∧ Below w.heap.size w w' := by
  subst hn
  obtain ⟨i0, hi, hz0, hz1, hz2⟩ := info_parts infoStr
  have hsl := sumS_len (use :: ss)
  rw [List.length_cons] at hsl
  have hFl := length_frameL (use :: ss)
  obtain ⟨K, hK⟩ : ∃ K, K = byts key := ⟨_, rfl⟩
  have HK := Lib.hid hK
  have hKl : K.length = 32 := by rw [hK, length_byts]; exact hk
  obtain ⟨V, hV⟩ : ∃ V, V = byts (keyD key use ss) := ⟨_, rfl⟩
  have hVl : V.length = 32 := by rw [hV, length_byts]; exact length_keyD _ _ _
  have hone := Lib.hid (show ∀ v ∈ V, v.oneCell' = true by rw [hV]; exact byts_one _)
  have hszl := Lib.hid (show (Tryd.prog.info? 23).map (·.size) = some V.length by rw [size_tag, hVl])
  have hsz2 := Lib.hid (show (Tryd.prog.info? 23).map (·.size) = some V.toArray.size by rw [size_tag, List.size_toArray, hVl])
  have hfit := Lib.hid (show 0 + V.length ≤ (List.replicate 32 (Value.int .u8 0)).length by rw [hVl, List.length_replicate]; decide)
  have HVr := Lib.hid (show splice (List.replicate 32 (Value.int .u8 0)) 0 V = V by
    unfold splice
    rw [List.take_zero, List.nil_append, Nat.zero_add, hVl, List.drop_of_length_le (by rw [List.length_replicate]; exact Nat.le_refl _), List.append_nil])
  have hkl := Lib.hid hk
  have n1 : 1 + ss.length ≤ maxLen := by unfold maxLen; omega
  have n2 : (1 + ss.length) * 16 ≤ 140737488355328 := by omega
  obtain ⟨F, hF⟩ : ∃ F, F = frameL (use :: ss) := ⟨_, rfl⟩
  have hFm : 64 + F.length ≤ 35184372088832 := by rw [hF]; omega
  have hfr := Lib.hid (show ∀ w1 B d, Sl w1 B d (strsV (use :: ss)) → Calls Tryd.prog 23 #[.slice B (1 + ss.length) d] w1 (GaveBytes F w1) by
    rw [hF]
    exact fun w1 B d h => rframe_any B (1 + ss.length) d (use :: ss) w1 h (by rw [List.length_cons]; omega) hm)
  have HV := Lib.hid (show V = byts (macL key F) by rw [hV, hF]; rfl)
  have HVD := Lib.hid hV
  have HLs := Lib.hid (show ss.length = (strsV ss).length from (length_strsV ss).symm)
  rw [← hK]
  clear hV hVl hK hF hFl hk hsl
  go_enter Tryd.func17, Tryd.ntmps17
  go_wp2_with (at_builtin; refine Hid.out ?_)
  refine Lib.hid ?_
  generalize hw1 : World.alloc (World.alloc (World.alloc w _) _) _ = w1
  obtain ⟨r0, r1, r2, hb1, hs1⟩ := rows3 (A := K) (B := List.replicate 32 (.int .u8 0)) (C := strsV [use]) hw1
  have hown1 : w1.ownsRow (w.heap.size + 1 + 1) 9 1 (.slice (some ⟨w.heap.size + 1 + 1, 0, none⟩) 1 1) 1 (strsV [use]) := own_of_row r2 (Nat.le_refl _) (by rw [length_strsV]; unfold maxLen; simp)
  have hsl1 := hs.later (Nat.le_refl _) hb1
  clear hw1 r2
  go_wp2_with (at_builtin; refine wpList_append_sl rfl (.tmp 9) (.tmp 10) 39 rfl (w.heap.size + 1 + 1) 9 i0 _ 16 Tryd.underlying39 hi hz0 hz1 hz2 rfl _ 1 (strsV [use]) rfl hown1 A ss.length c (strsV ss) rfl HLs.out hsl1 (strsV_one _) n1 n2 (by omega) ?_; intro v2 w2 hown2 hg2; obtain ⟨A2, c2, rfl, _, hslA⟩ := Sl.of_own hown2)
  have hg2 : w1.grownBy w2 (some (w.heap.size + 1 + 1)) := hg2
  have r0 := r0.grown hg2 (by omega)
  have r1 := r1.grown hg2 (by omega)
  have hb2 := hb1.grown hg2 hb1.size (fun k h => by cases h; omega)
  have hslA : Sl w2 A2 c2 (strsV (use :: ss)) := hslA
  have hslK : Sl w2 (some ⟨w.heap.size, 0, none⟩) 32 (byts key) := ⟨Rd.row (ys := []) (by rw [List.append_nil, ← HK.out]; exact r0), by rw [length_byts, hkl.out]; exact Nat.le_refl _, fun h => by cases h⟩
  clear hg2 r0 hown1 hown2 hsl1 hb1 hs1 hs
  refine wp_region_noPanic ?_
  refine wp_region_held_drew (S := fun _ => True) (by kernel_rfl) (trivial) (fun hHeld => ?_)
  refine rtake 0 _ (some 12) _ rfl rfl (by kernel_rfl) (by kernel_rfl) (by kernel_rfl) (fun _ _ _ h => h) (by rfl) hHeld (by intro w hS; go_simp; try with_reducible rfl) ?_
  try (first | (rw [put_some]; dsimp only [List.set]) | rw [put_none])
  refine rtake 1 _ (some 13) _ rfl rfl (by kernel_rfl) (by kernel_rfl) (by kernel_rfl) (fun _ _ _ h => h) (by rfl) hHeld (by intro w hS; go_simp; try with_reducible rfl) ?_
  try (first | (rw [put_some]; dsimp only [List.set]) | rw [put_none])
  refine wpAnyH_ready (rs := [2]) (by kernel_rfl) (by simp) (AllReadyH.cons (o := _) rfl (fun K hK => ?_) AllReadyH.nil)
  go_simp
  refine (hfr.out _ _ _ (hslA.later (Nat.le_refl _) ((Below.refl w2.heap.size w2).drew))).mono ?_; rintro e w6 ⟨v6, rfl, hown6, hb6⟩; obtain ⟨A6, c6, rfl, _, hsl6⟩ := Sl.of_own hown6; have hb26 := below_step ((Below.refl w2.heap.size w2).drew) hb6; clear hown6
  try go_wp2_with fail
  refine hK.out _ _ (trivial) (fun hHeld => ?_)
  clear hK K
  try (first | (rw [put_some]; dsimp only [List.set]) | rw [put_none])
  refine wpAnyH_ready (rs := [3]) (by kernel_rfl) (by simp) (AllReadyH.cons (o := _) rfl (fun K hK => ?_) AllReadyH.nil)
  go_simp
  refine (rmac_any (some ⟨w.heap.size, 0, none⟩) 32 32 key A6 F.length c6 F _ (hslK.later (Nat.le_refl _) hb26) hkl.out.symm (by rw [hkl.out]; decide) hsl6 rfl hFm).mono ?_; rintro e w7 ⟨v7, rfl, hown7, hb7⟩; obtain ⟨A7, c7, rfl, _, hsl7⟩ := Sl.of_own hown7; have hb27 := below_step hb26 hb7; clear hown7
  try go_wp2_with fail
  refine hK.out _ _ (trivial) (fun hHeld => ?_)
  clear hK K
  try (first | (rw [put_some]; dsimp only [List.set]) | rw [put_none])
  refine wpAnyH_ready (rs := [4]) (by kernel_rfl) (by simp) (AllReadyH.cons (o := _) rfl (fun K hK => ?_) AllReadyH.nil)
  go_simp
  refine (rtag5_any A7 _ c7 (macL key F) _ hsl7 rfl (length_macL _ _)).mono ?_; rintro e w8 ⟨rfl, hb8⟩; have hb28 := below_step hb27 hb8; rw [← HV.out]
  try go_wp2_with fail
  refine hK.out _ _ (trivial) (fun hHeld => ?_)
  clear hK K
  try (first | (rw [put_some]; dsimp only [List.set]) | rw [put_none])
  refine wpAnyH_ready (rs := [5]) (by kernel_rfl) (by simp) (AllReadyH.cons (o := _) rfl (fun K hK => ?_) AllReadyH.nil)
  refine step_store_row none rfl (by rfl) 23 (.tmp 6) (.tmp 16) rfl (w.heap.size + 1) 0 23 _ V rfl rfl (r1.later hb28 r1.lt) hfit.out hszl.out hone.out ?_; intro w9 r9 hg9
  refine hK.out _ _ (trivial) (fun _ => ?_)
  clear hK K
  try (first | (rw [put_some]; dsimp only [List.set]) | rw [put_none])
  refine wpAnyH_done (by kernel_rfl) ?_ _
  refine NoPanic.normal ?_
  have r9 : Row w9 (w.heap.size + 1) 23 V := by rw [HVr.out] at r9; exact r9
  have hb9 := (hb2.trans (hb28.mono hb2.size)).grown hg9 (Nat.le_trans hb2.size hb28.size) (fun k h => by cases h; omega)
  have R9 := Lib.hid (show w9.heap[w.heap.size + 1]? = some (.cells V.toArray 23 (0, 0)) from r9)
  clear r9 hg9 r1 hslA hslK hsl6 hsl7 hb6 hb7 hb8 hb26 hb27 hb28 hb2
  go_wp2_with (with_reducible refine bodyPost_ret (results_cell_row rfl _ _ (w.heap.size + 1) 23 V.toArray (0, 0) (.array 32 5) rfl R9.out Tryd.underlying23 rfl hsz2.out) rfl ?_)

  exact ⟨by rw [HVD.out], hb9⟩
end Go.Proofs.YtlocgfekgbdlmaaDoor

/- LAYER 7: streams and sealed bytes: lists alone. -/
namespace Go.Proofs.YtlocgfekgbdlmaaDoor
open Go Go.RowKit

def streamU : List UInt8 := [115, 116, 114, 101, 97, 109]
def sealU : List UInt8 := [115, 101, 97, 108]
/-- 32 of the stream's bytes. -/
def blockL (key nonce : List UInt8) (i : Nat) : List UInt8 := keyD key streamU [nonce, eightL i]
theorem length_blockL (key nonce : List UInt8) (i : Nat) : (blockL key nonce i).length = 32 := length_keyD _ _ _
def streamL (key nonce : List UInt8) (n : Nat) : List UInt8 := (List.range n).map fun i => (blockL key nonce (i / 32)).getD (i % 32) 0
theorem length_streamL (key nonce : List UInt8) (n : Nat) : (streamL key nonce n).length = n := by unfold streamL; simp
theorem streamL_succ (key nonce : List UInt8) (n : Nat) : streamL key nonce (n + 1) = streamL key nonce n ++ [(blockL key nonce (n / 32)).getD (n % 32) 0] := by
  unfold streamL
  rw [List.range_succ, List.map_append]; rfl
theorem getD_streamL (key nonce : List UInt8) (n i : Nat) (h : i < n) : (streamL key nonce n).getD i 0 = (blockL key nonce (i / 32)).getD (i % 32) 0 := by
  unfold streamL
  simp [h]
theorem take_streamL (key nonce : List UInt8) (n m : Nat) (h : m ≤ n) : (streamL key nonce n).take m = streamL key nonce m := by
  unfold streamL
  rw [← List.map_take, List.take_range, Nat.min_eq_left h]
/-- Whole blocks, one behind the other. -/
theorem streamL_block (key nonce : List UInt8) (k : Nat) : streamL key nonce (32 * k + 32) = streamL key nonce (32 * k) ++ blockL key nonce k := by
  unfold streamL
  rw [List.range_add, List.map_append]
  congr 1
  have hb := length_blockL key nonce k
  apply List.ext_getElem?
  intro j
  by_cases hj : j < 32
  · simp [hj, show (32 * k + j) / 32 = k by omega, show (32 * k + j) % 32 = j by omega, hb]
  · rw [List.getElem?_eq_none (by simp; omega), List.getElem?_eq_none (by omega)]
def xorWith (a b : List UInt8) : List UInt8 := List.zipWith (· ^^^ ·) a b
theorem xorWith_succ (a b : List UInt8) (k : Nat) (ha : k < a.length) (hb : k < b.length) : xorWith (a.take (k + 1)) (b.take (k + 1)) = xorWith (a.take k) (b.take k) ++ [a.getD k 0 ^^^ b.getD k 0] := by
  unfold xorWith
  rw [← List.take_zipWith, ← List.take_zipWith, List.take_add_one]
  simp [ha, hb]
  rw [List.getElem?_zipWith, List.getElem?_eq_getElem ha, List.getElem?_eq_getElem hb]
theorem length_xorWith (a b : List UInt8) (h : a.length = b.length) : (xorWith a b).length = a.length := by
  unfold xorWith
  rw [List.length_zipWith]; omega
theorem xorWith_twice : ∀ (a b : List UInt8), a.length = b.length → xorWith (xorWith a b) b = a
  | [], [], _ => rfl
  | x :: a, y :: b, h => by
    show (x ^^^ y ^^^ y) :: xorWith (xorWith a b) b = x :: a
    rw [xorWith_twice a b (by simpa using h), UInt8.xor_assoc, UInt8.xor_self, UInt8.xor_zero]
  | [], _ :: _, h => by simp at h
  | _ :: _, [], h => by simp at h
theorem xorWith_comm : ∀ (a b : List UInt8), xorWith a b = xorWith b a
  | [], b => by cases b <;> rfl
  | x :: a, [] => rfl
  | x :: a, y :: b => by
    show (x ^^^ y) :: xorWith a b = (y ^^^ x) :: xorWith b a
    rw [xorWith_comm a b, UInt8.xor_comm]
def turnL (key nonce s : List UInt8) : List UInt8 := xorWith s (streamL key nonce s.length)
theorem length_turnL (key nonce s : List UInt8) : (turnL key nonce s).length = s.length := length_xorWith _ _ (length_streamL _ _ _).symm
theorem turnL_twice (key nonce s : List UInt8) : turnL key nonce (turnL key nonce s) = s := by
  have h := length_turnL key nonce s
  unfold turnL at h ⊢
  rw [h]
  exact xorWith_twice _ _ (length_streamL _ _ _).symm
def tagOver (key nonce t : List UInt8) : List UInt8 := keyD key sealU [nonce, t]
theorem length_tagOver (key nonce t : List UInt8) : (tagOver key nonce t).length = 32 := length_keyD _ _ _
def sealL (key nonce p : List UInt8) : List UInt8 := nonce ++ turnL key nonce p ++ tagOver key nonce (turnL key nonce p)
theorem length_sealL (key nonce p : List UInt8) (h : nonce.length = 32) : (sealL key nonce p).length = 64 + p.length := by
  unfold sealL
  rw [List.length_append, List.length_append, length_turnL, length_tagOver, h]; omega
/-- The bytes between the nonce and the last 32. -/
def midL (s : List UInt8) : List UInt8 := (s.drop 32).take (s.length - 64)
theorem length_midL (s : List UInt8) (h : 64 ≤ s.length) : (midL s).length = s.length - 64 := by unfold midL; rw [List.length_take, List.length_drop]; omega
theorem split_sealed (s : List UInt8) (h : 64 ≤ s.length) : s = s.take 32 ++ midL s ++ s.drop (s.length - 32) := by
  unfold midL
  have e : s.drop (s.length - 32) = (s.drop 32).drop (s.length - 64) := by rw [List.drop_drop]; congr 1; omega
  rw [e, List.append_assoc, List.take_append_drop, List.take_append_drop]
def openL (key s : List UInt8) : List UInt8 × Bool :=
  if s.length < 64 then ([], false)
  else if sealL key (s.take 32) (turnL key (s.take 32) (midL s)) = s then (turnL key (s.take 32) (midL s), true) else ([], false)
theorem open_iff (key s : List UInt8) (h : 64 ≤ s.length) : sealL key (s.take 32) (turnL key (s.take 32) (midL s)) = s ↔ tagOver key (s.take 32) (midL s) = s.drop (s.length - 32) := by
  unfold sealL
  rw [turnL_twice]
  constructor
  · intro e
    have e2 := split_sealed s h
    rw [← e] at e2
    rw [e] at e2
    have e3 : s.take 32 ++ midL s ++ tagOver key (s.take 32) (midL s) = s.take 32 ++ midL s ++ s.drop (s.length - 32) := e.trans e2
    exact List.append_cancel_left e3
  · intro e
    rw [e]
    exact (split_sealed s h).symm
theorem openL_sealL (key nonce p : List UInt8) (h : nonce.length = 32) : openL key (sealL key nonce p) = (p, true) := by
  have hl := length_sealL key nonce p h
  have h1 : (sealL key nonce p).take 32 = nonce := by
    unfold sealL
    rw [List.append_assoc, ← h, List.take_left]
  have h2 : midL (sealL key nonce p) = turnL key nonce p := by
    unfold midL
    rw [hl, show 64 + p.length - 64 = (turnL key nonce p).length by rw [length_turnL]; omega]
    unfold sealL
    rw [List.append_assoc, ← h, List.drop_left, List.take_left]
  unfold openL
  rw [if_neg (by omega), h1, h2, turnL_twice, if_pos rfl]
end Go.Proofs.YtlocgfekgbdlmaaDoor

/- LAYER 6: package derive's Frame. -/
namespace Go.Proofs.YtlocgfekgbdlmaaDoor
open Go Go.RowKit

theorem strCells_bstr (l : List UInt8) : Lib.strCells (bstr l) = byts l := by unfold Lib.strCells bstr byts; simp
set_option maxRecDepth 20000 in
set_option maxHeartbeats 1000000 in
theorem dframe_any (A : Option Addr) (n c : Nat) (ss : List (List UInt8)) (w : World) (hs : Sl w A c (strsV ss)) (hn : n = ss.length) (hm : sumS ss ≤ 1000000000) :
    Calls Tryd.prog 27 #[.slice A n c] w (GaveBytes (frameL ss) w) := by
  subst hn
  obtain ⟨i0, hi, hz0, hz1, hz2⟩ := info_parts infoByte
  have hl1 := sumS_len ss
  have hown0 : w.ownsRow w.heap.size 5 1 (.slice none 0 0) 0 [] := World.ownsRow_nil w _ _ _
  have hb0 := Below.refl w.heap.size w
  go_enter Tryd.func27, Tryd.ntmps27
  go_wp2_with fail
  go_loopw [3, 8] (fun v i wr => ∃ k : Nat, k ≤ ss.length ∧ i = .int .i64 k ∧ wr.ownsRow w.heap.size 5 1 v (frameL (ss.take k)).length (byts (frameL (ss.take k))) ∧ Below w.heap.size w wr) (fun _ i _ => ss.length - (intOf i).toNat)
  case atStart => exact ⟨0, by omega, rfl, hown0, hb0⟩
  case round =>
    clear hown0 hb0
    obtain ⟨k, hk, rfl, hown, hb⟩ := hrel
    by_cases hlt : k < ss.length
    · obtain ⟨b, o, rfl, hb0, hr0⟩ := hs.rd.get (i := 0) (by rw [length_strsV]; omega)
      clear hb0 hr0
      have hix := index_strs (some ⟨b, o, none⟩) b o ss.length c k rfl hlt
      have hc := strs_cell (hs.later (Nat.le_refl _) hb) k hlt
      have HS := Lib.hid (frameL_succ ss k hlt)
      have hq1 := sumS_mem ss (ss.getD k []) (by rw [List.getD_eq_getElem?_getD, List.getElem?_eq_getElem hlt]; exact List.getElem_mem hlt)
      have hF := frameL_le ss k
      have hF2 := length_frameL ss
      generalize ss.getD k [] = q at *
      generalize frameL (ss.take k) = F at *
      have hz := size_bstr q
      have n1 : F.length + (eightL q.length).length ≤ maxLen := by rw [length_eightL]; unfold maxLen; omega
      have n2 : (F.length + (eightL q.length).length) * 1 ≤ 140737488355328 := by rw [length_eightL]; omega
      have m1 : F.length + (eightL q.length).length + (bstr q).size ≤ maxLen := by rw [length_eightL, hz]; unfold maxLen; omega
      have m2 : F.length + (eightL q.length).length + (bstr q).size ≤ 140737488355328 := by rw [length_eightL, hz]; omega
      have hql : (q.length : Int) ≤ 1000000000 := by omega
      have hnum := number_any q.length
      have HL8 := Lib.hid (show (eightL q.length).length = (byts (eightL q.length)).length from (length_byts _).symm)
      have HP := Lib.hid (show partL q = eightL q.length ++ q from rfl)
      have hbs := hb.size
      clear hq1 hF hF2
      generalize eightL q.length = e8 at *
      go_wp2_with (first
        | (go_at_call 24; refine (hnum _).mono ?_; rintro e w1 ⟨v1, rfl, hown1, hb1⟩; obtain ⟨A1, c1, rfl, _, hsl1⟩ := Sl.of_own hown1; have hownF := own_later hown hb1 (Nat.le_refl _); have hbw1 := hb.trans (hb1.mono hbs); clear hown1)
        | (at_builtin; refine wpList_append_sl rfl (.tmp 12) (.tmp 16) 28 rfl w.heap.size 5 i0 _ 1 Tryd.underlying28 hi hz0 hz1 hz2 rfl _ F.length (byts F) rfl hownF A1 e8.length c1 (byts e8) rfl HL8.out hsl1 (byts_one _) n1 n2 hbw1.size ?_; intro v2 w2 hown2 hg2; have hbw2 : Below w.heap.size w w2 := hbw1.grown hg2 hbw1.size (fun k hk => (hownF.lt k hk).1); clear hg2 hownF hsl1)
        | (at_builtin; refine Lib.wpList_append_own_string _ rfl (.tmp 18) (.tmp 19) 28 9 rfl w.heap.size 5 i0 Tryd.underlying28 Tryd.underlying9 hi hz0 hz1 hz2 _ (F.length + e8.length) (byts F ++ byts e8) rfl hown2 (bstr q) rfl m1 m2 hbw2.size ?_; intro v4 w4 hown4 hg4 _h4; have hbw4 : Below w.heap.size w w4 := hbw2.grown hg4 hbw2.size (fun k hk => (hown2.lt k hk).1)))
      go_roundw
      case rel =>
        refine ⟨k + 1, by omega, by go_num, ?_, hbw4⟩
        rw [HS.out, HP.out]
        have e1 : byts F ++ byts e8 ++ byts q = byts (F ++ (e8 ++ q)) := by rw [byts_append, byts_append, List.append_assoc]
        have e2 : F.length + e8.length + q.length = (F ++ (e8 ++ q)).length := by simp only [List.length_append]; omega
        rw [strCells_bstr, e1, hz, e2] at hown4
        exact hown4
      case measure => simp [intOf]; omega
    · obtain rfl : k = ss.length := by omega
      rw [List.take_length] at hown
      clear hlt hk hs
      generalize ss.length = n at *
      go_wp2
      go_ret
      exact ⟨_, rfl, hown, hb⟩
end Go.Proofs.YtlocgfekgbdlmaaDoor

/- LAYER 4: package hmac's New, Write, Sum. -/
namespace Go.Proofs.YtlocgfekgbdlmaaDoor
open Go Go.RowKit

/-- Block g is a mac by the key k to which l was written: two digests beside each other. -/
structure Macd (w : World) (g gi go : Nat) (k l : List UInt8) : Prop where
  row : Row w g 69 [.pointer (some ⟨gi, 0, none⟩), .pointer (some ⟨go, 0, none⟩)]
  din : Dgt w gi (xorL 54 (keyL k) ++ l)
  dout : Dgt w go (xorL 92 (keyL k))
  gi_lt : gi < g
  go_lt : go < g
  ne : gi ≠ go
theorem Macd.lt {w : World} {g gi go : Nat} {k l : List UInt8} (h : Macd w g gi go k l) : g < w.heap.size := h.row.lt
theorem Macd.later {w w' : World} {g gi go B : Nat} {k l : List UInt8} (h : Macd w g gi go k l) (hb : Below B w w') (hg : g < B) : Macd w' g gi go k l :=
  ⟨h.row.later hb hg, h.din.later hb (Nat.lt_trans h.gi_lt hg), h.dout.later hb (Nat.lt_trans h.go_lt hg), h.gi_lt, h.go_lt, h.ne⟩
theorem Macd.grown {w w' : World} {g gi go b : Nat} {k l : List UInt8} (h : Macd w g gi go k l) (hg : w.grownBy w' (some b)) (h1 : g ≠ b) (h2 : gi ≠ b) (h3 : go ≠ b) : Macd w' g gi go k l :=
  ⟨h.row.grown hg h1, h.din.grown hg h2, h.dout.grown hg h3, h.gi_lt, h.go_lt, h.ne⟩
/-- The call gave a mac of its own by the key k to which nothing was written. -/
def GaveMac (k : List UInt8) (w : World) (e : Ending) (w' : World) : Prop :=
  ∃ g gi go, e = .returned (.pointer (some ⟨g, 0, none⟩)) ∧ w.heap.size ≤ gi ∧ w.heap.size ≤ go ∧ Macd w' g gi go k [] ∧ Below w.heap.size w w'
set_option maxRecDepth 20000 in
set_option maxHeartbeats 1000000 in
theorem mnew_any (A : Option Addr) (n c : Nat) (k : List UInt8) (w : World) (hT : Tabs w) (hs : Sl w A c (byts k)) (hn : n = k.length) (hm : k.length ≤ 2305843009213693952) :
    Calls Tryd.prog 31 #[.slice A n c] w (GaveMac k w) := by
  have hKl := length_keyL k
  obtain ⟨V, hVq⟩ : ∃ V, V = byts (keyL k) := ⟨_, rfl⟩
  have hVl : V.length = 64 := by rw [hVq, length_byts, hKl]
  have hone := Lib.hid (all_one (show ∀ v ∈ V, v.oneCell' = true by rw [hVq]; exact byts_one _))
  have hsz := Lib.hid (show (Tryd.prog.info? 64).map (·.size) = some V.toArray.size by rw [size_blk, List.size_toArray, hVl])
  have hszV := Lib.hid (show (Tryd.prog.info? 64).map (·.size) = some V.length by rw [size_blk, hVl])
  have h64 := Lib.hid (show 64 = V.toArray.size by rw [List.size_toArray, hVl])
  have hw := Lib.hid (show Calls Tryd.prog 38 #[.slice A n c] w fun e w' => e = .returned (.agg V.toArray) ∧ Below w.heap.size w w' by rw [hVq]; exact whole_any A n c k w hT hs hn hm)
  have hb54 := Lib.hid (show ∀ w, Tabs w → Calls Tryd.prog 39 #[.agg V.toArray, .int .u8 54] w (GaveDig (xorL 54 (keyL k)) w) by rw [hVq]; exact fun w h => begun_any (keyL k) hKl 54 w h)
  have hb92 := Lib.hid (show ∀ w, Tabs w → Calls Tryd.prog 39 #[.agg V.toArray, .int .u8 92] w (GaveDig (xorL 92 (keyL k)) w) by rw [hVq]; exact fun w h => begun_any (keyL k) hKl 92 w h)
  clear hVq hVl hKl hs hn hm
  go_enter Tryd.func31, Tryd.ntmps31
  go_wp2_with (first
    | (go_at_call 38; refine hw.out.mono ?_; rintro e w1 ⟨rfl, hb1⟩)
    | (with_reducible refine wpList_store_row rfl 64 (.tmp 3) (.tmp 5) rfl w1.heap.size V.toArray rfl rfl 64 _ (heap_alloc_new w1 _) hsz.out (Eq.trans (by kernel_rfl) h64.out) hone.out ?_; refine Hid.out ?_))
  refine Lib.hid ?_
  generalize hw4 : World.setRow _ _ _ = w4
  obtain ⟨r4, hb4⟩ := row_new_set (xs := V) hw4
  have hbB := hb1.trans (hb4.mono hb1.size)
  have hT4 := hT.later hbB (Nat.le_refl _)
  clear hw4 hb4 hb1
  go_wp2_with fail
  refine wp_region_noPanic ?_
  refine wp_region_held_drew (S := fun w' => Below w4.heap.size w4 w') (by kernel_rfl) ((Below.refl _ _).drew) (fun hHeld => ?_)
  have hAll := hHeld
  refine rtake 0 _ (some 6) _ rfl rfl (by kernel_rfl) (by kernel_rfl) (by kernel_rfl) (fun _ _ _ h => h) (by rfl) hHeld (by intro w hS; exact run_load_op 64 (.tmp 3) rfl w1.heap.size 0 rfl V (.array 64 5) (row_range (r4.later hS r4.lt)) Tryd.underlying64 rfl hszV.out) ?_
  try (rw [put_some]; dsimp only [List.set])
  refine rtake 2 _ (some 8) _ rfl rfl (by kernel_rfl) (by kernel_rfl) (by kernel_rfl) (fun _ _ _ h => h) (by rfl) hHeld (by intro w hS; exact run_load_op 64 (.tmp 3) rfl w1.heap.size 0 rfl V (.array 64 5) (row_range (r4.later hS r4.lt)) Tryd.underlying64 rfl hszV.out) ?_
  try (rw [put_some]; dsimp only [List.set])
  refine wpAnyH_ready (rs := [1]) (by kernel_rfl) (by simp) (AllReadyH.cons (o := _) rfl (fun K hK => ?_) AllReadyH.nil)
  go_simp
  refine (hb54.out _ (hT4.later hHeld (Nat.le_refl _))).mono ?_; rintro e w5 ⟨gi, rfl, hgi, hd5, hb5⟩
  try go_wp2_with fail
  refine hK.out _ _ (below_step hHeld hb5) (fun _ => ?_)
  clear hK K
  try (rw [put_some]; dsimp only [List.set])
  have hAll := below_step hAll hb5
  refine wpAnyH_narrow (S' := fun w' => Below w5.heap.size w5 w') (fun _ h => below_step (below_step hHeld hb5) h) _ _ _ _ ?_
  clear hHeld
  have hHeld : Below w5.heap.size w5 w5 := Below.refl _ _
  refine wpAnyH_ready (rs := [3]) (by kernel_rfl) (by simp) (AllReadyH.cons (o := _) rfl (fun K hK => ?_) AllReadyH.nil)
  go_simp
  refine (hb92.out _ (hT4.later hAll (Nat.le_refl _))).mono ?_; rintro e w6 ⟨go, rfl, hgo, hd6, hb6⟩
  try go_wp2_with fail
  refine hK.out _ _ (below_step hHeld hb6) (fun _ => ?_)
  clear hK K
  try (rw [put_some]; dsimp only [List.set])
  have hAll := below_step hAll hb6
  refine wpAnyH_narrow (S' := fun w' => Below w6.heap.size w6 w') (fun _ h => below_step (below_step hHeld hb6) h) _ _ _ _ ?_
  clear hHeld
  have hHeld : Below w6.heap.size w6 w6 := Below.refl _ _
  refine rtake 4 _ (some 10) _ rfl rfl (by kernel_rfl) (by kernel_rfl) (by kernel_rfl) (fun _ _ _ h => h) (by rfl) hHeld (by intro w hS; go_simp; try with_reducible rfl) ?_
  try (rw [put_some]; dsimp only [List.set])
  refine wpAnyH_ready (rs := [5]) (by kernel_rfl) (by simp) (AllReadyH.cons (o := _) rfl (fun K hK => ?_) AllReadyH.nil)
  refine step_alloc (some 11) rfl (by rfl) (.pointer (some ⟨w6.heap.size, 0, none⟩)) (.cells #[.pointer (some ⟨gi, 0, none⟩), .pointer (some ⟨go, 0, none⟩)] 69) (by go_simp) ?_; intro w7 hw7 hb7
  refine hK.out _ _ (below_step hHeld hb7) (fun _ => ?_)
  clear hK K
  try (rw [put_some]; dsimp only [List.set])
  have hAll := below_step hAll hb7
  refine wpAnyH_narrow (S' := fun w' => Below w7.heap.size w7 w') (fun _ h => below_step (below_step hHeld hb7) h) _ _ _ _ ?_
  clear hHeld
  have hHeld : Below w7.heap.size w7 w7 := Below.refl _ _
  refine rtake 6 _ (some 2) _ rfl rfl (by kernel_rfl) (by kernel_rfl) (by kernel_rfl) (fun _ _ _ h => h) (by rfl) hHeld (by intro w hS; go_simp; try with_reducible rfl) ?_
  try (rw [put_some]; dsimp only [List.set])
  refine wpAnyH_done (by kernel_rfl) ?_ _
  refine NoPanic.normal ?_
  subst hw7
  have r7 := Row.new w6 69 [.pointer (some ⟨gi, 0, none⟩), .pointer (some ⟨go, 0, none⟩)]
  have hbC := hbB.trans (hAll.mono hbB.size)
  go_wp2
  go_ret
  have q1 := hd5.lt
  have q2 := hd6.lt
  have q3 := hb6.size
  have q4 := hbB.size
  have q5 := hb5.size
  have q6 : w4.drew.heap.size = w4.heap.size := rfl
  exact ⟨w6.heap.size, gi, go, rfl, by omega, by omega, ⟨r7, by rw [List.append_nil]; exact (hd5.later hb6 hd5.lt).later hb7 (by omega), hd6.later hb7 hd6.lt, by omega, by omega, by omega⟩, hbC⟩
theorem mac_cells {w : World} {g gi go : Nat} {k l : List UInt8} (h : Macd w g gi go k l) : w.cell? ⟨g, 0, none⟩ = some (.pointer (some ⟨gi, 0, none⟩)) ∧ w.cell? ⟨g, 1, none⟩ = some (.pointer (some ⟨go, 0, none⟩)) :=
  ⟨(h.row.cell 0).trans rfl, (h.row.cell 1).trans rfl⟩
theorem mwrite_any (g gi go n : Nat) (k l b : List UInt8) (A : Option Addr) (c : Nat) (w : World) (hT : Cube w) (hd : Macd w g gi go k l) (hs : Sl w A c (byts b)) (hA : 0 < b.length → ∀ a, A = some a → a.block ≠ gi) (hn : n = b.length) (hm : 64 + l.length + b.length ≤ 4611686018427387904) :
    Calls Tryd.prog 32 #[.pointer (some ⟨g, 0, none⟩), .slice A n c] w fun e w' => e = .returned (.tuple #[]) ∧ Macd w' g gi go k (l ++ b) ∧ w.grownBy w' (some gi) := by
  have hw := Lib.hid (show Calls Tryd.prog 40 #[.pointer (some ⟨gi, 0, none⟩), .slice A n c] w fun e w' => e = .returned (.tuple #[]) ∧ Dgt w' gi ((xorL 54 (keyL k) ++ l) ++ b) ∧ w.grownBy w' (some gi) from
    write_at gi n _ b A c w hT hd.din hs hA hn (by rw [List.length_append, length_xorL, length_keyL]; exact hm))
  obtain ⟨c0, c1⟩ := mac_cells hd
  clear c1 hs hA hn hm hT
  go_enter Tryd.func32, Tryd.ntmps32
  go_wp2_with (go_at_call 40; refine hw.out.mono ?_; rintro e w3 ⟨rfl, hd3, hg3⟩)
  go_end0
  have q1 := hd.gi_lt
  exact ⟨rfl, ⟨hd.row.grown hg3 (by omega), by rw [← List.append_assoc]; exact hd3, hd.dout.grown hg3 (Ne.symm hd.ne), hd.gi_lt, hd.go_lt, hd.ne⟩, hg3⟩
set_option maxRecDepth 20000 in
set_option maxHeartbeats 1000000 in
theorem msum_any (g gi go : Nat) (k l : List UInt8) (w : World) (hT : Cube w) (hd : Macd w g gi go k l) (hm : 64 + l.length ≤ 2305843009213693952) :
    Calls Tryd.prog 33 #[.pointer (some ⟨g, 0, none⟩)] w fun e w' => e = .returned (.agg (byts (macL k l)).toArray) ∧ Below w.heap.size w w' := by
  obtain ⟨KI, hKI⟩ : ∃ KI, KI = xorL 54 (keyL k) ++ l := ⟨_, rfl⟩
  obtain ⟨KO, hKO⟩ : ∃ KO, KO = xorL 92 (keyL k) := ⟨_, rfl⟩
  have hKIl : KI.length ≤ 2305843009213693952 := by rw [hKI, List.length_append, length_xorL, length_keyL]; exact hm
  have hKOl : KO.length = 64 := by rw [hKO, length_xorL, length_keyL]
  have hdi := hd.din
  have hdo := hd.dout
  rw [← hKI] at hdi
  rw [← hKO] at hdo
  obtain ⟨c0, c1⟩ := mac_cells hd
  have hgl := hd.lt
  have hil := hdi.lt
  have hol := hdo.lt
  obtain ⟨X, hX⟩ : ∃ X, X = byts (shaL KI) := ⟨_, rfl⟩
  have hXl : X.length = 32 := by rw [hX]; exact store_tag
  have honeX := Lib.hid (all_one (show ∀ v ∈ X, v.oneCell' = true by rw [hX]; exact byts_one _))
  have hszX := Lib.hid (show (Tryd.prog.info? 23).map (·.size) = some X.toArray.size by rw [size_tag, List.size_toArray, hXl])
  have h32 := Lib.hid (show 32 = X.toArray.size by rw [List.size_toArray, hXl])
  obtain ⟨V, hV⟩ : ∃ V, V = byts (macL k l) := ⟨_, rfl⟩
  have hVl : V.length = 32 := by rw [hV]; exact store_tag
  have honeV := Lib.hid (all_one (show ∀ v ∈ V, v.oneCell' = true by rw [hV]; exact byts_one _))
  have hszV := Lib.hid (show (Tryd.prog.info? 23).map (·.size) = some V.toArray.size by rw [size_tag, List.size_toArray, hVl])
  have hszo := Lib.hid (show (List.replicate 32 (Value.int .u8 0)).toArray.size = V.toArray.size by rw [List.size_toArray, List.size_toArray, List.length_replicate, hVl])
  have hsum1 := Lib.hid (show ∀ w, Cube w → Dgt w gi KI → Calls Tryd.prog 41 #[.pointer (some ⟨gi, 0, none⟩)] w fun e w' => e = .returned (.agg X.toArray) ∧ Below w.heap.size w w' by rw [hX]; exact fun w hC hd => sum_any gi KI w hC hd hKIl)
  have hsum2 := Lib.hid (show ∀ g w, Cube w → Dgt w g (KO ++ shaL KI) → Calls Tryd.prog 41 #[.pointer (some ⟨g, 0, none⟩)] w fun e w' => e = .returned (.agg V.toArray) ∧ Below w.heap.size w w' by
    intro g w hC hd
    have := sum_any g (KO ++ shaL KI) w hC hd (by rw [List.length_append, hKOl, length_shaL]; decide)
    rw [hV]; unfold macL; rw [← hKI, ← hKO]; exact this)
  have HX := Lib.hid hX
  have HV := Lib.hid hV
  have HKO := Lib.hid hKOl
  clear hX hXl hV hVl hKI hKO hKIl hKOl hm hd
  have tok1 : True := trivial
  have tok2 : True := trivial
  go_enter Tryd.func33, Tryd.ntmps33
  have hb0 := (Below.refl w.heap.size w).alloc (Nat.le_refl _) (.cells (List.replicate 32 (Value.int .u8 0)).toArray 23)
  go_wp2_with (first
    | (go_at_call 41; have _t := tok1; refine (hsum1.out _ (hT.later hb0 (Nat.le_refl _)) (hdi.later hb0 hil)).mono ?_; rintro e w1 ⟨rfl, hb1⟩; have r0 := (Row.new w 23 (List.replicate 32 (.int .u8 0))).later hb1 (Row.new w 23 (List.replicate 32 (.int .u8 0))).lt; have hbA := hb0.trans (hb1.mono hb0.size); clear tok1 hb1)
    | (with_reducible refine wpList_store_row rfl 23 (.tmp 3) (.tmp 9) rfl w1.heap.size X.toArray rfl rfl 23 _ (heap_alloc_new w1 _) hszX.out (Eq.trans (by kernel_rfl) h32.out) honeX.out ?_; refine Hid.out ?_))
  refine Lib.hid ?_
  generalize hw4 : World.setRow _ _ _ = w4
  obtain ⟨r4, hb4⟩ := row_new_set (xs := X) hw4
  rw [HX.out] at r4
  have r0 := r0.later hb4 r0.lt
  have hbB := hbA.trans (hb4.mono hbA.size)
  have c1' : w4.cell? ⟨g, 1, none⟩ = some (.pointer (some ⟨go, 0, none⟩)) := by rw [hbB.cell (p := ⟨g, 1, none⟩) hgl]; exact c1
  have hne : w.heap.size < w4.heap.size := r0.lt
  have hrl := r4.lt
  clear hw4 hb4 hbA hb0 c0 c1
  go_wp2_with (first
    | (go_at_call 42; refine (clone_any go KO _ (hdo.later hbB hol)).mono ?_; rintro e w5 ⟨g5, rfl, hg5, hd5, hb5⟩; have r4 := r4.later hb5 r4.lt; have r0 := r0.later hb5 r0.lt; have hbC := hbB.trans (hb5.mono hbB.size))
    | (go_at_call 40; refine (write_at g5 32 KO (shaL KI) (some ⟨w1.heap.size, 0, none⟩) 32 _ (hT.later hbC (Nat.le_refl _)) hd5 ⟨Rd.row (ys := []) (by rw [List.append_nil]; exact r4), by rw [store_tag]; exact Nat.le_refl _, fun h => by cases h⟩ (fun _ a ha => by cases ha; show w1.heap.size ≠ g5; omega) rfl (by rw [HKO.out, length_shaL]; decide)).mono ?_; rintro e w6 ⟨rfl, hd6, hg6⟩; have hbD := hbC.grown hg6 hbC.size (fun k h => by cases h; omega); have r0 := r0.grown hg6 (by omega))
    | (go_at_call 41; have _t := tok2; refine (hsum2.out g5 _ (hT.later hbD (Nat.le_refl _)) hd6).mono ?_; rintro e w7 ⟨rfl, hb7⟩; have R0 := Lib.hid (show w7.heap[w.heap.size]? = some (.cells (List.replicate 32 (Value.int .u8 0)).toArray 23 (0, 0)) from r0.later hb7 r0.lt); clear tok2)
    | ((with_reducible refine wpList_store_row rfl 23 (.tmp 2) (.tmp 19) rfl w.heap.size V.toArray rfl rfl 23 _ R0.out hszV.out hszo.out honeV.out ?_); have HG := Lib.hid (setRow_heap w7 w.heap.size _ V.toArray 23 (0, 0) R0.out))
    | (with_reducible refine bodyPost_ret (results_cell_row rfl _ _ w.heap.size 23 V.toArray (0, 0) (.array 32 5) rfl HG.out Tryd.underlying23 rfl hszV.out) rfl ?_))
  exact ⟨by rw [HV.out], below_setRow (hbD.trans (hb7.mono hbD.size)) (Nat.le_refl _) _⟩
end Go.Proofs.YtlocgfekgbdlmaaDoor

/- LAYER 4: package hmac's Of. -/
namespace Go.Proofs.YtlocgfekgbdlmaaDoor
open Go Go.RowKit

set_option maxRecDepth 20000 in
set_option maxHeartbeats 1000000 in
theorem mof_any (A : Option Addr) (n c : Nat) (K : List UInt8) (B : Option Addr) (m d : Nat) (ps : List Part) (w : World) (hT : Tabs w) (hs : Sl w A c (byts K)) (hn : n = K.length) (hp : Parts w B d ps) (hmn : m = ps.length)
    (hK : K.length ≤ 2305843009213693952) (hm : 64 + (flat ps).length ≤ 2305843009213693952) (hpl : ps.length ≤ 9223372036854775807) :
    Calls Tryd.prog 26 #[.slice A n c, .slice B m d] w fun e w' => e = .returned (.agg (byts (macL K (flat ps))).toArray) ∧ Below w.heap.size w w' := by
  subst hmn
  have hb0 := (Below.refl w.heap.size w).alloc (Nat.le_refl _) (.cells (List.replicate 32 (Value.int .u8 0)).toArray 23)
  have hnew := Lib.hid (mnew_any A n c K _ (hT.later hb0 (Nat.le_refl _)) (hs.later (Nat.le_refl _) hb0) hn hK)
  have HB0 := Lib.hid hb0
  clear hs hn hK hb0
  go_enter Tryd.func26, Tryd.ntmps26
  go_wp2_with (go_at_call 31; refine hnew.out.mono ?_; rintro e w1 ⟨g, gi, go, rfl, hgi, hgo, hd1, hb1⟩; have hbA : Below w.heap.size w w1 := HB0.out.trans (hb1.mono HB0.out.size); have r0 := (Row.new w 23 (List.replicate 32 (.int .u8 0))).later hb1 (Row.new w 23 (List.replicate 32 (.int .u8 0))).lt; rw [World.size_alloc] at hgi hgo; clear hb1 hnew)
  go_loopw [12] (fun i wr => ∃ k : Nat, k ≤ ps.length ∧ i = .int .i64 k ∧ Macd wr g gi go K (flat (ps.take k)) ∧ Row wr w.heap.size 23 (List.replicate 32 (.int .u8 0)) ∧ Below w.heap.size w wr) (fun i _ => ps.length - (intOf i).toNat)
  case atStart => exact ⟨0, by omega, rfl, hd1, r0, hbA⟩
  case round =>
    clear hd1 r0 hbA
    obtain ⟨k, hk, rfl, hd, r0, hb⟩ := hrel
    by_cases hlt : k < ps.length
    · obtain ⟨b, o, hA, _, _⟩ := hp.sl.rd.get (i := 0) (by rw [List.length_map]; omega)
      have hix := index_parts B b o ps.length d k hA hlt
      have hps := hp.later (Nat.le_refl _) hb
      rw [hA] at hps
      have hck := hps.get k hlt
      have hsk := hps.each ps[k] (List.getElem_mem hlt)
      have hsw := hp.each ps[k] (List.getElem_mem hlt)
      have HF := Lib.hid (flat_succ ps k hlt)
      have hfl := flat_le ps (k + 1)
      rw [HF.out, List.length_append] at hfl
      unfold partV at hck
      obtain ⟨⟨Ak, ck, lk⟩, hpk⟩ : ∃ p, p = ps[k] := ⟨_, rfl⟩
      rw [← hpk] at hck hsk hsw HF hfl
      dsimp only at hck hsk hsw HF hfl
      have hml : 64 + (flat (ps.take k)).length + lk.length ≤ 4611686018427387904 := by omega
      have HA := Lib.hid hA
      clear hpk hps hfl hA
      go_wp2_with (go_at_call 32; refine (mwrite_any g gi go lk.length K (flat (ps.take k)) lk Ak ck _ (hT.cu.later hb (Nat.le_refl _)) hd hsk (fun h a ha => by have := hsw.block_lt (by rw [length_byts]; exact h) ha; omega) rfl hml).mono ?_; rintro e w3 ⟨rfl, hd3, hg3⟩)
      have hb3 := hb.grown hg3 hb.size (fun k h => by cases h; omega)
      have r3 := r0.grown hg3 (by omega)
      clear hd hb r0 hg3 hck hsk hsw hix
      go_roundw
      case rel => exact ⟨k + 1, by omega, by go_num, by rw [HF.out]; exact hd3, r3, hb3⟩
      case measure => simp [intOf]; omega
    · rw [flat_all ps k (by omega)] at hd
      have hC := hT.cu.later hb (Nat.le_refl _)
      obtain ⟨V, hVq⟩ : ∃ V, V = byts (macL K (flat ps)) := ⟨_, rfl⟩
      have hsum := Lib.hid (show Calls Tryd.prog 33 #[.pointer (some ⟨g, 0, none⟩)] wr fun e w' => e = .returned (.agg V.toArray) ∧ Below wr.heap.size wr w' by rw [hVq]; exact msum_any g gi go K (flat ps) wr hC hd hm)
      have hVl : V.length = 32 := by rw [hVq]; exact store_tag
      have hone := Lib.hid (all_one (show ∀ v ∈ V, v.oneCell' = true by rw [hVq]; exact byts_one _))
      have hsz := Lib.hid (show (Tryd.prog.info? 23).map (·.size) = some V.toArray.size by rw [size_tag, List.size_toArray, hVl])
      have hszo := Lib.hid (show (List.replicate 32 (Value.int .u8 0)).toArray.size = V.toArray.size by rw [List.size_toArray, List.size_toArray, List.length_replicate, hVl])
      have HV := Lib.hid hVq
      clear hVq hVl hC hd
      go_wp2_with (first
        | (go_at_call 33; refine hsum.out.mono ?_; rintro e w3 ⟨rfl, hb3⟩; have R0 := Lib.hid (show w3.heap[w.heap.size]? = some (.cells (List.replicate 32 (Value.int .u8 0)).toArray 23 (0, 0)) from r0.later hb3 r0.lt))
        | ((with_reducible refine wpList_store_row rfl 23 (.tmp 4) (.tmp 21) rfl w.heap.size V.toArray rfl rfl 23 _ R0.out hsz.out hszo.out hone.out ?_); have HG := Lib.hid (setRow_heap w3 w.heap.size _ V.toArray 23 (0, 0) R0.out))
        | (with_reducible refine bodyPost_ret (results_cell_row rfl _ _ w.heap.size 23 V.toArray (0, 0) (.array 32 5) rfl HG.out Tryd.underlying23 rfl hsz.out) rfl ?_))
      exact ⟨by rw [HV.out], below_setRow (hb.trans (hb3.mono hb.size)) (Nat.le_refl _) _⟩
end Go.Proofs.YtlocgfekgbdlmaaDoor

/- SLICES THAT BEGAN AS A LITERAL WITH NOTHING IN IT ('[]byte{}'): what is appended lies in a block of its own, made behind. No Go function is spoken of here. -/
namespace Go.Proofs.YtlocgfekgbdlmaaDoor
open Go Go.RowKit

/-- The value is the literal still, or a row of the call's own, from block 'base' on. -/
def Begun (w : World) (base : Nat) (e : TypeId) (v : Value) (n : Nat) (xs : List Value) : Prop := ((∃ b, v = .slice (some b) 0 0) ∧ n = 0 ∧ xs = []) ∨ w.ownsRow base e 1 v n xs
theorem Begun.lit (w : World) (base : Nat) (e : TypeId) (b : Addr) : Begun w base e (.slice (some b) 0 0) 0 [] := .inl ⟨⟨b, rfl⟩, rfl, rfl⟩
theorem Begun.later {w w' : World} {base B n : Nat} {e : TypeId} {v : Value} {xs : List Value} (h : Begun w base e v n xs) (hb : Below B w w') (hB : w.heap.size ≤ B) : Begun w' base e v n xs := by
  rcases h with h | h
  · exact .inl h
  · exact .inr (own_later h hb hB)
theorem Begun.grown {w w' : World} {base n g : Nat} {e : TypeId} {v : Value} {xs : List Value} (h : Begun w base e v n xs) (hg : w.grownBy w' (some g)) (hlt : g < base) : Begun w' base e v n xs := by
  rcases h with h | h
  · exact .inl h
  · exact .inr (own_grown h hg hlt)
theorem Begun.sl {w : World} {base n : Nat} {e : TypeId} {v : Value} {xs : List Value} (h : Begun w base e v n xs) : ∃ A c, v = .slice A n c ∧ xs.length = n ∧ Sl w A c xs := by
  rcases h with ⟨⟨b, rfl⟩, rfl, rfl⟩ | h
  · exact ⟨some b, 0, rfl, rfl, .inl rfl, Nat.le_refl _, fun h => by cases h⟩
  · exact Sl.of_own h
theorem run_append_begun {P : Program} (w : World) (base : Nat) (t ty e : TypeId) (i : TypeInfo) (z : Value) (bytes : Nat) (ht : P.underlying t = some (.slice e)) (hi : P.info? e = some i) (hz : i.zero = some z)
    (hsize : i.size = 1) (hby : i.bytes = bytes) (hzs : z.cells.size = 1) (v : Value) (n : Nat) (xs : List Value) (hb : Begun w base e v n xs)
    (A : Option Addr) (m c : Nat) (news : List Value) (hm : m = news.length) (h0 : 0 < m) (hsl : Sl w A c news) (h1 : ∀ u ∈ news, u.oneCell' = true)
    (h63 : n + m ≤ maxLen) (hbytes : (n + m) * bytes ≤ 140737488355328) (hbase : base ≤ w.heap.size) :
    ∃ v' w', (Builtin.append_ #[t, t] ty #[v, .slice A m c]).run P w = .ok v' w' ∧ w'.ownsRow base e 1 v' (n + m) (xs ++ news) ∧ Below base w w' := by
  rcases hb with ⟨⟨b, rfl⟩, rfl, rfl⟩ | hown
  · subst hm
    obtain ⟨v', w', hr, h2, h3⟩ := run_append_sl (P := P) w base t ty e i z bytes ht hi hz hsize hby hzs (.slice none 0 0) 0 [] (World.ownsRow_nil w base e 1) A news.length c news rfl hsl h1 h63 hbytes hbase
    refine ⟨v', w', ?_, h2, ⟨h3.os, h3.tape, h3.output, h3.size, fun k hk => h3.block k (by omega) (by simp [Value.ownBlock])⟩⟩
    obtain ⟨b', o', rfl, _, _⟩ := hsl.rd.get h0
    have hw63 : ((news.length : Nat) : Int) ≤ 9223372036854775807 := by unfold maxLen at h63; omega
    have e1 := run_append_nil (P := P) (w := w) t ty e i z ht hi hz ⟨b', o', none⟩ news.length c news (by rw [hsize, Nat.mul_one]) hsl.rd.at_add h0 hw63 (by rw [hby]; rw [Nat.zero_add] at hbytes; omega)
    have e2 := run_append_grow (P := P) (w := w) t ty e i z ht hi hz b 0 0 [] (by simp) (fun j v hv => by simp at hv) ⟨b', o', none⟩ news.length c news (by rw [hsize, Nat.mul_one]) hsl.rd.at_add (by omega) (by rw [Nat.zero_add]; exact hw63) (by rw [Nat.zero_add, nextslicecap_zero h0, hby]; rw [Nat.zero_add] at hbytes; omega)
    rw [e2, ← hr, e1]
    simp
  · obtain ⟨v', w', hr, h2, h3⟩ := run_append_sl (P := P) w base t ty e i z bytes ht hi hz hsize hby hzs v n xs hown A m c news hm hsl h1 h63 hbytes hbase
    exact ⟨v', w', hr, h2, (Below.refl base w).grown h3 hbase (fun k hk => (hown.lt k hk).1)⟩
theorem wpList_append_begun {P : Program} {w : World} {ops : Array Oper} {rest : List Oper} {o : Oper} {a : Act} {Q : Exit → Act → World → Prop} (hgd : o.guard = none) (s x : Operand) (t : TypeId)
    (ho : o.op = .call { callee := .builtin .append, args := #[s, x], argTypes := #[t, t] })
    (base : Nat) (e : TypeId) (i : TypeInfo) (z : Value) (bytes : Nat) (ht : P.underlying t = some (.slice e)) (hi : P.info? e = some i) (hz : i.zero = some z)
    (hsize : i.size = 1) (hby : i.bytes = bytes) (hzs : z.cells.size = 1)
    (v : Value) (n : Nat) (xs : List Value) (hs : a.eval s = v) (hb : Begun w base e v n xs)
    (A : Option Addr) (m c : Nat) (news : List Value) (hx : a.eval x = .slice A m c) (hm : m = news.length) (h0 : 0 < m) (hsl : Sl w A c news) (h1 : ∀ u ∈ news, u.oneCell' = true)
    (h63 : n + m ≤ maxLen) (hbytes : (n + m) * bytes ≤ 140737488355328) (hbase : base ≤ w.heap.size)
    (h : ∀ v' w', w'.ownsRow base e 1 v' (n + m) (xs ++ news) → Below base w w' → wpList P ops Q rest (a.put o.dst v') w') : wpList P ops Q (o :: rest) a w := by
  refine wpList_plain hgd fun _ hK => ?_
  obtain ⟨v', w', hrun, h2, h3⟩ := run_append_begun (P := P) w base t o.type e i z bytes ht hi hz hsize hby hzs v n xs hb A m c news hm h0 hsl h1 h63 hbytes hbase
  unfold Oper.wp execOp
  simp only [ho, resolve, invoke, builtin, Sem.run_bind, Sem.run_pure, Result.andThen_ok, List.map_toArray, List.map_cons, List.map_nil, hs, hx, hrun]
  exact hK _ _ (h v' w' h2 h3)
/-- The same as one step of a region that draws its order. -/
theorem step_append_begun {P : Program} {w : World} {ops : Array Oper} {o : Oper} {a : Act} {K : Act → World → Prop} {Q : Exit → Act → World → Prop} {E : Prop} (dst : Option Tmp) (hdst : o.dst = dst) (hgd : Region.wanted o (yielded ops a.tmps) = true) (s x : Operand) (t : TypeId)
    (ho : o.op = .call { callee := .builtin .append, args := #[s, x], argTypes := #[t, t] })
    (base : Nat) (e : TypeId) (i : TypeInfo) (z : Value) (bytes : Nat) (ht : P.underlying t = some (.slice e)) (hi : P.info? e = some i) (hz : i.zero = some z)
    (hsize : i.size = 1) (hby : i.bytes = bytes) (hzs : z.cells.size = 1)
    (v : Value) (n : Nat) (xs : List Value) (hs : a.eval s = v) (hb : Begun w base e v n xs)
    (A : Option Addr) (m c : Nat) (news : List Value) (hx : a.eval x = .slice A m c) (hm : m = news.length) (h0 : 0 < m) (hsl : Sl w A c news) (h1 : ∀ u ∈ news, u.oneCell' = true)
    (h63 : n + m ≤ maxLen) (hbytes : (n + m) * bytes ≤ 140737488355328) (hbase : base ≤ w.heap.size)
    (h : ∀ v' w', w'.ownsRow base e 1 v' (n + m) (xs ++ news) → Below base w w' → K (a.put dst v') w') :
    if Region.wanted o (yielded ops a.tmps) = true then Oper.wp P o a w K Q else E := by
  subst hdst
  rw [if_pos hgd]
  obtain ⟨v', w', hrun, h2, h3⟩ := run_append_begun (P := P) w base t o.type e i z bytes ht hi hz hsize hby hzs v n xs hb A m c news hm h0 hsl h1 h63 hbytes hbase
  unfold Oper.wp execOp
  simp only [ho, resolve, invoke, builtin, Sem.run_bind, Sem.run_pure, Result.andThen_ok, List.map_toArray, List.map_cons, List.map_nil, hs, hx, hrun]
  exact h v' w' h2 h3
/-- In every world that turned block g alone, and made more, these bytes are turned into the same string. -/
theorem conv_grown {w : World} {A : Option Addr} {c g : Nat} {l : List UInt8} (h : Sl w A c (byts l)) (n : Nat) (hn : n = l.length) (hne : 0 < l.length → ∀ a, A = some a → a.block ≠ g) :
    ∀ w' : World, w.grownBy w' (some g) → (convert 28 9 (.slice A n c)).run Tryd.prog w' = .ok (.string (bstr l)) w' :=
  fun _ hg => conv_bytes (h.apart hg (by rw [length_byts]; exact hne)) n hn
/-- Two new rows. -/
theorem two_rows {w w1 : World} {A B : List Value} {tA tB : TypeId} (h : (w.alloc (.cells A.toArray tA)).alloc (.cells B.toArray tB) = w1) :
    Row w1 w.heap.size tA A ∧ Row w1 (w.heap.size + 1) tB B ∧ Below w.heap.size w w1 ∧ w1.heap.size = w.heap.size + 2 := by
  subst h
  have s1 : (w.alloc (.cells A.toArray tA)).heap.size = w.heap.size + 1 := World.size_alloc _ _
  exact ⟨heap_alloc2_old w _ _, heap_alloc2_new w _ _, ((Below.refl _ w).alloc (Nat.le_refl _) _).alloc (by omega) _, by rw [World.size_alloc, s1]⟩
end Go.Proofs.YtlocgfekgbdlmaaDoor

/- LAYER 6: package derive's Key. -/
namespace Go.Proofs.YtlocgfekgbdlmaaDoor
open Go Go.RowKit

theorem parts_pair {w : World} {A B : Option Addr} {c d : Nat} {l k : List UInt8} (h : Sl w A c (byts l)) (g : Sl w B d (byts k)) :
    Parts (w.alloc (.cells #[.slice A l.length c, .slice B k.length d] 28)) (some ⟨w.heap.size, 0, none⟩) 2 [(A, c, l), (B, d, k)] := by
  have r := Row.new w 28 [.slice A l.length c, .slice B k.length d]
  have hb := (Below.refl w.heap.size w).alloc (Nat.le_refl _) (.cells #[.slice A l.length c, .slice B k.length d] 28)
  refine ⟨⟨Rd.row (ys := []) (by rw [List.append_nil]; exact r), by simp, fun h => by cases h⟩, fun p hp => ?_⟩
  simp only [List.mem_cons, List.not_mem_nil, or_false] at hp
  rcases hp with rfl | rfl
  · exact h.later (Nat.le_refl _) hb
  · exact g.later (Nat.le_refl _) hb
set_option maxRecDepth 20000 in
set_option maxHeartbeats 1000000 in
theorem dkey_any (key : List UInt8) (hk : key.length = 32) (use : List UInt8) (A : Option Addr) (n c : Nat) (ss : List (List UInt8)) (w : World) (hT : Tabs w) (hs : Sl w A c (strsV ss)) (hn : n = ss.length) (hm : sumS (use :: ss) ≤ 1000000000) :
    Calls Tryd.prog 20 #[.agg (byts key).toArray, .string (bstr use), .slice A n c] w fun e w' => e = .returned (.agg (byts (keyD key use ss)).toArray) ∧ Below w.heap.size w w' := by
  subst hn
  have hFl := length_frameL (use :: ss)
  have hm1 : sumS [use] ≤ 1000000000 := by have := sumS_le (use :: ss) 1; rw [show (use :: ss).take 1 = [use] from rfl] at this; omega
  have hm2 : sumS ss ≤ 1000000000 := by have h2 : sumS (use :: ss) = use.length + 1 + sumS ss := rfl; omega
  obtain ⟨K, hK⟩ : ∃ K, K = byts key := ⟨_, rfl⟩
  have HK := Lib.hid hK
  have hKl : K.length = 32 := by rw [hK, length_byts]; exact hk
  obtain ⟨V, hV⟩ : ∃ V, V = byts (keyD key use ss) := ⟨_, rfl⟩
  have hVl : V.length = 32 := by rw [hV, length_byts]; exact length_keyD _ _ _
  have hone := Lib.hid (show ∀ v ∈ V, v.oneCell' = true by rw [hV]; exact byts_one _)
  have hszl := Lib.hid (show (Tryd.prog.info? 23).map (·.size) = some V.length by rw [size_tag, hVl])
  have hsz2 := Lib.hid (show (Tryd.prog.info? 23).map (·.size) = some V.toArray.size by rw [size_tag, List.size_toArray, hVl])
  have hfit := Lib.hid (show 0 + V.length ≤ (List.replicate 32 (Value.int .u8 0)).length by rw [hVl, List.length_replicate]; decide)
  have HVr := Lib.hid (show splice (List.replicate 32 (Value.int .u8 0)) 0 V = V by
    unfold splice
    rw [List.take_zero, List.nil_append, Nat.zero_add, hVl, List.drop_of_length_le (by rw [List.length_replicate]; exact Nat.le_refl _), List.append_nil])
  have hkl := Lib.hid hk
  obtain ⟨F1, hF1⟩ : ∃ F, F = frameL [use] := ⟨_, rfl⟩
  obtain ⟨F2, hF2⟩ : ∃ F, F = frameL ss := ⟨_, rfl⟩
  have hF12 := Lib.hid (show ∀ (A4 A5 : Option Addr) (c4 c5 : Nat), flat [(A4, c4, F1), (A5, c5, F2)] = frameL (use :: ss) by
    intros
    rw [hF1, hF2, show use :: ss = [use] ++ ss from rfl, frameL_append]
    simp [flat])
  have hFm := Lib.hid (show ∀ (A4 A5 : Option Addr) (c4 c5 : Nat), 64 + (flat [(A4, c4, F1), (A5, c5, F2)]).length ≤ 2305843009213693952 by
    intros
    rw [hF12.out _ _ _ _]; omega)
  have hf1 := Lib.hid (show ∀ w1 B d, Sl w1 B d (strsV [use]) → Calls Tryd.prog 27 #[.slice B 1 d] w1 (GaveBytes F1 w1) by
    rw [hF1]
    exact fun w1 B d h => dframe_any B 1 d [use] w1 h rfl hm1)
  have hf2 := Lib.hid (show ∀ w1, Sl w1 A c (strsV ss) → Calls Tryd.prog 27 #[.slice A ss.length c] w1 (GaveBytes F2 w1) by
    rw [hF2]
    exact fun w1 h => dframe_any A ss.length c ss w1 h rfl hm2)
  have HV := Lib.hid (show V = byts (macL key (frameL (use :: ss))) by rw [hV]; rfl)
  have HVD := Lib.hid hV
  rw [← hK]
  clear hV hVl hK hF1 hF2 hFl hk
  go_enter Tryd.func20, Tryd.ntmps20
  go_wp2_with fail
  generalize hw2 : World.alloc (World.alloc w _) _ = w2
  obtain ⟨r0, r1, hb2, _hs2⟩ := two_rows (A := K) (B := List.replicate 32 (.int .u8 0)) hw2
  clear hw2 _hs2
  have hsl2 := hs.later (Nat.le_refl _) hb2
  have hT2 := hT.later hb2 (Nat.le_refl _)
  have hslK : Sl w2 (some ⟨w.heap.size, 0, none⟩) 32 (byts key) := ⟨Rd.row (ys := []) (by rw [List.append_nil, ← HK.out]; exact r0), by rw [length_byts, hkl.out]; exact Nat.le_refl _, fun h => by cases h⟩
  clear r0 hs
  refine wp_region_noPanic ?_
  refine wp_region_held_drew (S := fun _ => True) (by kernel_rfl) (trivial) (fun hHeld => ?_)
  refine rtake 0 _ (some 7) _ rfl rfl (by kernel_rfl) (by kernel_rfl) (by kernel_rfl) (fun _ _ _ h => h) (by rfl) hHeld (by intro w hS; go_simp; try with_reducible rfl) ?_
  try (first | (rw [put_some]; dsimp only [List.set]) | rw [put_none])
  refine rtake 1 _ (some 8) _ rfl rfl (by kernel_rfl) (by kernel_rfl) (by kernel_rfl) (fun _ _ _ h => h) (by rfl) hHeld (by intro w hS; go_simp; try with_reducible rfl) ?_
  try (first | (rw [put_some]; dsimp only [List.set]) | rw [put_none])
  refine rtake 4 _ (some 11) _ rfl rfl (by kernel_rfl) (by kernel_rfl) (by kernel_rfl) (fun _ _ _ h => h) (by rfl) hHeld (by intro w hS; go_simp; try with_reducible rfl) ?_
  try (first | (rw [put_some]; dsimp only [List.set]) | rw [put_none])
  refine wpAnyH_ready (rs := [2]) (by kernel_rfl) (by simp) (AllReadyH.cons (o := _) rfl (fun K hK => ?_) AllReadyH.nil)
  refine step_alloc (some 9) rfl (by rfl) (.slice (some ⟨w2.heap.size, 0, none⟩) 1 1) (.cells #[.string (bstr use)] 9) (by go_simp) ?_; intro w3 hw3 hb3; have hsu : Sl w3 (some ⟨w2.heap.size, 0, none⟩) 1 (strsV [use]) := (by rw [hw3]; exact ⟨Rd.row (ys := []) (by rw [List.append_nil]; exact Row.new w2.drew 9 (strsV [use])), by rw [length_strsV]; exact Nat.le_refl _, fun h => by cases h⟩); have hb23 : Below w2.heap.size w2 w3 := (Below.refl w2.heap.size w2).drew.trans hb3; clear hw3
  refine hK.out _ _ (trivial) (fun hHeld => ?_)
  clear hK K
  try (first | (rw [put_some]; dsimp only [List.set]) | rw [put_none])
  refine wpAnyH_ready (rs := [3]) (by kernel_rfl) (by simp) (AllReadyH.cons (o := _) rfl (fun K hK => ?_) AllReadyH.nil)
  go_simp
  refine (hf1.out _ _ _ hsu).mono ?_; rintro e w4 ⟨v4, rfl, hown4, hb4⟩; obtain ⟨A4, c4, rfl, _, hsl4⟩ := Sl.of_own hown4; have hb24 := below_step hb23 hb4; clear hown4
  try go_wp2_with fail
  refine hK.out _ _ (trivial) (fun hHeld => ?_)
  clear hK K
  try (first | (rw [put_some]; dsimp only [List.set]) | rw [put_none])
  refine wpAnyH_ready (rs := [5]) (by kernel_rfl) (by simp) (AllReadyH.cons (o := _) rfl (fun K hK => ?_) AllReadyH.nil)
  go_simp
  refine (hf2.out _ (hsl2.later (Nat.le_refl _) hb24)).mono ?_; rintro e w5 ⟨v5, rfl, hown5, hb5⟩; obtain ⟨A5, c5, rfl, _, hsl5⟩ := Sl.of_own hown5; have hb25 := below_step hb24 hb5; clear hown5
  try go_wp2_with fail
  refine hK.out _ _ (trivial) (fun hHeld => ?_)
  clear hK K
  try (first | (rw [put_some]; dsimp only [List.set]) | rw [put_none])
  refine wpAnyH_ready (rs := [6]) (by kernel_rfl) (by simp) (AllReadyH.cons (o := _) rfl (fun K hK => ?_) AllReadyH.nil)
  refine step_alloc (some 13) rfl (by rfl) (.slice (some ⟨w5.heap.size, 0, none⟩) 2 2) (.cells #[.slice A4 F1.length c4, .slice A5 F2.length c5] 28) (by go_simp) ?_; intro w6 hw6 hb6; have hpt : Parts w6 (some ⟨w5.heap.size, 0, none⟩) 2 [(A4, c4, F1), (A5, c5, F2)] := (by rw [hw6]; exact parts_pair (hsl4.later (Nat.le_refl _) hb5) hsl5); have hb26 := below_step hb25 hb6; clear hw6
  refine hK.out _ _ (trivial) (fun hHeld => ?_)
  clear hK K
  try (first | (rw [put_some]; dsimp only [List.set]) | rw [put_none])
  refine wpAnyH_ready (rs := [7]) (by kernel_rfl) (by simp) (AllReadyH.cons (o := _) rfl (fun K hK => ?_) AllReadyH.nil)
  go_simp
  refine (mof_any (some ⟨w.heap.size, 0, none⟩) 32 32 key (some ⟨w5.heap.size, 0, none⟩) 2 2 [(A4, c4, F1), (A5, c5, F2)] _ (hT2.later hb26 (Nat.le_refl _)) (hslK.later (Nat.le_refl _) hb26) hkl.out.symm hpt rfl (by rw [hkl.out]; decide) (hFm.out _ _ _ _) (by simp)).mono ?_; rintro e w7 ⟨rfl, hb7⟩; have hb27 := below_step hb26 hb7; rw [hF12.out _ _ _ _, ← HV.out]
  try go_wp2_with fail
  refine hK.out _ _ (trivial) (fun hHeld => ?_)
  clear hK K
  try (first | (rw [put_some]; dsimp only [List.set]) | rw [put_none])
  refine wpAnyH_ready (rs := [8]) (by kernel_rfl) (by simp) (AllReadyH.cons (o := _) rfl (fun K hK => ?_) AllReadyH.nil)
  refine step_store_row none rfl (by rfl) 23 (.tmp 6) (.tmp 14) rfl (w.heap.size + 1) 0 23 _ V rfl rfl (r1.later hb27 r1.lt) hfit.out hszl.out hone.out ?_; intro w9 r9 hg9
  refine hK.out _ _ (trivial) (fun _ => ?_)
  clear hK K
  try (first | (rw [put_some]; dsimp only [List.set]) | rw [put_none])
  refine wpAnyH_done (by kernel_rfl) ?_ _
  refine NoPanic.normal ?_
  have r9 : Row w9 (w.heap.size + 1) 23 V := by rw [HVr.out] at r9; exact r9
  have hb9 := (hb2.trans (hb27.mono hb2.size)).grown hg9 (Nat.le_trans hb2.size hb27.size) (fun k h => by cases h; omega)
  have R9 := Lib.hid (show w9.heap[w.heap.size + 1]? = some (.cells V.toArray 23 (0, 0)) from r9)
  clear r9 hg9 r1 hslK hsl2 hsu hsl4 hsl5 hpt hb3 hb4 hb5 hb6 hb7 hb23 hb24 hb25 hb26 hb27 hb2
  go_wp2_with (with_reducible refine bodyPost_ret (results_cell_row rfl _ _ (w.heap.size + 1) 23 V.toArray (0, 0) (.array 32 5) rfl R9.out Tryd.underlying23 rfl hsz2.out) rfl ?_)
  exact ⟨by rw [HVD.out], hb9⟩
end Go.Proofs.YtlocgfekgbdlmaaDoor
