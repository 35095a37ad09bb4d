/- LAYER 1: what the document's digits come to as numbers, and what its root is. Lists and numbers alone. -/
import Derived.Test.YtefbopgbikmohaaDoorQ1
namespace Go.Proofs.YtefbopgbikmohaaDoor
open Go.RowKit

/-- The number that the first k digits are. -/
def vN (l : List Int) : Nat → Int
  | 0 => 0
  | k + 1 => vN l k + l.getD k 0 * 65536 ^ k
theorem getD_set (l : List Int) (p i : Nat) (v : Int) (hp : p < l.length) : (l.set p v).getD i 0 = if i = p then v else l.getD i 0 := by
  by_cases h : i = p
  · subst h; simp [hp]
  · rw [if_neg h]; simp [Ne.symm h]
theorem vN_set (l : List Int) (p : Nat) (v : Int) (hp : p < l.length) (k : Nat) : vN (l.set p v) k = if p < k then vN l k + (v - l.getD p 0) * 65536 ^ p else vN l k := by
  induction k with
  | zero => rfl
  | succ k ih =>
    rw [vN, vN, ih, getD_set l p k v hp]
    by_cases h : k = p
    · subst h
      rw [if_neg (by omega), if_pos rfl, if_pos (by omega), Int.sub_mul]; omega
    · rw [if_neg h]
      by_cases h2 : p < k
      · rw [if_pos h2, if_pos (by omega)]; omega
      · rw [if_neg h2, if_neg (by omega)]
def Dig (l : List Int) : Prop := ∀ i, 0 ≤ l.getD i 0 ∧ l.getD i 0 < 65536
def Bd (l : List Int) (M : Int) : Prop := ∀ i, 0 ≤ l.getD i 0 ∧ l.getD i 0 ≤ M
theorem P_pos (k : Nat) : (0 : Int) < 65536 ^ k := Int.pow_pos (by decide)
theorem vN_bd (l : List Int) (h : Dig l) (k : Nat) : 0 ≤ vN l k ∧ vN l k < 65536 ^ k := by
  induction k with
  | zero => exact ⟨by rw [vN]; omega, by rw [vN]; decide⟩
  | succ k ih =>
    have hk := h k
    have hP := P_pos k
    rw [vN, Int.pow_succ]
    have h1 : 0 ≤ l.getD k 0 * 65536 ^ k := Int.mul_nonneg hk.1 (by omega)
    have h2 : l.getD k 0 * 65536 ^ k ≤ 65535 * 65536 ^ k := Int.mul_le_mul_of_nonneg_right (by omega) (by omega)
    omega
theorem vN_more (l : List Int) (k : Nat) (h : l.length ≤ k) : vN l k = vN l l.length := by
  induction k with
  | zero => rw [show l.length = 0 by omega]
  | succ k ih =>
    by_cases e : l.length = k + 1
    · rw [e]
    · rw [vN, ih (by omega), show l.getD k 0 = 0 by simp [show l.length ≤ k by omega]]; omega
theorem aboveL_val (a b : List Int) (ha : Dig a) (hb : Dig b) (k : Nat) : aboveL a b k = decide (vN b k < vN a k) := by
  induction k with
  | zero => rw [aboveL, vN, vN]; rfl
  | succ k ih =>
    have h1 := ha k
    have h2 := hb k
    have h3 := vN_bd a ha k
    have h4 := vN_bd b hb k
    have hP := P_pos k
    rw [aboveL_succ, vN, vN]
    generalize a.getD k 0 = x at *
    generalize b.getD k 0 = y at *
    rcases Int.lt_trichotomy x y with h | h | h
    · have : (x + 1) * 65536 ^ k ≤ y * 65536 ^ k := Int.mul_le_mul_of_nonneg_right (by omega) (by omega)
      rw [Int.add_mul] at this
      rw [if_pos (by omega), decide_eq_false (by omega), decide_eq_false (by omega)]
    · subst h
      rw [if_neg (by simp), ih]
      congr 1
      exact propext ⟨fun _ => by omega, fun _ => by omega⟩
    · have : (y + 1) * 65536 ^ k ≤ x * 65536 ^ k := Int.mul_le_mul_of_nonneg_right (by omega) (by omega)
      rw [Int.add_mul] at this
      rw [if_pos (by omega), decide_eq_true (by omega), decide_eq_true (by omega)]

/-! ### The product -/
theorem mul_bd (x y : Int) (hx : 0 ≤ x ∧ x < 65536) (hy : 0 ≤ y ∧ y < 65536) : 0 ≤ x * y ∧ x * y < 4294967296 := by
  have h1 : 0 ≤ x * y := Int.mul_nonneg hx.1 hy.1
  have h2 : x * y ≤ 65535 * y := Int.mul_le_mul_of_nonneg_right (by omega) hy.1
  omega
theorem mul1_eq (out : List Int) (p : Nat) (x y M : Int) (hx : 0 ≤ x ∧ x < 65536) (hy : 0 ≤ y ∧ y < 65536) (hB : Bd out M) (hM : M ≤ 1000000000000000) :
    mul1 out p x y = (out.set p (out.getD p 0 + x * y % 65536)).set (p + 1) (out.getD (p + 1) 0 + x * y / 65536) := by
  have h := mul_bd x y hx hy
  have h1 := hB p
  have h2 := hB (p + 1)
  unfold mul1
  generalize x * y = z at *
  rw [IntWalk.wrap64_in z (by omega), Int.tmod_eq_emod_of_nonneg h.1, Int.tdiv_eq_ediv_of_nonneg h.1, IntWalk.wrap64_in (z / 65536) (by omega),
    IntWalk.wrap64_in (out.getD p 0 + z % 65536) (by omega), IntWalk.wrap64_in (out.getD (p + 1) 0 + z / 65536) (by omega)]
theorem mul1_bd (out : List Int) (p : Nat) (x y M : Int) (hx : 0 ≤ x ∧ x < 65536) (hy : 0 ≤ y ∧ y < 65536) (hB : Bd out M) (hM : M ≤ 1000000000000000) (hp : p + 1 < out.length) :
    Bd (mul1 out p x y) (M + 65536) := by
  have h := mul_bd x y hx hy
  rw [mul1_eq out p x y M hx hy hB hM]
  intro i
  rw [getD_set _ _ _ _ (by simp; omega), getD_set _ _ _ _ (by omega)]
  have h1 := hB p
  have h2 := hB (p + 1)
  have h3 := hB i
  split
  · omega
  · split <;> omega
theorem mul1_val (out : List Int) (p : Nat) (x y M : Int) (hx : 0 ≤ x ∧ x < 65536) (hy : 0 ≤ y ∧ y < 65536) (hB : Bd out M) (hM : M ≤ 1000000000000000) (hp : p + 1 < out.length) (n : Nat) (hn : p + 1 < n) :
    vN (mul1 out p x y) n = vN out n + x * y * 65536 ^ p := by
  rw [mul1_eq out p x y M hx hy hB hM, vN_set _ _ _ (by simp; omega), if_pos hn, vN_set _ _ _ (by omega), if_pos (by omega), getD_set _ _ _ _ (by omega), if_neg (by omega), Int.pow_succ]
  generalize (65536 : Int) ^ p = P
  generalize x * y = z
  have h1 : z = 65536 * (z / 65536) + z % 65536 := (Int.mul_ediv_add_emod z 65536).symm
  have h2 : z * P = z / 65536 * (P * 65536) + z % 65536 * P := by
    have e1 : z / 65536 * (P * 65536) = 65536 * (z / 65536) * P := by rw [Int.mul_comm P 65536, ← Int.mul_assoc, Int.mul_comm (z / 65536) 65536]
    rw [e1, ← Int.add_mul]
    exact congrArg (· * P) h1
  rw [h2, show out.getD p 0 + z % 65536 - out.getD p 0 = z % 65536 by omega, show out.getD (p + 1) 0 + z / 65536 - out.getD (p + 1) 0 = z / 65536 by omega]
  omega
theorem rowL_ok (x : Int) (b out : List Int) (i : Nat) (M : Int) (hx : 0 ≤ x ∧ x < 65536) (hb : Dig b) (hB : Bd out M) (k : Nat) (hM : M + 65536 * k ≤ 1000000000000000) (hk : i + k < out.length) (n : Nat) (hn : i + k < n) :
    Bd (rowL x b out i k) (M + 65536 * k) ∧ vN (rowL x b out i k) n = vN out n + x * 65536 ^ i * vN b k := by
  induction k with
  | zero => exact ⟨by rw [rowL]; simpa using hB, by rw [rowL, vN]; omega⟩
  | succ k ih =>
    obtain ⟨h1, h2⟩ := ih (by omega) (by omega) (by omega)
    have hl := len_rowL x b out i k
    rw [rowL]
    refine ⟨?_, ?_⟩
    · have := mul1_bd _ (i + k) x (b.getD k 0) _ hx (hb k) h1 (by omega) (by omega)
      intro j
      have := this j
      omega
    · rw [mul1_val _ (i + k) x (b.getD k 0) _ hx (hb k) h1 (by omega) (by omega) n (by omega), h2, vN, Int.pow_add, Int.mul_add]
      have e : x * b.getD k 0 * (65536 ^ i * 65536 ^ k) = x * 65536 ^ i * (b.getD k 0 * 65536 ^ k) := by
        generalize (65536 : Int) ^ i = P
        generalize (65536 : Int) ^ k = Q
        generalize b.getD k 0 = y
        ac_rfl
      rw [e]; omega
theorem outL_ok (a b : List Int) (ha : Dig a) (hb : Dig b) (hla : a.length ≤ 1000) (hlb : b.length ≤ 1000) (i : Nat) (hi : i ≤ a.length) (hl : 0 < b.length) :
    Bd (outL a b i) (65536 * 1000 * i) ∧ vN (outL a b i) (a.length + b.length) = vN a i * vN b b.length := by
  induction i with
  | zero =>
    refine ⟨fun j => ?_, ?_⟩
    · have : (outL a b 0).getD j 0 = 0 := by
        rw [outL]
        by_cases h : j < a.length + b.length
        · simp [h]
        · simp [show a.length + b.length ≤ j by omega]
      omega
    · rw [vN, outL]
      have : ∀ n k, vN (List.replicate n 0) k = 0 := by
        intro n k
        induction k with
        | zero => rfl
        | succ k ih =>
          rw [vN, ih]
          have : (List.replicate n (0 : Int)).getD k 0 = 0 := by
            by_cases h : k < n
            · simp [h]
            · simp [show n ≤ k by omega]
          rw [this]; omega
      rw [this]; omega
  | succ i ih =>
    obtain ⟨h1, h2⟩ := ih (by omega)
    rw [outL]
    obtain ⟨h3, h4⟩ := rowL_ok (a.getD i 0) b (outL a b i) i _ (ha i) hb h1 b.length (by omega) (by rw [len_outL]; omega) (a.length + b.length) (by omega)
    refine ⟨fun j => by have := h3 j; omega, ?_⟩
    rw [h4, h2, vN, Int.add_mul]
theorem car1_eq (out : List Int) (i : Nat) (M : Int) (hB : Bd out M) (hM : M ≤ 1000000000000000) (hi : i + 1 < out.length) :
    car1 out i = (out.set (i + 1) (out.getD (i + 1) 0 + out.getD i 0 / 65536)).set i (out.getD i 0 % 65536) := by
  have h1 := hB i
  have h2 := hB (i + 1)
  unfold car1
  rw [if_pos hi, Int.tdiv_eq_ediv_of_nonneg h1.1, Int.tmod_eq_emod_of_nonneg h1.1, IntWalk.wrap64_in (out.getD i 0 / 65536) (by omega), IntWalk.wrap64_in _ (by omega)]
theorem carL_ok (out : List Int) (M : Int) (hB : Bd out M) (hM : M ≤ 100000000000000) (hM0 : 65536 ≤ M) (i : Nat) (hi : i < out.length) :
    (∀ j, 0 ≤ (carL out i).getD j 0 ∧ (j < i → (carL out i).getD j 0 < 65536) ∧ (i < j → (carL out i).getD j 0 ≤ M)) ∧ (carL out i).getD i 0 ≤ 2 * M ∧ vN (carL out i) out.length = vN out out.length := by
  induction i with
  | zero => exact ⟨fun j => ⟨(hB j).1, fun h => absurd h (by omega), fun _ => (hB j).2⟩, by have := hB 0; rw [carL]; omega, rfl⟩
  | succ i ih =>
    obtain ⟨h1, h2, h3⟩ := ih (by omega)
    have hl := len_carL out i
    have hB2 : Bd (carL out i) (2 * M) := by
      intro j
      have := h1 j
      rcases Nat.lt_trichotomy j i with h | h | h
      · have := this.2.1 h; omega
      · subst h; omega
      · have := this.2.2 h; omega
    have he := car1_eq (carL out i) i (2 * M) hB2 (by omega) (by omega)
    rw [carL, he]
    have hi0 := hB2 i
    have hi1 := (h1 (i + 1)).2.2 (by omega)
    have hi2 := (h1 (i + 1)).1
    refine ⟨fun j => ?_, ?_, ?_⟩
    · rw [getD_set _ _ _ _ (by simp; omega), getD_set _ _ _ _ (by omega)]
      have hj := h1 j
      by_cases e1 : j = i
      · subst e1; rw [if_pos rfl]; omega
      · rw [if_neg e1]
        by_cases e2 : j = i + 1
        · subst e2; rw [if_pos rfl]; refine ⟨by omega, fun h => by omega, fun h => by omega⟩
        · rw [if_neg e2]
          refine ⟨hj.1, fun h => hj.2.1 (by omega), fun h => hj.2.2 (by omega)⟩
    · rw [getD_set _ _ _ _ (by simp; omega), getD_set _ _ _ _ (by omega), if_neg (by omega), if_pos rfl]; omega
    · rw [vN_set _ _ _ (by simp; omega), if_pos (by omega), vN_set _ _ _ (by omega), if_pos (by omega), getD_set _ _ _ _ (by omega), if_neg (by omega), h3, Int.pow_succ]
      generalize (carL out i).getD i 0 = z
      generalize (carL out i).getD (i + 1) 0 = y
      generalize (65536 : Int) ^ i = P
      have h1 : z = 65536 * (z / 65536) + z % 65536 := (Int.mul_ediv_add_emod z 65536).symm
      have h2 : z / 65536 * (P * 65536) + (z % 65536 - z) * P = 0 := by
        have e1 : z / 65536 * (P * 65536) = 65536 * (z / 65536) * P := by rw [Int.mul_comm P 65536, ← Int.mul_assoc, Int.mul_comm (z / 65536) 65536]
        rw [e1, ← Int.add_mul, show 65536 * (z / 65536) + (z % 65536 - z) = 0 by omega, Int.zero_mul]
      rw [show y + z / 65536 - y = z / 65536 by omega]
      omega
theorem times_ok (a b : List Int) (ha : Dig a) (hb : Dig b) (hla : a.length ≤ 1000) (hlb : b.length ≤ 1000) (h1a : 0 < a.length) (h1b : 0 < b.length) :
    Dig (timesL a b) ∧ vN (timesL a b) (a.length + b.length) = vN a a.length * vN b b.length := by
  obtain ⟨o1, o2⟩ := outL_ok a b ha hb hla hlb a.length (by omega) h1b
  have hl := len_outL a b a.length
  have o1' : Bd (outL a b a.length) 100000000000 := fun j => by have := o1 j; omega
  obtain ⟨n, hn⟩ : ∃ n, a.length + b.length = n + 1 := ⟨a.length + b.length - 1, by omega⟩
  obtain ⟨c1, c2, c3⟩ := carL_ok (outL a b a.length) 100000000000 o1' (by omega) (by omega) n (by omega)
  have hlast : timesL a b = carL (outL a b a.length) n := by
    unfold timesL
    rw [hn, carL, car1, if_neg (by rw [len_carL]; omega)]
  rw [hl] at c3
  rw [hlast]
  refine ⟨?_, by rw [c3, o2]⟩
  intro j
  have hj := c1 j
  rcases Nat.lt_trichotomy j n with h | h | h
  · exact ⟨hj.1, hj.2.1 h⟩
  · subst h
    refine ⟨hj.1, ?_⟩
    have hv : vN (carL (outL a b a.length) j) (j + 1) = vN a a.length * vN b b.length := by rw [← hn, c3, o2]
    have hva := vN_bd a ha a.length
    have hvb := vN_bd b hb b.length
    have hlt : vN a a.length * vN b b.length < 65536 ^ (j + 1) := by
      rw [← hn, Int.pow_add]
      have h1 : vN a a.length * vN b b.length ≤ vN a a.length * 65536 ^ b.length := Int.mul_le_mul_of_nonneg_left (by omega) hva.1
      have h2 : vN a a.length * 65536 ^ b.length < 65536 ^ a.length * 65536 ^ b.length := Int.mul_lt_mul_of_pos_right hva.2 (P_pos _)
      omega
    rw [vN] at hv
    have hlow : ∀ k, k ≤ j → 0 ≤ vN (carL (outL a b a.length) j) k := by
      intro k hk
      induction k with
      | zero => rw [vN]; omega
      | succ k ih =>
        rw [vN]
        have := ih (by omega)
        have := Int.mul_nonneg (c1 k).1 (Int.le_of_lt (P_pos k))
        omega
    have h0 := hlow j (Nat.le_refl _)
    have hP := P_pos j
    have h5 : (carL (outL a b a.length) j).getD j 0 * 65536 ^ j < 65536 * 65536 ^ j := by
      rw [Int.pow_succ] at hlt; omega
    exact Int.lt_of_mul_lt_mul_right h5 (by omega)
  · have : (carL (outL a b a.length) n).getD j 0 = 0 := by simp [show (carL (outL a b a.length) n).length ≤ j by rw [len_carL]; omega]
    omega
/-! ### The root -/
theorem digitsL_ok (t : Int) (h0 : 0 ≤ t) (h1 : t < 281474976710656) : Dig (digitsL t) ∧ vN (digitsL t) 3 = t := by
  refine ⟨fun i => ?_, ?_⟩
  · match i with
    | 0 => show 0 ≤ t % 65536 ∧ t % 65536 < 65536; omega
    | 1 => show 0 ≤ t / 65536 % 65536 ∧ t / 65536 % 65536 < 65536; omega
    | 2 => show 0 ≤ t / 65536 / 65536 ∧ t / 65536 / 65536 < 65536; omega
    | n + 3 => show 0 ≤ (0 : Int) ∧ (0 : Int) < 65536; omega
  · show 0 + t % 65536 * 65536 ^ 0 + t / 65536 % 65536 * 65536 ^ 1 + t / 65536 / 65536 * 65536 ^ 2 = t
    simp only [Int.pow_zero, Int.pow_succ]; omega
theorem mostL_get (p : Int) (q i : Nat) : (mostL p q).getD i 0 = if i = 2 * q then p else 0 := by
  unfold mostL
  by_cases h : i = 2 * q
  · subst h; simp
  · rw [if_neg h]
    by_cases h2 : i < 2 * q
    · rw [List.getD_eq_getElem?_getD, List.getElem?_append_left (by simp; omega)]; simp [h2]
    · rw [List.getD_eq_getElem?_getD, List.getElem?_eq_none (by simp; omega)]; rfl
theorem mostL_ok (p : Int) (q : Nat) (h0 : 0 ≤ p) (h1 : p < 65536) : Dig (mostL p q) ∧ ∀ k, vN (mostL p q) k = if 2 * q < k then p * 65536 ^ (2 * q) else 0 := by
  refine ⟨fun i => by rw [mostL_get]; split <;> omega, fun k => ?_⟩
  induction k with
  | zero => rfl
  | succ k ih =>
    rw [vN, ih, mostL_get]
    by_cases h : k = 2 * q
    · subst h; rw [if_neg (by omega), if_pos rfl, if_pos (by omega)]; omega
    · rw [if_neg h]
      by_cases h2 : 2 * q < k
      · rw [if_pos h2, if_pos (by omega)]; omega
      · rw [if_neg h2, if_neg (by omega)]; omega
theorem powL_ok (t : Int) (q : Nat) (hq : q = 2 ∨ q = 3) (h0 : 0 ≤ t) (h1 : t < 281474976710656) : Dig (powL t q) ∧ (powL t q).length = 3 * q ∧ vN (powL t q) (3 * q) = t ^ q := by
  obtain ⟨d1, d2⟩ := digitsL_ok t h0 h1
  have l3 := length_digitsL t
  obtain ⟨s1, s2⟩ := times_ok _ _ d1 d1 (by omega) (by omega) (by omega) (by omega)
  have ls := length_timesL (digitsL t) (digitsL t)
  have hsq : vN (timesL (digitsL t) (digitsL t)) (3 * 2) = t ^ 2 := by
    rw [l3, d2] at s2
    rw [show 3 * 2 = 3 + 3 from rfl, s2, Int.pow_succ, Int.pow_succ, Int.pow_zero, Int.one_mul]
  rcases hq with rfl | rfl
  · have e : powL t 2 = timesL (digitsL t) (digitsL t) := by unfold powL; rw [if_neg (by decide)]
    rw [e]
    exact ⟨s1, by omega, hsq⟩
  · have e : powL t 3 = timesL (timesL (digitsL t) (digitsL t)) (digitsL t) := by unfold powL; rw [if_pos rfl]
    rw [e]
    obtain ⟨c1, c2⟩ := times_ok _ _ s1 d1 (by omega) (by omega) (by omega) (by omega)
    have lc := length_timesL (timesL (digitsL t) (digitsL t)) (digitsL t)
    refine ⟨c1, by omega, ?_⟩
    rw [ls, l3, d2] at c2
    rw [show 3 * 3 = 3 + 3 + 3 from rfl, c2, show 3 + 3 = 3 * 2 from rfl, hsq, Int.pow_succ t 2]
theorem rootStep_eq (p : Int) (q : Nat) (r : Int) (b : Nat) (hq : q = 2 ∨ q = 3) (hp0 : 0 ≤ p) (hp1 : p < 65536) (hr : 0 ≤ r) (hb : b ≤ 37) :
    rootStep p q r b = if 137438953472 ≤ r + 2 ^ b then r else if p * 65536 ^ (2 * q) < (r + 2 ^ b) ^ q then r else r + 2 ^ b := by
  unfold rootStep
  have hpw := pow37 b hb
  by_cases h : 137438953472 ≤ r + 2 ^ b
  · rw [if_pos h, if_pos h]
  · rw [if_neg h, if_neg h]
    obtain ⟨p1, p2, p3⟩ := powL_ok (r + 2 ^ b) q hq (by omega) (by omega)
    obtain ⟨m1, m2⟩ := mostL_ok p q hp0 hp1
    have hl : (mostL p q).length = 2 * q + 1 := by unfold mostL; simp
    have hn : (powL (r + 2 ^ b) q).length ≤ (powL (r + 2 ^ b) q).length + (mostL p q).length + 1 := by omega
    have e : aboveL (powL (r + 2 ^ b) q) (mostL p q) ((powL (r + 2 ^ b) q).length + (mostL p q).length + 1) = decide (p * 65536 ^ (2 * q) < (r + 2 ^ b) ^ q) := by
      rw [aboveL_val _ _ p1 m1, vN_more _ _ hn, m2, p2, p3, if_pos (by omega)]
    rw [e]
    simp only [decide_eq_true_eq]
/-- The greatest number whose power is not above, bit by bit from the top. -/
theorem rootK_eq (p : Int) (q : Nat) (T : Int) (hq : q = 2 ∨ q = 3) (hp0 : 0 ≤ p) (hp1 : p < 65536) (hT0 : 0 ≤ T) (hT1 : T < 137438953472) (hlo : T ^ q ≤ p * 65536 ^ (2 * q)) (hhi : p * 65536 ^ (2 * q) < (T + 1) ^ q) (k : Nat) (hk : k ≤ 38) :
    rootK p q k = T - T % 2 ^ (38 - k) := by
  have mono : ∀ x y : Int, 0 ≤ x → x ≤ y → x ^ q ≤ y ^ q := by
    intro x y h1 h2
    rcases hq with rfl | rfl
    · simp only [Int.pow_succ, Int.pow_zero, Int.one_mul]
      exact Int.mul_le_mul h2 h2 h1 (by omega)
    · simp only [Int.pow_succ, Int.pow_zero, Int.one_mul]
      exact Int.mul_le_mul (Int.mul_le_mul h2 h2 h1 (by omega)) h2 h1 (Int.mul_nonneg (by omega) (by omega))
  induction k with
  | zero => rw [rootK, show 38 - 0 = 38 from rfl, show (2 : Int) ^ 38 = 274877906944 from by decide]; omega
  | succ k ih =>
    have hpw := pow37 (37 - k) (by omega)
    have ih := ih (by omega)
    have hmod := Int.emod_nonneg T (b := 2 ^ (38 - k)) (by have : (2 : Int) ^ (38 - k) = 2 * 2 ^ (37 - k) := by rw [show 38 - k = 37 - k + 1 by omega, Int.pow_succ]; omega
                                                           omega)
    have hr : 0 ≤ rootK p q k := (rootK_bd p q k).1
    rw [rootK, rootStep_eq p q _ _ hq hp0 hp1 hr (by omega)]
    rw [show 38 - k = 37 - k + 1 by omega, Int.pow_succ] at ih
    rw [show 38 - (k + 1) = 37 - k by omega]
    generalize (2 : Int) ^ (37 - k) = B at *
    have hdm : T % (B * 2) % B = T % B := Int.emod_emod_of_dvd T (Int.dvd_mul_right B 2)
    have hm0 := Int.emod_nonneg T (b := B * 2) (by omega)
    have hm1 := Int.emod_lt_of_pos T (b := B * 2) (by omega)
    by_cases hm : T % (B * 2) < B
    · rw [Int.emod_eq_of_lt hm0 hm] at hdm
      have ht : T + 1 ≤ rootK p q k + B := by omega
      have hpow := mono _ _ (by omega) ht
      by_cases h : 137438953472 ≤ rootK p q k + B
      · rw [if_pos h]; omega
      · rw [if_neg h, if_pos (by omega)]; omega
    · have e : T % (B * 2) % B = T % (B * 2) - B := by
        rw [← Int.sub_emod_right, Int.emod_eq_of_lt (by omega) (by omega)]
      rw [e] at hdm
      have hb0 := Int.emod_nonneg T (b := B) (by omega)
      have ht : rootK p q k + B ≤ T := by omega
      have hpow := mono _ _ (by omega) ht
      rw [if_neg (by omega), if_neg (by omega)]; omega
theorem root_is (p : Int) (q : Nat) (T : Int) (hq : q = 2 ∨ q = 3) (hp0 : 0 ≤ p) (hp1 : p < 65536) (hT0 : 0 ≤ T) (hT1 : T < 137438953472) (hlo : T ^ q ≤ p * 65536 ^ (2 * q)) (hhi : p * 65536 ^ (2 * q) < (T + 1) ^ q) :
    rootK p q 38 = T := by
  rw [rootK_eq p q T hq hp0 hp1 hT0 hT1 hlo hhi 38 (Nat.le_refl _)]
  simp
end Go.Proofs.YtefbopgbikmohaaDoor
