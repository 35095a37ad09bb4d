/- LAYER 15: how two numbers with a point stand to each other, by their bits. No Go function is spoken of here. -/
import Derived.Test.YtimhhnhppnknhaaDoorCm
import Derived.Laws.Cover2
namespace Go.Proofs.YtimhhnhppnknhaaDoor
set_option maxRecDepth 100000
open Go Go.RowKit

/-- Where a number stands among all. -/
def rankC (b : Nat) : Int := if negC b then -(magC b : Int) else (magC b : Int)
theorem cmp_congr {x y u v : Int} (h1 : x < y ↔ u < v) (h2 : x = y ↔ u = v) : compare x y = compare u v := by
  show compareOfLessAndEq x y = compareOfLessAndEq u v
  unfold compareOfLessAndEq
  by_cases a : x < y
  · rw [if_pos a, if_pos (h1.1 a)]
  · rw [if_neg a, if_neg (fun h => a (h1.2 h))]
    by_cases b : x = y
    · rw [if_pos b, if_pos (h2.1 b)]
    · rw [if_neg b, if_neg (fun h => b (h2.2 h))]
theorem cmp_lt {x y : Int} (h : x < y) : compare x y = .lt := by
  show compareOfLessAndEq x y = .lt
  unfold compareOfLessAndEq
  rw [if_pos h]
theorem cmp_gt {x y : Int} (h : y < x) : compare x y = .gt := by
  show compareOfLessAndEq x y = .gt
  unfold compareOfLessAndEq
  rw [if_neg (by omega), if_neg (by omega)]
/-- Greater bits, a greater number. -/
theorem sig_mono (a b : Nat) (base : Int) (ha : base ≤ powC a) (hb : base ≤ powC b) (h : a < b) : sigC a * 2 ^ (powC a - base).toNat < sigC b * 2 ^ (powC b - base).toNat := by
  have hP : powC a ≤ powC b := by unfold powC; split <;> split <;> omega
  obtain ⟨k, hk⟩ : ∃ k, k = (powC b - powC a).toNat := ⟨_, rfl⟩
  have e : (powC b - base).toNat = (powC a - base).toNat + k := by omega
  rw [e, Nat.pow_add, ← Nat.mul_assoc, Nat.mul_right_comm]
  refine Nat.mul_lt_mul_of_pos_right ?_ (Nat.pow_pos (by omega))
  by_cases h0 : k = 0
  · subst h0
    rw [Nat.pow_zero, Nat.mul_one]
    have hE : powC a = powC b := by omega
    unfold powC at hE
    unfold sigC
    split at hE <;> split at hE <;> (try split) <;> (try split) <;> omega
  · have h2 : 2 ≤ 2 ^ k := by
      have : 2 ^ 1 ≤ 2 ^ k := Nat.pow_le_pow_right (by omega) (by omega)
      omega
    have hb52 : 2 ^ 52 ≤ sigC b := by
      unfold sigC
      split
      · omega
      · exfalso
        unfold powC at hk hP
        split at hk <;> split at hP <;> omega
    have ha53 : sigC a < 2 ^ 53 := by unfold sigC; split <;> omega
    have : 2 ^ 52 * 2 ≤ sigC b * 2 ^ k := Nat.mul_le_mul hb52 h2
    omega
theorem sig_mono_iff (a b : Nat) (base : Int) (ha : base ≤ powC a) (hb : base ≤ powC b) : (sigC a * 2 ^ (powC a - base).toNat < sigC b * 2 ^ (powC b - base).toNat ↔ a < b) ∧ (sigC a * 2 ^ (powC a - base).toNat = sigC b * 2 ^ (powC b - base).toNat ↔ a = b) := by
  rcases Nat.lt_trichotomy a b with h | h | h
  · have := sig_mono a b base ha hb h
    exact ⟨⟨fun _ => h, fun _ => this⟩, ⟨fun e => by omega, fun e => by omega⟩⟩
  · subst h
    exact ⟨⟨fun e => by omega, fun e => by omega⟩, ⟨fun _ => rfl, fun _ => rfl⟩⟩
  · have := sig_mono b a base hb ha h
    exact ⟨⟨fun e => by omega, fun e => by omega⟩, ⟨fun e => by omega, fun e => by omega⟩⟩
theorem read_fin (b : Nat) (hb : b < 2 ^ 64) (h : magC b < 2047 * 2 ^ 52) : Ieee.double.read b = .number (negC b) (sigC (magC b)) (powC (magC b)) := by
  have hs : Ieee.double.signWeight = 2 ^ 63 := rfl
  have hbi : Ieee.double.binade = 2 ^ 52 := rfl
  have hin : Ieee.double.infRung = 2047 * 2 ^ 52 := rfl
  have hl : Ieee.double.leastPlace = -1074 := rfl
  have hn : (b / 2 ^ 63 % 2 == 1) = negC b := by
    unfold negC
    rw [show b / 2 ^ 63 % 2 = b / 2 ^ 63 by omega]
    exact (Bool.eq_iff_iff).2 (by rw [beq_iff_eq, decide_eq_true_iff])
  unfold Ieee.Format.read
  simp only [hs, hbi, hin, hl, hn]
  show (if magC b < 2 ^ 52 then _ else if magC b < 2047 * 2 ^ 52 then _ else _) = _
  unfold sigC powC
  by_cases h52 : magC b < 2 ^ 52
  · rw [if_pos h52, if_neg (by omega), if_neg (by omega)]
    congr 1
    show magC b = _
    omega
  · rw [if_neg h52, if_pos h, if_pos (by omega), if_pos (by omega)]
    show Ieee.Datum.number _ (2 ^ 52 + magC b % 2 ^ 52) (-1074 + ((magC b / 2 ^ 52 - 1 : Nat) : Int)) = _
    congr 1 <;> omega
theorem read_inf (b : Nat) (hb : b < 2 ^ 64) (h : magC b = 2047 * 2 ^ 52) : Ieee.double.read b = .infinity (negC b) := by
  have hs : Ieee.double.signWeight = 2 ^ 63 := rfl
  have hbi : Ieee.double.binade = 2 ^ 52 := rfl
  have hin : Ieee.double.infRung = 2047 * 2 ^ 52 := rfl
  have hn : (b / 2 ^ 63 % 2 == 1) = negC b := by
    unfold negC
    rw [show b / 2 ^ 63 % 2 = b / 2 ^ 63 by omega]
    exact (Bool.eq_iff_iff).2 (by rw [beq_iff_eq, decide_eq_true_iff])
  unfold Ieee.Format.read
  simp only [hs, hbi, hin, hn]
  show (if magC b < 2 ^ 52 then _ else if magC b < 2047 * 2 ^ 52 then _ else if magC b = 2047 * 2 ^ 52 then _ else _) = _
  rw [if_neg (by omega), if_neg (by omega), if_pos h]
theorem read_nan (b : Nat) (h : nanC b = true) : ∃ s f, Ieee.double.read b = .nan s f := by
  have h := of_decide_eq_true (show decide (2047 * 2 ^ 52 < magC b) = true from h)
  have hs : Ieee.double.signWeight = 2 ^ 63 := rfl
  have hbi : Ieee.double.binade = 2 ^ 52 := rfl
  have hin : Ieee.double.infRung = 2047 * 2 ^ 52 := rfl
  unfold Ieee.Format.read
  simp only [hs, hbi, hin]
  refine ⟨b / 2 ^ 63 % 2 == 1, magC b - 2047 * 2 ^ 52, ?_⟩
  show (if magC b < 2 ^ 52 then _ else if magC b < 2047 * 2 ^ 52 then _ else if magC b = 2047 * 2 ^ 52 then _ else _) = _
  rw [if_neg (by omega), if_neg (by omega), if_neg (by omega)]; rfl
theorem shl (m k : Nat) : m <<< k = m * 2 ^ k := Nat.shiftLeft_eq m k
theorem sig_zero (a : Nat) : sigC a = 0 ↔ a = 0 := by
  unfold sigC; split <;> omega
/-- How two numbers stand to each other, by their bits as numbers that rise; none, if one is none. -/
theorem order_rank (a b : Nat) (ha : a < 2 ^ 64) (hb : b < 2 ^ 64) : Ieee.double.order a b = if nanC a = true ∨ nanC b = true then none else some (compare (rankC a) (rankC b)) := by
  unfold Ieee.Format.order
  by_cases na : nanC a = true
  · obtain ⟨s, f, e⟩ := read_nan a na
    rw [e, if_pos (.inl na)]
    cases Ieee.double.read b <;> rfl
  · by_cases nb : nanC b = true
    · obtain ⟨s, f, e⟩ := read_nan b nb
      rw [e, if_pos (.inr nb)]
      cases Ieee.double.read a <;> rfl
    · rw [if_neg (by rintro (h | h); exact na h; exact nb h)]
      have la : magC a ≤ 2047 * 2 ^ 52 := by
        have : ¬ 2047 * 2 ^ 52 < magC a := fun h => na (decide_eq_true h)
        omega
      have lb : magC b ≤ 2047 * 2 ^ 52 := by
        have : ¬ 2047 * 2 ^ 52 < magC b := fun h => nb (decide_eq_true h)
        omega
      by_cases ia : magC a = 2047 * 2 ^ 52
      · rw [read_inf a ha ia]
        by_cases ib : magC b = 2047 * 2 ^ 52
        · rw [read_inf b hb ib]
          unfold rankC
          rw [ia, ib]
          cases negC a <;> cases negC b <;> rfl
        · rw [read_fin b hb (by omega)]
          unfold rankC
          show some (if negC a = true then Ordering.lt else Ordering.gt) = _
          congr 1
          cases negC a <;> cases negC b <;> simp only [Bool.false_eq_true, if_true, if_false]
          all_goals first
            | exact (cmp_gt (by omega)).symm
            | exact (cmp_lt (by omega)).symm
      · rw [read_fin a ha (by omega)]
        by_cases ib : magC b = 2047 * 2 ^ 52
        · rw [read_inf b hb ib]
          unfold rankC
          show some (if negC b = true then Ordering.gt else Ordering.lt) = _
          congr 1
          cases negC a <;> cases negC b <;> simp only [Bool.false_eq_true, if_true, if_false]
          all_goals first
            | exact (cmp_gt (by omega)).symm
            | exact (cmp_lt (by omega)).symm
        · rw [read_fin b hb (by omega)]
          obtain ⟨m1, m2⟩ := sig_mono_iff (magC a) (magC b) (min (powC (magC a)) (powC (magC b))) (by omega) (by omega)
          have z1 : sigC (magC a) * 2 ^ (powC (magC a) - min (powC (magC a)) (powC (magC b))).toNat = 0 ↔ magC a = 0 := by
            rw [Nat.mul_eq_zero, sig_zero]
            exact ⟨fun h => h.elim id fun h => absurd h (Nat.ne_of_gt (Nat.pow_pos (by omega))), .inl⟩
          have z2 : sigC (magC b) * 2 ^ (powC (magC b) - min (powC (magC a)) (powC (magC b))).toNat = 0 ↔ magC b = 0 := by
            rw [Nat.mul_eq_zero, sig_zero]
            exact ⟨fun h => h.elim id fun h => absurd h (Nat.ne_of_gt (Nat.pow_pos (by omega))), .inl⟩
          show some (compare (Ieee.signed (negC a) (sigC (magC a)) _) (Ieee.signed (negC b) (sigC (magC b)) _)) = _
          congr 1
          unfold Ieee.signed rankC
          simp only [shl]
          generalize sigC (magC a) * 2 ^ (powC (magC a) - min (powC (magC a)) (powC (magC b))).toNat = A at *
          generalize sigC (magC b) * 2 ^ (powC (magC b) - min (powC (magC a)) (powC (magC b))).toNat = B at *
          generalize magC a = x at *
          generalize magC b = y at *
          cases negC a <;> cases negC b <;> simp only [Bool.false_eq_true, if_true, if_false]
          all_goals refine cmp_congr ?_ ?_
          all_goals constructor <;> intro h <;> omega
end Go.Proofs.YtimhhnhppnknhaaDoor
