/- LAYER 15: texts of numbers with a point, as lists over their bits. No Go function is spoken of here. -/
import Derived.Test.YtimhhnhppnknhaaDoorCl
import Derived.Test.YtimhhnhppnknhaaDoorVd
namespace Go.Proofs.YtimhhnhppnknhaaDoor
set_option maxRecDepth 100000
open Go Go.RowKit

/-- Parts of bits: whether the sign is set, the odd number, the power. -/
def magC (b : Nat) : Nat := b % 2 ^ 63
def negC (b : Nat) : Bool := decide (b / 2 ^ 63 = 1)
def nanC (b : Nat) : Bool := decide (2047 * 2 ^ 52 < magC b)
def partsC (b : Nat) : Bool × Nat × Int :=
  if nanC b then (false, 0, 0)
  else if magC b = 2047 * 2 ^ 52 ∨ magC b = 0 then (negC b, 0, 0)
  else (negC b, oddC (sigC (magC b)), powC (magC b) + twosC (sigC (magC b)))
def intL (p : Int) : List UInt8 := if p < 0 then 45 :: numL 10 p.natAbs else numL 10 p.natAbs
/-- The text of what has no sign. -/
def bodyC (a : Nat) : List UInt8 :=
  if a = 0 then [48] else if a = 2047 * 2 ^ 52 then [105, 110, 102]
  else numL 10 (oddC (sigC a)) ++ 112 :: intL (powC a + twosC (sigC a))
def textC (b : Nat) : List UInt8 := if nanC b then [] else (if negC b then [45] else []) ++ bodyC (magC b)
def parseI (t : List UInt8) : Option Int :=
  match t with
  | 45 :: r => if r = [] ∨ r = [48] then (valueL 10 4 (45 :: r)).map fun n : Nat => (n : Int) else (valueL 10 4 r).map fun n : Nat => -(n : Int)
  | _ => (valueL 10 4 t).map fun n : Nat => (n : Int)
/-- A text up to the first 'p', and behind it. -/
def cutP : List UInt8 → Option (List UInt8 × List UInt8)
  | [] => none
  | c :: s => if c = 112 then some ([], s) else (cutP s).map fun x => (c :: x.1, x.2)
def magP (s : List UInt8) : Option Nat :=
  match cutP s with
  | none => none
  | some x => match valueL 10 16 x.1, parseI x.2 with
    | some m, some p => ofC m p
    | _, _ => none
def bodyP (s : List UInt8) : Option Nat := if s = [48] then some 0 else if s = [105, 110, 102] then some (2047 * 2 ^ 52) else magP s
def parseC (s : List UInt8) : Option Nat :=
  match s with
  | 45 :: r => (bodyP r).map (2 ^ 63 + ·)
  | _ => bodyP s
theorem cutP_at (t u : List UInt8) (h : (112 : UInt8) ∉ t) : cutP (t ++ 112 :: u) = some (t, u) := by
  induction t with
  | nil => rfl
  | cons c t ih =>
    rw [List.cons_append, cutP, if_neg (fun e => h (by rw [e]; exact List.mem_cons_self ..)), ih (fun hm => h (List.mem_cons_of_mem _ hm))]
    rfl
theorem cutP_some (s t u : List UInt8) (h : cutP s = some (t, u)) : s = t ++ 112 :: u := by
  induction s generalizing t u with
  | nil => cases h
  | cons c s ih =>
    rw [cutP] at h
    split at h
    · rename_i e
      cases h
      rw [e]; rfl
    · cases hc : cutP s with
      | none => rw [hc] at h; cases h
      | some x =>
        rw [hc] at h
        cases h
        rw [ih x.1 x.2 hc]; rfl
theorem hexD_dec9 : ∀ i : Nat, i < 10 → hexD i ≠ 45 ∧ hexD i ≠ 112 ∧ hexD i ≠ 105 := by
  intro i hi
  have : i = 0 ∨ i = 1 ∨ i = 2 ∨ i = 3 ∨ i = 4 ∨ i = 5 ∨ i = 6 ∨ i = 7 ∨ i = 8 ∨ i = 9 := by omega
  rcases this with rfl | rfl | rfl | rfl | rfl | rfl | rfl | rfl | rfl | rfl <;> decide
theorem num10_signs (n : Nat) : ∀ c ∈ numL 10 n, c ≠ 45 ∧ c ≠ 112 ∧ c ≠ 105 := by
  induction n using Nat.strongRecOn with
  | _ n ih =>
    by_cases h : n < 10
    · rw [numL_small 10 n h]
      intro c hc
      rw [List.mem_singleton.1 hc]
      exact hexD_dec9 n h
    · rw [numL_great 10 n (by omega) (by omega)]
      intro c hc
      rcases List.mem_append.1 hc with h1 | h1
      · exact ih (n / 10) (Nat.div_lt_self (by omega) (by omega)) c h1
      · rw [List.mem_singleton.1 h1]
        exact hexD_dec9 _ (Nat.mod_lt _ (by omega))
theorem num10_head (n : Nat) : ∃ c r, numL 10 n = c :: r ∧ c ≠ 45 := by
  cases h : numL 10 n with
  | nil => exact absurd h (numL_ne 10 n)
  | cons c r => exact ⟨c, r, rfl, (num10_signs n c (by rw [h]; exact List.mem_cons_self ..)).1⟩
theorem parseI_other (c : UInt8) (r : List UInt8) (h : c ≠ 45) : parseI (c :: r) = (valueL 10 4 (c :: r)).map fun n : Nat => (n : Int) := by
  unfold parseI
  split
  · rename_i e; injection e with e _; exact absurd e h
  · rfl
/-- A power of up to four digits comes back from its text. -/
theorem parseI_iff (t : List UInt8) (p : Int) : parseI t = some p ↔ intL p = t ∧ (numL 10 p.natAbs).length ≤ 4 := by
  have vi := fun s n => valueL_iff 10 4 (by omega) (by omega) s n
  constructor
  · intro h
    by_cases hc : ∃ r, t = 45 :: r
    · obtain ⟨r, rfl⟩ := hc
      unfold parseI at h
      by_cases hr : r = [] ∨ r = [48]
      · simp only [if_pos hr] at h
        cases hv : valueL 10 4 (45 :: r) with
        | none => rw [hv] at h; cases h
        | some n =>
          obtain ⟨e, -⟩ := (vi _ n).1 hv
          obtain ⟨c, q, e2, hc⟩ := num10_head n
          rw [e2] at e
          injection e with e _
          exact absurd e hc
      · simp only [if_neg hr] at h
        cases hv : valueL 10 4 r with
        | none => rw [hv] at h; cases h
        | some n =>
          rw [hv] at h
          have h : -(n : Int) = p := Option.some.inj h
          obtain ⟨e, hl⟩ := (vi _ n).1 hv
          have hn : n ≠ 0 := by
            rintro rfl
            exact hr (.inr e.symm)
          have hp : p.natAbs = n := by omega
          refine ⟨?_, by rw [hp, e]; exact hl⟩
          unfold intL
          rw [if_pos (by omega), hp, e]
    · have hp : parseI t = (valueL 10 4 t).map fun n : Nat => (n : Int) := by
        cases t with
        | nil => rfl
        | cons c r => exact parseI_other c r fun e => hc ⟨r, by rw [e]⟩
      rw [hp] at h
      cases hv : valueL 10 4 t with
      | none => rw [hv] at h; cases h
      | some n =>
        rw [hv] at h
        have h : (n : Int) = p := Option.some.inj h
        obtain ⟨e, hl⟩ := (vi _ n).1 hv
        have hp : p.natAbs = n := by omega
        refine ⟨?_, by rw [hp, e]; exact hl⟩
        unfold intL
        rw [if_neg (by omega), hp, e]
  · rintro ⟨rfl, hl⟩
    have hv : valueL 10 4 (numL 10 p.natAbs) = some p.natAbs := (vi _ _).2 ⟨rfl, hl⟩
    unfold intL
    by_cases h0 : p < 0
    · rw [if_pos h0]
      unfold parseI
      have hr : ¬ (numL 10 p.natAbs = [] ∨ numL 10 p.natAbs = [48]) := by
        rintro (h | h)
        · exact numL_ne 10 _ h
        · have := numL_inj 10 p.natAbs 0 (by omega) (by omega) (by rw [h]; rfl)
          omega
      simp only [if_neg hr, hv, Option.map_some]
      congr 1
      omega
    · rw [if_neg h0]
      obtain ⟨c, q, e2, hc⟩ := num10_head p.natAbs
      rw [e2] at hv ⊢
      rw [parseI_other c q hc, hv]
      show some ((p.natAbs : Nat) : Int) = some p
      congr 1
      omega
theorem magP_iff (s : List UInt8) (a : Nat) : magP s = some a ↔ FinC a ∧ s = numL 10 (oddC (sigC a)) ++ 112 :: intL (powC a + twosC (sigC a)) := by
  have vi := fun s n => valueL_iff 10 16 (by omega) (by omega) s n
  constructor
  · intro h
    unfold magP at h
    cases hc : cutP s with
    | none => rw [hc] at h; cases h
    | some x =>
      obtain ⟨x1, x2⟩ := x
      rw [hc] at h
      simp only at h
      cases hv : valueL 10 16 x1 with
      | none => rw [hv] at h; cases h
      | some m =>
        cases hp : parseI x2 with
        | none => rw [hv, hp] at h; cases h
        | some p =>
          rw [hv, hp] at h
          obtain ⟨f1, f2, f3⟩ := (ofC_iff m p a).1 h
          refine ⟨f1, ?_⟩
          rw [f2, f3, ((vi _ _).1 hv).1, ((parseI_iff _ _).1 hp).1]
          exact cutP_some _ _ _ hc
  · rintro ⟨hf, rfl⟩
    obtain ⟨g1, -⟩ := fit_of a hf
    obtain ⟨o1, o2⟩ := odd_twos (sigC a) (by have := sig_pos a hf; omega)
    have hle : oddC (sigC a) ≤ oddC (sigC a) * 2 ^ twosC (sigC a) := Nat.le_mul_of_pos_right _ (Nat.pow_pos (by omega))
    have hge : 2 ^ twosC (sigC a) ≤ oddC (sigC a) * 2 ^ twosC (sigC a) := Nat.le_mul_of_pos_left _ (by omega)
    rw [← o2] at hle hge
    have hsl : sigC a < 2 ^ 53 := by
      rcases g1 with ⟨_, h, _⟩ | ⟨_, h, _, _⟩ <;> omega
    have hpow : -1074 ≤ powC a ∧ powC a ≤ 971 := by
      rcases g1 with ⟨_, _, h⟩ | ⟨_, _, h, h'⟩ <;> omega
    have ht : twosC (sigC a) ≤ 52 := by
      by_cases hlt : twosC (sigC a) ≤ 52
      · exact hlt
      · exfalso
        have : 2 ^ 53 ≤ 2 ^ twosC (sigC a) := Nat.pow_le_pow_right (by omega) (by omega)
        omega
    unfold magP
    rw [cutP_at _ _ (fun h => (num10_signs _ _ h).2.1 rfl)]
    simp only
    have hv := (vi (numL 10 (oddC (sigC a))) _).2 ⟨rfl, numL_len 10 (by omega) 15 _ (by omega)⟩
    have hp := (parseI_iff (intL (powC a + twosC (sigC a))) _).2 ⟨rfl, numL_len 10 (by omega) 3 _ (by omega)⟩
    rw [hv, hp]
    exact (ofC_iff _ _ a).2 ⟨hf, rfl, rfl⟩
theorem bodyP_iff (s : List UInt8) (a : Nat) : bodyP s = some a ↔ a ≤ 2047 * 2 ^ 52 ∧ bodyC a = s := by
  unfold bodyP
  constructor
  · intro h
    split at h
    · rename_i e; cases h; exact ⟨by omega, e.symm⟩
    · split at h
      · rename_i e; cases h; exact ⟨by omega, e.symm⟩
      · obtain ⟨⟨f1, f2⟩, f3⟩ := (magP_iff s a).1 h
        refine ⟨by omega, ?_⟩
        unfold bodyC
        rw [if_neg (by omega), if_neg (by omega), f3]
  · rintro ⟨hle, rfl⟩
    unfold bodyC
    by_cases h0 : a = 0
    · rw [if_pos h0, if_pos rfl, h0]
    · rw [if_neg h0]
      by_cases hi : a = 2047 * 2 ^ 52
      · rw [if_pos hi, if_neg (by decide), if_pos rfl, hi]
      · rw [if_neg hi]
        have hmem : (112 : UInt8) ∈ numL 10 (oddC (sigC a)) ++ 112 :: intL (powC a + twosC (sigC a)) := by simp
        rw [if_neg (by intro e; rw [e] at hmem; exact absurd hmem (by decide)), if_neg (by intro e; rw [e] at hmem; exact absurd hmem (by decide))]
        exact (magP_iff _ a).2 ⟨⟨by omega, by omega⟩, rfl⟩
theorem body_head (a : Nat) : ∃ c r, bodyC a = c :: r ∧ c ≠ 45 := by
  unfold bodyC
  split
  · exact ⟨48, [], rfl, by decide⟩
  · split
    · exact ⟨105, [110, 102], rfl, by decide⟩
    · obtain ⟨c, r, e, hc⟩ := num10_head (oddC (sigC a))
      exact ⟨c, r ++ _, by rw [e]; rfl, hc⟩
theorem parseC_other (c : UInt8) (r : List UInt8) (h : c ≠ 45) : parseC (c :: r) = bodyP (c :: r) := by
  unfold parseC
  split
  · rename_i e; injection e with e _; exact absurd e h
  · rfl
/-- The text's number: the one whose text it is. -/
theorem parseC_iff (s : List UInt8) (b : Nat) : parseC s = some b ↔ b < 2 ^ 64 ∧ nanC b = false ∧ textC b = s := by
  constructor
  · intro h
    by_cases hc : ∃ r, s = 45 :: r
    · obtain ⟨r, rfl⟩ := hc
      unfold parseC at h
      simp only at h
      cases hb : bodyP r with
      | none => rw [hb] at h; cases h
      | some a =>
        rw [hb] at h
        have h : 2 ^ 63 + a = b := Option.some.inj h
        obtain ⟨h1, h2⟩ := (bodyP_iff r a).1 hb
        have hm : magC b = a := by unfold magC; omega
        have hn : nanC b = false := by unfold nanC; rw [hm]; exact decide_eq_false (by omega)
        have hg : negC b = true := by unfold negC; exact decide_eq_true (by omega)
        refine ⟨by omega, hn, ?_⟩
        unfold textC
        rw [hn, hg, hm, h2]; rfl
    · have hp : bodyP s = some b := by
        cases s with
        | nil => exact h
        | cons c r => rw [← parseC_other c r (fun e => hc ⟨r, by rw [e]⟩)]; exact h
      obtain ⟨h1, h2⟩ := (bodyP_iff s b).1 hp
      have hm : magC b = b := by unfold magC; omega
      have hn : nanC b = false := by unfold nanC; rw [hm]; exact decide_eq_false (by omega)
      have hg : negC b = false := by unfold negC; exact decide_eq_false (by omega)
      refine ⟨by omega, hn, ?_⟩
      unfold textC
      rw [hn, hg, hm, h2]; rfl
  · rintro ⟨h1, hn, rfl⟩
    have hle : magC b ≤ 2047 * 2 ^ 52 := by
      unfold nanC at hn
      have := of_decide_eq_false hn
      omega
    have hb := (bodyP_iff (bodyC (magC b)) (magC b)).2 ⟨hle, rfl⟩
    unfold textC
    rw [hn]
    cases hg : negC b with
    | true =>
      have : b / 2 ^ 63 = 1 := of_decide_eq_true hg
      show (bodyP (bodyC (magC b))).map (2 ^ 63 + ·) = some b
      rw [hb]
      show some (2 ^ 63 + magC b) = some b
      congr 1
      unfold magC
      omega
    | false =>
      have : ¬ b / 2 ^ 63 = 1 := of_decide_eq_false hg
      show parseC (bodyC (magC b)) = some b
      obtain ⟨c, r, e, hc⟩ := body_head (magC b)
      rw [e] at hb ⊢
      rw [parseC_other c r hc, hb]
      congr 1
      unfold magC
      omega
end Go.Proofs.YtimhhnhppnknhaaDoor
