/- LAYER 16: words, numbers, names, as lists. No Go function is spoken of here. -/
import Derived.Test.YtbngnmhbnhpbeaaDoorSp
import Derived.Test.YtbngnmhbnhpbeaaDoorVd
namespace Go.Proofs.YtbngnmhbnhpbeaaDoor
set_option maxRecDepth 100000
open Go Go.RowKit

/-- Can a byte be in a text of words? -/
def inkB (c : UInt8) : Bool := decide (32 ≤ c.toNat) && decide (c.toNat ≤ 126)
def wordsL (s : List UInt8) : Option (List (List UInt8)) :=
  if s = [] then some [] else if s.length ≤ 512 ∧ s.all inkB = true ∧ (splitL 32 s).all (fun p => decide (p ≠ [])) = true then some (splitL 32 s) else none
def lowB (c : UInt8) : Bool := decide (97 ≤ c.toNat) && decide (c.toNat ≤ 122)
def name16 (s : List UInt8) : Bool := decide (1 ≤ s.length) && decide (s.length ≤ 16) && s.all lowB
/-- Is the name at a place one, and above the one ahead? -/
def okAt (l : List (List UInt8)) (i : Nat) : Bool := name16 (l.getD i []) && (decide (i = 0) || Op.bytesLess (l.getD (i - 1) []) (l.getD i []))
def riseL (l : List (List UInt8)) : Bool := decide (1 ≤ l.length) && decide (l.length ≤ 32) && (List.range l.length).all (okAt l)
def namesC (s : List UInt8) : Option (List (List UInt8)) := if riseL (splitL 44 s) = true then some (splitL 44 s) else none
def joinL16 (l : List (List UInt8)) : List UInt8 := if riseL l = true then glueL 44 l else []
def numberL (s : List UInt8) : Option Nat := match valueL 10 20 s with
  | none => none
  | some n => if n < 2 ^ 64 then some n else none
theorem riseL_at (l : List (List UInt8)) : riseL l = true ↔ 1 ≤ l.length ∧ l.length ≤ 32 ∧ ∀ i < l.length, okAt l i = true := by
  unfold riseL
  rw [Bool.and_eq_true, Bool.and_eq_true, decide_eq_true_iff, decide_eq_true_iff, List.all_eq_true]
  constructor
  · rintro ⟨⟨h1, h2⟩, h3⟩
    exact ⟨h1, h2, fun i hi => h3 i (List.mem_range.2 hi)⟩
  · rintro ⟨h1, h2, h3⟩
    exact ⟨⟨h1, h2⟩, fun i hi => h3 i (List.mem_range.1 hi)⟩
theorem riseL_bad (l : List (List UInt8)) (i : Nat) (hi : i < l.length) (h : okAt l i = false) : riseL l = false := by
  cases hr : riseL l with
  | false => rfl
  | true => have := ((riseL_at l).1 hr).2.2 i hi; rw [h] at this; cases this
theorem riseL_names (l : List (List UInt8)) (h : riseL l = true) : ∀ p ∈ l, name16 p = true := by
  intro p hp
  obtain ⟨i, hi, rfl⟩ := List.mem_iff_getElem.1 hp
  have := ((riseL_at l).1 h).2.2 i hi
  unfold okAt at this
  rw [Bool.and_eq_true] at this
  rw [← this.1, List.getD_eq_getElem?_getD, List.getElem?_eq_getElem hi]; rfl
theorem name16_44 (p : List UInt8) (h : name16 p = true) : p ≠ [] ∧ ∀ c ∈ p, c ≠ 44 := by
  unfold name16 at h
  rw [Bool.and_eq_true, Bool.and_eq_true, decide_eq_true_iff, List.all_eq_true] at h
  refine ⟨?_, ?_⟩
  · rintro rfl; have := h.1.1; simp at this
  · rintro c hc rfl
    have := h.2 44 hc
    revert this; decide
/-- Names come back from their text. -/
theorem names_join (l : List (List UInt8)) : namesC (joinL16 l) = if riseL l = true then some l else none := by
  unfold namesC joinL16
  by_cases h : riseL l = true
  · rw [if_pos h, if_pos h]
    have hne : l ≠ [] := by rintro rfl; simp [riseL] at h
    rw [splitL_glue 44 l hne (fun p hp => (name16_44 p (riseL_names l h p hp)).2), if_pos h]
  · rw [if_neg h, if_neg h]
    have : riseL (splitL 44 []) = false := by decide
    rw [this]; rfl
theorem join_ne (l : List (List UInt8)) (h : riseL l = true) : joinL16 l ≠ [] := by
  unfold joinL16
  rw [if_pos h]
  cases l with
  | nil => simp [riseL] at h
  | cons p ps =>
    have hp := (name16_44 p (riseL_names _ h p (List.mem_cons_self ..))).1
    by_cases he : ps = []
    · subst he; exact hp
    · rw [glueL_cons 44 p ps he]
      intro e
      exact hp (List.append_eq_nil_iff.1 e).1
theorem join_off (l : List (List UInt8)) (h : riseL l = false) : joinL16 l = [] := by
  unfold joinL16
  rw [h]; rfl
theorem names_none (s : List UInt8) (h : namesC s = none) : riseL (splitL 44 s) = false := by
  unfold namesC at h
  cases hr : riseL (splitL 44 s) with
  | false => rfl
  | true => rw [hr] at h; cases h
theorem words_some (s : List UInt8) (x : List (List UInt8)) (h : wordsL s = some x) : s = [] ∧ x = [] ∨ s ≠ [] ∧ s.length ≤ 512 ∧ s.all inkB = true ∧ (splitL 32 s).all (fun p => decide (p ≠ [])) = true ∧ x = splitL 32 s := by
  unfold wordsL at h
  split at h
  · rename_i e; cases h; exact .inl ⟨e, rfl⟩
  · rename_i e
    split at h
    · rename_i k; cases h; exact .inr ⟨e, k.1, k.2.1, k.2.2, rfl⟩
    · cases h
/-- Words with a blank between. -/
theorem words_app (a b : List UInt8) (ha : a.length ≤ 300) (hb : b.length ≤ 200) :
    wordsL (a ++ 32 :: b) = match wordsL a, wordsL b with
      | some x, some y => if 0 < x.length ∧ 0 < y.length then some (x ++ y) else none
      | _, _ => none := by
  have hne : a ++ 32 :: b ≠ [] := by simp
  have e1 : wordsL (a ++ 32 :: b) = if (a.all inkB = true ∧ (splitL 32 a).all (fun p => decide (p ≠ [])) = true) ∧ (b.all inkB = true ∧ (splitL 32 b).all (fun p => decide (p ≠ [])) = true) then some (splitL 32 a ++ splitL 32 b) else none := by
    unfold wordsL
    rw [if_neg hne, splitL_app, List.all_append, List.all_append, List.all_cons]
    have h32 : inkB 32 = true := by decide
    rw [h32, Bool.true_and]
    have hl : (a ++ 32 :: b).length ≤ 512 := by rw [List.length_append, List.length_cons]; omega
    congr 1
    simp only [Bool.and_eq_true, eq_iff_iff]
    constructor
    · rintro ⟨-, ⟨h1, h2⟩, h3, h4⟩; exact ⟨⟨h1, h3⟩, h2, h4⟩
    · rintro ⟨⟨h1, h3⟩, h2, h4⟩; exact ⟨hl, ⟨h1, h2⟩, h3, h4⟩
  have e2 : ∀ s : List UInt8, s.length ≤ 300 → (∃ x, wordsL s = some x ∧ 0 < x.length) ∧ (s.all inkB = true ∧ (splitL 32 s).all (fun p => decide (p ≠ [])) = true) ∧ wordsL s = some (splitL 32 s) ∨ (¬ (s.all inkB = true ∧ (splitL 32 s).all (fun p => decide (p ≠ [])) = true)) ∧ (wordsL s = none ∨ wordsL s = some []) := by
    intro s hs
    by_cases h0 : s = []
    · subst h0
      right
      exact ⟨by decide, .inr rfl⟩
    · by_cases hk : s.all inkB = true ∧ (splitL 32 s).all (fun p => decide (p ≠ [])) = true
      · left
        have e : wordsL s = some (splitL 32 s) := by
          unfold wordsL
          rw [if_neg h0, if_pos ⟨by omega, hk.1, hk.2⟩]
        exact ⟨⟨_, e, List.length_pos_iff.2 (splitL_ne 32 s)⟩, hk, e⟩
      · right
        refine ⟨hk, .inl ?_⟩
        unfold wordsL
        rw [if_neg h0, if_neg (fun h => hk ⟨h.2.1, h.2.2⟩)]
  rw [e1]
  rcases e2 a ha with ⟨⟨x, hx, hx0⟩, ka, ea⟩ | ⟨ka, ea⟩
  · rcases e2 b (by omega) with ⟨⟨y, hy, hy0⟩, kb, eb⟩ | ⟨kb, eb⟩
    · rw [if_pos ⟨ka, kb⟩, ea, eb]
      rw [ea] at hx; rw [eb] at hy
      cases hx; cases hy
      show _ = if _ then _ else _
      rw [if_pos ⟨hx0, hy0⟩]
    · rw [if_neg (fun h => kb h.2), ea]
      rcases eb with eb | eb <;> rw [eb]
      simp
  · rw [if_neg (fun h => ka h.1)]
    rcases ea with ea | ea <;> rw [ea]
    cases wordsL b <;> simp
theorem numL_len20 (n : Nat) (h : n < 2 ^ 64) : (numL 10 n).length ≤ 20 := by
  have key : ∀ k n : Nat, n < 10 ^ (k + 1) → (numL 10 n).length ≤ k + 1 := by
    intro k
    induction k with
    | zero => intro n h; rw [numL_small 10 n (by omega)]; simp
    | succ k ih =>
      intro n h
      by_cases hs : n < 10
      · rw [numL_small 10 n hs]; simp
      · rw [numL_great 10 n (by omega) (by omega), List.length_append]
        have := ih (n / 10) (by rw [Nat.pow_succ] at h; omega)
        simp; omega
  exact key 19 n (Nat.lt_trans h (by decide))
/-- A number is read as it is written. -/
theorem number_num (n : Nat) (h : n < 2 ^ 64) : numberL (numL 10 n) = some n := by
  unfold numberL
  rw [(valueL_iff 10 20 (by omega) (by omega) (numL 10 n) n).2 ⟨rfl, numL_len20 n h⟩]
  show (if n < 2 ^ 64 then some n else none) = _
  rw [if_pos h]
end Go.Proofs.YtbngnmhbnhpbeaaDoor
