/- A text's pieces between a sign, as lists (layers 12, 14). No Go function is spoken of here. -/
import Derived.Test.YtbngnmhbnhpbeaaDoorS
namespace Go.Proofs.YtbngnmhbnhpbeaaDoor
set_option maxRecDepth 100000
open Go Go.RowKit

def splitL (x : UInt8) : List UInt8 → List (List UInt8)
  | [] => [[]]
  | c :: s => if c = x then [] :: splitL x s else match splitL x s with
    | [] => [[c]]
    | p :: ps => (c :: p) :: ps
theorem splitL_ne (x : UInt8) (s : List UInt8) : splitL x s ≠ [] := by
  cases s with
  | nil => simp [splitL]
  | cons c s =>
    rw [splitL]
    split
    · simp
    · split <;> simp
/-- The piece up to the first sign. -/
theorem splitL_hit (x : UInt8) (p t : List UInt8) (h : ∀ c ∈ p, c ≠ x) : splitL x (p ++ x :: t) = p :: splitL x t := by
  induction p with
  | nil => simp [splitL]
  | cons c p ih =>
    rw [List.cons_append, splitL, if_neg (h c (List.mem_cons_self ..)), ih (fun q hq => h q (List.mem_cons_of_mem _ hq))]
theorem splitL_end (x : UInt8) (p : List UInt8) (h : ∀ c ∈ p, c ≠ x) : splitL x p = [p] := by
  induction p with
  | nil => rfl
  | cons c p ih => rw [splitL, if_neg (h c (List.mem_cons_self ..)), ih (fun q hq => h q (List.mem_cons_of_mem _ hq))]
theorem extract_bstr12 (l : List UInt8) (i j : Nat) : (bstr l).extract i j = bstr ((l.drop i).take (j - i)) := ByteArray.extract_mk l i j
theorem drop_piece (s : List UInt8) (f i : Nat) (hf : f ≤ i) (hi : i < s.length) : s.drop f = (s.drop f).take (i - f) ++ s.getD i 0 :: s.drop (i + 1) := by
  have e : s.drop f = (s.drop f).take (i - f) ++ (s.drop f).drop (i - f) := (List.take_append_drop ..).symm
  rw [List.drop_drop, show f + (i - f) = i by omega, List.drop_eq_getElem_cons hi] at e
  rw [List.getD_eq_getElem?_getD, List.getElem?_eq_getElem hi]
  exact e
theorem take_piece (s : List UInt8) (f i : Nat) (hf : f ≤ i) (hi : i < s.length) : (s.drop f).take (i + 1 - f) = (s.drop f).take (i - f) ++ [s.getD i 0] := by
  rw [show i + 1 - f = (i - f) + 1 by omega, List.take_add_one, List.getElem?_drop, show f + (i - f) = i by omega, List.getD_eq_getElem?_getD, List.getElem?_eq_getElem hi]; rfl
theorem splitL_len (x : UInt8) (s : List UInt8) : (splitL x s).length ≤ s.length + 1 := by
  induction s with
  | nil => exact Nat.le_refl _
  | cons c s ih =>
    rw [splitL]
    split
    · simp; exact ih
    · split
      · simp
      · rename_i h; rw [h] at ih; simp at ih ⊢; omega
/-- Pieces, with a sign between. -/
def glueL (x : UInt8) : List (List UInt8) → List UInt8
  | [] => []
  | [p] => p
  | p :: q :: ps => p ++ x :: glueL x (q :: ps)
theorem glueL_cons (x : UInt8) (p : List UInt8) (ps : List (List UInt8)) (h : ps ≠ []) : glueL x (p :: ps) = p ++ x :: glueL x ps := by
  cases ps with
  | nil => exact absurd rfl h
  | cons q ps => rfl
theorem splitL_glue (x : UInt8) (ps : List (List UInt8)) (h : ps ≠ []) (hx : ∀ p ∈ ps, ∀ c ∈ p, c ≠ x) : splitL x (glueL x ps) = ps := by
  induction ps with
  | nil => exact absurd rfl h
  | cons p ps ih =>
    by_cases he : ps = []
    · subst he
      exact splitL_end x p (hx p (List.mem_cons_self ..))
    · rw [glueL_cons x p ps he, splitL_hit x p _ (hx p (List.mem_cons_self ..)), ih he (fun q hq => hx q (List.mem_cons_of_mem _ hq))]
theorem glueL_split (x : UInt8) (s : List UInt8) : glueL x (splitL x s) = s := by
  induction s with
  | nil => rfl
  | cons c s ih =>
    rw [splitL]
    split
    · rename_i h
      rw [glueL_cons x [] _ (splitL_ne x s), ih, h]; rfl
    · cases hsp : splitL x s with
      | nil => exact absurd hsp (splitL_ne x s)
      | cons p ps =>
        rw [hsp] at ih
        show glueL x ((c :: p) :: ps) = _
        by_cases he : ps = []
        · subst he
          show c :: p = _
          rw [show p = s from ih]
        · rw [glueL_cons x _ ps he]
          rw [glueL_cons x _ ps he] at ih
          rw [List.cons_append, ih]
theorem mem_glue (x : UInt8) (ps : List (List UInt8)) (c : UInt8) (h : c ∈ glueL x ps) : c = x ∨ ∃ p ∈ ps, c ∈ p := by
  induction ps with
  | nil => cases h
  | cons p ps ih =>
    by_cases he : ps = []
    · subst he
      exact .inr ⟨p, List.mem_cons_self .., h⟩
    · rw [glueL_cons x p ps he] at h
      rcases List.mem_append.1 h with h | h
      · exact .inr ⟨p, List.mem_cons_self .., h⟩
      · rcases List.mem_cons.1 h with h | h
        · exact .inl h
        · rcases ih h with h | ⟨q, hq, hc⟩
          · exact .inl h
          · exact .inr ⟨q, List.mem_cons_of_mem _ hq, hc⟩
theorem splitL_piece (x : UInt8) (s : List UInt8) : ∀ p ∈ splitL x s, p.length ≤ s.length := by
  induction s with
  | nil => intro p hp; rw [splitL] at hp; rw [List.mem_singleton.1 hp]; exact Nat.le_refl _
  | cons c s ih =>
    intro p hp
    rw [splitL] at hp
    split at hp
    · rcases List.mem_cons.1 hp with rfl | hp
      · simp
      · have := ih p hp; rw [List.length_cons]; omega
    · split at hp
      · rw [List.mem_singleton.1 hp]; simp
      · rename_i q qs hq
        rcases List.mem_cons.1 hp with rfl | hp
        · have := ih q (by rw [hq]; exact List.mem_cons_self ..); rw [List.length_cons, List.length_cons]; omega
        · have := ih p (by rw [hq]; exact List.mem_cons_of_mem _ hp); rw [List.length_cons]; omega
theorem splitL_cons (x c : UInt8) (s : List UInt8) : splitL x (c :: s) = if c = x then [] :: splitL x s else match splitL x s with
    | [] => [[c]]
    | p :: ps => (c :: p) :: ps := rfl
theorem splitL_app (x : UInt8) (s t : List UInt8) : splitL x (s ++ x :: t) = splitL x s ++ splitL x t := by
  have h1 := glueL_split x s
  induction s with
  | nil => exact splitL_hit x [] t (fun c hc => by cases hc)
  | cons c s ih =>
    rw [List.cons_append, splitL_cons, splitL_cons x c s, ih (glueL_split x s)]
    by_cases hc : c = x
    · rw [if_pos hc, if_pos hc]; rfl
    · rw [if_neg hc, if_neg hc]
      cases hs : splitL x s with
      | nil => exact absurd hs (splitL_ne x s)
      | cons p ps => rfl
theorem glueL_app (x : UInt8) (a b : List (List UInt8)) (ha : a ≠ []) (hb : b ≠ []) : glueL x (a ++ b) = glueL x a ++ x :: glueL x b := by
  induction a with
  | nil => exact absurd rfl ha
  | cons p ps ih =>
    by_cases hp : ps = []
    · subst hp
      rw [List.cons_append, List.nil_append, glueL_cons x p b hb]; rfl
    · rw [List.cons_append, glueL_cons x p _ (by simp [hp]), ih hp, glueL_cons x p ps hp, List.append_assoc]; rfl
end Go.Proofs.YtbngnmhbnhpbeaaDoor
