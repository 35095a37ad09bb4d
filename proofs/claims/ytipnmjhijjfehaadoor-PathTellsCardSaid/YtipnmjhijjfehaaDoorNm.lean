/- LAYER 14: what package path does, as lists. No Go function is spoken of here. -/
import Derived.Test.YtipnmjhijjfehaaDoorNl
namespace Go.Proofs.YtipnmjhijjfehaaDoor
set_option maxRecDepth 100000
open Go Go.RowKit

/-- Names, each with a / ahead of it. -/
def flatP (l : List (List UInt8)) : List UInt8 := l.flatMap fun w => 47 :: w
theorem flatP_app (l k : List (List UInt8)) : flatP (l ++ k) = flatP l ++ flatP k := by unfold flatP; rw [List.flatMap_append]
theorem flatP_one (w : List UInt8) : flatP [w] = 47 :: w := by unfold flatP; simp
theorem flatP_nil : flatP [] = [] := rfl
theorem flatP_eq_nil (l : List (List UInt8)) : flatP l = [] ↔ l = [] := by
  cases l with
  | nil => exact ⟨fun _ => rfl, fun _ => rfl⟩
  | cons w l => constructor <;> intro h <;> cases h
theorem flatP_last (l : List (List UInt8)) (h : l ≠ []) : flatP l = flatP l.dropLast ++ 47 :: l.getLast h := by
  conv => lhs; rw [← List.dropLast_concat_getLast h]
  rw [flatP_app, flatP_one]
theorem joinP_flat (l : List (List UInt8)) : joinP l = if l = [] then [47] else flatP l := rfl
/-- One step of Normal: the names that are left by a piece. -/
def alongL (l : List (List UInt8)) (w : List UInt8) : Option (List (List UInt8)) :=
  if w = [] ∨ w = [46] then some l
  else if w = [46, 46] then (if l = [] then none else some l.dropLast)
  else if nameL w then some (l ++ [w]) else none
theorem goN_along (l : List (List UInt8)) (w : List UInt8) (ws : List (List UInt8)) : goN l (w :: ws) = match alongL l w with
    | none => none
    | some k => goN k ws := by
  rw [goN]
  unfold alongL
  split
  · rfl
  · split
    · split <;> rfl
    · split <;> rfl
theorem along_names (l k : List (List UInt8)) (w : List UInt8) (hl : ∀ v ∈ l, nameL v = true) (h : alongL l w = some k) : ∀ v ∈ k, nameL v = true := by
  refine goN_names [w] l k hl ?_
  rw [goN_along, h]; rfl
theorem nameL_len (w : List UInt8) (h : nameL w = true) : w.length ≤ 64 := by
  unfold nameL at h
  simp only [Bool.and_eq_true, decide_eq_true_iff] at h
  exact h.1.1.1.2
theorem along_len (l k : List (List UInt8)) (w : List UInt8) (h : alongL l w = some k) : (flatP k).length ≤ (flatP l).length + (w.length + 1) := by
  unfold alongL at h
  split at h
  · cases h; omega
  · split at h
    · split at h
      · cases h
      · rename_i hne
        cases h
        rw [flatP_last l hne, List.length_append]; omega
    · split at h
      · cases h
        rw [flatP_app, flatP_one, List.length_append, List.length_cons]; omega
      · cases h
theorem right_norm (p : List UInt8) : rightL p = decide (normL p = some p) := by
  by_cases h : rightL p = true
  · rw [h]
    symm
    rw [decide_eq_true_iff]
    obtain ⟨r, rfl⟩ := right_head p h
    by_cases hr : r = []
    · subst hr; rfl
    · have h' : (decide (r = []) || (decide (r.length + 1 ≤ 256) && (splitL 47 r).all nameL)) = true := h
      rw [decide_eq_false hr, Bool.false_or, Bool.and_eq_true, decide_eq_true_iff, List.all_eq_true] at h'
      obtain ⟨h1, h2⟩ := h'
      have he := splitL_ne 47 r
      have e1 := (joinP_split (splitL 47 r) he h2).1
      rw [glueL_split] at e1
      show (match goN [] (splitL 47 r) with
        | none => none
        | some l => if (joinP l).length ≤ 256 then some (joinP l) else none) = _
      rw [goN_self (splitL 47 r) [] h2, List.nil_append]
      show (if (joinP (splitL 47 r)).length ≤ 256 then some (joinP (splitL 47 r)) else none) = _
      rw [e1, if_pos (by rw [List.length_cons]; exact h1)]
  · have hf : rightL p = false := by simpa using h
    rw [hf]
    symm
    rw [decide_eq_false_iff_not]
    intro e
    exact h (normL_right p p e).1
theorem namesL_right (p r : List UInt8) (h : rightL p = true) (e : p = 47 :: r) (hr : r ≠ []) : namesL p = splitL 47 r := by
  subst e
  show (if rightL (47 :: r) = true ∧ r ≠ [] then splitL 47 r else []) = _
  rw [if_pos ⟨h, hr⟩]
theorem namesL_off (p : List UInt8) (h : rightL p = false ∨ p = [47]) : namesL p = [] := by
  rcases h with h | h
  · unfold namesL
    split
    · rw [if_neg]
      rintro ⟨h1, -⟩
      rw [h] at h1; cases h1
    · rfl
  · subst h; rfl
theorem splitL_cons (x c : UInt8) (s : List UInt8) : splitL x (c :: s) = if c = x then [] :: splitL x s else match splitL x s with
    | [] => [[c]]
    | p :: ps => (c :: p) :: ps := rfl
theorem splitL_app (x : UInt8) (s t : List UInt8) : splitL x (s ++ x :: t) = splitL x s ++ splitL x t := by
  have h1 := glueL_split x s
  induction s with
  | nil => exact splitL_hit x [] t (fun c hc => by cases hc)
  | cons c s ih =>
    rw [List.cons_append, splitL_cons, splitL_cons x c s, ih (glueL_split x s)]
    by_cases hc : c = x
    · rw [if_pos hc, if_pos hc]; rfl
    · rw [if_neg hc, if_neg hc]
      cases hs : splitL x s with
      | nil => exact absurd hs (splitL_ne x s)
      | cons p ps => rfl
theorem glueL_app (x : UInt8) (a b : List (List UInt8)) (ha : a ≠ []) (hb : b ≠ []) : glueL x (a ++ b) = glueL x a ++ x :: glueL x b := by
  induction a with
  | nil => exact absurd rfl ha
  | cons p ps ih =>
    by_cases hp : ps = []
    · subst hp
      rw [List.cons_append, List.nil_append, glueL_cons x p b hb]; rfl
    · rw [List.cons_append, glueL_cons x p _ (by simp [hp]), ih hp, glueL_cons x p ps hp, List.append_assoc]; rfl
/-- What package path's Under says: both are right, and the one's names are the other one's first ones. -/
def underN (top p : List UInt8) : Bool := rightL top && rightL p && (decide ((namesL top).length ≤ (namesL p).length) && decide (namesL top = (namesL p).take (namesL top).length))
theorem underN_eq (top p : List UInt8) : underN top p = underL top p := by
  unfold underN underL
  by_cases h1 : rightL top = true
  · by_cases h2 : rightL p = true
    · rw [h1, h2, Bool.true_and, Bool.true_and]
      obtain ⟨r, rfl⟩ := right_head top h1
      obtain ⟨q, rfl⟩ := right_head p h2
      by_cases hr : r = []
      · subst hr
        rw [namesL_off [47] (.inr rfl)]
        simp
      · have n1 := namesL_right _ r h1 rfl hr
        have hL := splitL_ne 47 r
        have hrl : 0 < r.length := List.length_pos_iff.2 hr
        have hne : (47 : UInt8) :: r ≠ [47] := fun e => hr (List.cons.inj e).2
        by_cases hq : q = []
        · subst hq
          rw [n1, namesL_off [47] (.inr rfl), decide_eq_false hne, decide_eq_false (show ¬ [47] = (47 : UInt8) :: r from fun e => hne e.symm), decide_eq_false (show ¬ ((47 : UInt8) :: r).length < [(47 : UInt8)].length by simp)]
          rw [decide_eq_false (show ¬ (splitL 47 r).length ≤ ([] : List (List UInt8)).length by
            intro h; exact hL (List.length_eq_zero_iff.1 (Nat.le_zero.1 h)))]
          rfl
        · have n2 := namesL_right _ q h2 rfl hq
          rw [n1, n2, decide_eq_false hne, Bool.false_or]
          rw [Bool.eq_iff_iff]
          simp only [Bool.and_eq_true, Bool.or_eq_true, decide_eq_true_iff]
          constructor
          · rintro ⟨-, h4⟩
            have e : splitL 47 q = splitL 47 r ++ (splitL 47 q).drop (splitL 47 r).length := by
              conv => lhs; rw [← List.take_append_drop (splitL 47 r).length (splitL 47 q), ← h4]
            by_cases hd : (splitL 47 q).drop (splitL 47 r).length = []
            · refine ⟨trivial, .inl ?_⟩
              rw [hd, List.append_nil] at e
              rw [← glueL_split 47 q, e, glueL_split]
            · refine ⟨trivial, .inr ?_⟩
              have e2 : q = r ++ 47 :: glueL 47 ((splitL 47 q).drop (splitL 47 r).length) := by
                conv => lhs; rw [← glueL_split 47 q, e, glueL_app 47 _ _ hL hd, glueL_split]
              generalize glueL 47 ((splitL 47 q).drop (splitL 47 r).length) = z at e2
              subst e2
              refine ⟨⟨by simp, ?_⟩, ?_⟩
              · rw [List.length_cons, List.take_succ_cons, List.take_left']; rfl
              · rw [List.getD_eq_getElem?_getD, List.length_cons, List.getElem?_cons_succ, List.getElem?_append_right (Nat.le_refl _), Nat.sub_self]; rfl
          · rintro ⟨-, h | ⟨⟨h3, h4⟩, h5⟩⟩
            · have e := (List.cons.inj h).2
              subst e
              exact ⟨Nat.le_refl _, by rw [List.take_length]⟩
            · have e : q = r ++ 47 :: q.drop (r.length + 1) := by
                rw [List.length_cons, List.take_succ_cons] at h4
                have h4' : q.take r.length = r := (List.cons.inj h4).2
                rw [List.length_cons, List.length_cons] at h3
                have hlt : r.length < q.length := by omega
                rw [List.length_cons, List.getD_eq_getElem?_getD, List.getElem?_cons_succ, List.getElem?_eq_getElem hlt] at h5
                have h5' : q[r.length] = 47 := h5
                conv => lhs; rw [← List.take_append_drop r.length q, h4', List.drop_eq_getElem_cons hlt, h5']
              have e3 : splitL 47 q = splitL 47 r ++ splitL 47 (q.drop (r.length + 1)) := by
                conv => lhs; rw [e]
                exact splitL_app 47 r _
              rw [e3]
              refine ⟨by rw [List.length_append]; omega, ?_⟩
              rw [List.take_left']; rfl
    · have hf : rightL p = false := by simpa using h2
      rw [hf, Bool.and_false, Bool.false_and, Bool.false_and]
  · have hf : rightL top = false := by simpa using h1
    rw [hf]; rfl
theorem names_sum (p : List UInt8) : (namesL p).length ≤ p.length + 1 := by
  unfold namesL
  split
  · split
    · have := splitL_len 47 ‹_›; rw [List.length_cons]; omega
    · simp
  · simp
end Go.Proofs.YtipnmjhijjfehaaDoor
