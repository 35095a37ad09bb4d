/- LAYER 14: paths, as lists. No Go function is spoken of here. -/
import Derived.Test.YtipnmjhijjfehaaDoorSp
namespace Go.Proofs.YtipnmjhijjfehaaDoor
set_option maxRecDepth 100000
open Go Go.RowKit

/-- Can a byte be in a name? -/
def signB (c : UInt8) : Bool := decide (97 ≤ c ∧ c ≤ 122) || decide (65 ≤ c ∧ c ≤ 90) || decide (48 ≤ c ∧ c ≤ 57) || c == 46 || c == 95 || c == 45
def nameL (s : List UInt8) : Bool := decide (1 ≤ s.length) && decide (s.length ≤ 64) && decide (s ≠ [46]) && decide (s ≠ [46, 46]) && s.all signB
def rightL : List UInt8 → Bool
  | 47 :: r => decide (r = []) || (decide (r.length + 1 ≤ 256) && (splitL 47 r).all nameL)
  | _ => false
def namesL : List UInt8 → List (List UInt8)
  | 47 :: r => if rightL (47 :: r) = true ∧ r ≠ [] then splitL 47 r else []
  | _ => []
def underL (top p : List UInt8) : Bool := rightL top && rightL p && (decide (top = [47]) || decide (p = top) || (decide (top.length < p.length) && decide (p.take top.length = top) && decide (p.getD top.length 0 = 47)))
/-- What is left of a row of names by some pieces. -/
def goN : List (List UInt8) → List (List UInt8) → Option (List (List UInt8))
  | l, [] => some l
  | l, w :: ws =>
    if w = [] ∨ w = [46] then goN l ws
    else if w = [46, 46] then (if l = [] then none else goN l.dropLast ws)
    else if nameL w then goN (l ++ [w]) ws else none
def joinP (l : List (List UInt8)) : List UInt8 := if l = [] then [47] else l.flatMap fun w => 47 :: w
def normL : List UInt8 → Option (List UInt8)
  | 47 :: r => match goN [] (splitL 47 r) with
    | none => none
    | some l => if (joinP l).length ≤ 256 then some (joinP l) else none
  | _ => none
theorem signB_47 : signB 47 = false := by decide
theorem name_47 (s : List UInt8) (h : nameL s = true) : ∀ c ∈ s, c ≠ 47 := by
  unfold nameL at h
  rw [Bool.and_eq_true, List.all_eq_true] at h
  intro c hc e
  have := h.2 c hc
  rw [e, signB_47] at this; cases this
theorem name_ne (s : List UInt8) (h : nameL s = true) : s ≠ [] ∧ s ≠ [46] ∧ s ≠ [46, 46] := by
  unfold nameL at h
  simp only [Bool.and_eq_true, decide_eq_true_iff] at h
  obtain ⟨⟨⟨⟨h1, h2⟩, h3⟩, h4⟩, h5⟩ := h
  refine ⟨?_, h3, h4⟩
  rintro rfl
  simp at h1
theorem rightL_ne (p : List UInt8) (h : rightL p = true) : p ≠ [] := by
  rintro rfl; cases h
theorem underL_self (p : List UInt8) : underL p p = rightL p := by
  unfold underL
  cases h : rightL p with
  | false => rfl
  | true => simp
theorem underL_root (p : List UInt8) : underL [47] p = rightL p := by
  unfold underL
  rw [show rightL [47] = true from rfl]
  simp
theorem underL_iff (top p : List UInt8) : underL top p = true ↔ rightL top = true ∧ rightL p = true ∧ (top = [47] ∨ p = top ∨ (top.length < p.length ∧ p.take top.length = top ∧ p.getD top.length 0 = 47)) := by
  unfold underL
  simp only [Bool.and_eq_true, Bool.or_eq_true, decide_eq_true_iff]
  constructor
  · rintro ⟨⟨h1, h2⟩, h3⟩
    refine ⟨h1, h2, ?_⟩
    rcases h3 with (h3 | h3) | h3
    · exact .inl h3
    · exact .inr (.inl h3)
    · exact .inr (.inr ⟨h3.1.1, h3.1.2, h3.2⟩)
  · rintro ⟨h1, h2, h3⟩
    refine ⟨⟨h1, h2⟩, ?_⟩
    rcases h3 with h3 | h3 | ⟨h3, h4, h5⟩
    · exact .inl (.inl h3)
    · exact .inl (.inr h3)
    · exact .inr ⟨⟨h3, h4⟩, h5⟩
theorem right_pos (p : List UInt8) (h : rightL p = true) : 0 < p.length := List.length_pos_iff.2 (rightL_ne p h)
theorem right_head (p : List UInt8) (h : rightL p = true) : ∃ r, p = 47 :: r := by
  match p, h with
  | [], h => cases h
  | c :: r, h =>
    by_cases hc : c = 47
    · exact ⟨r, by rw [hc]⟩
    · unfold rightL at h
      split at h
      · rename_i e; injection e with e1 e2; exact absurd e1 hc
      · cases h
theorem right_len1 (p : List UInt8) (h : rightL p = true) (h1 : p.length ≤ 1) : p = [47] := by
  obtain ⟨r, rfl⟩ := right_head p h
  cases r with
  | nil => rfl
  | cons c r => simp at h1
/-- Of two that lie under each other both are one. -/
theorem underL_anti (p q : List UInt8) (h1 : underL p q = true) (h2 : underL q p = true) : p = q := by
  obtain ⟨a1, a2, a3⟩ := (underL_iff p q).1 h1
  obtain ⟨b1, b2, b3⟩ := (underL_iff q p).1 h2
  have hp := right_pos p a1
  have hq := right_pos q a2
  rcases a3 with a3 | a3 | ⟨a3, -, -⟩
  · subst a3
    rcases b3 with b3 | b3 | ⟨b3, -, -⟩
    · exact b3.symm
    · exact b3
    · rw [show ([47] : List UInt8).length = 1 from rfl] at b3; omega
  · exact a3.symm
  · rcases b3 with b3 | b3 | ⟨b3, -, -⟩
    · subst b3; rw [show ([47] : List UInt8).length = 1 from rfl] at a3; omega
    · exact b3
    · omega
/-- What lies under one that lies under another one lies under that one. -/
theorem underL_trans (p q s : List UInt8) (h1 : underL p q = true) (h2 : underL q s = true) : underL p s = true := by
  obtain ⟨a1, a2, a3⟩ := (underL_iff p q).1 h1
  obtain ⟨b1, b2, b3⟩ := (underL_iff q s).1 h2
  refine (underL_iff p s).2 ⟨a1, b2, ?_⟩
  have hp := right_pos p a1
  rcases a3 with a3 | a3 | ⟨a3, a4, a5⟩
  · exact .inl a3
  · subst a3; exact b3
  · rcases b3 with b3 | b3 | ⟨b3, b4, b5⟩
    · subst b3; rw [show ([47] : List UInt8).length = 1 from rfl] at a3; omega
    · subst b3; exact .inr (.inr ⟨a3, a4, a5⟩)
    · refine .inr (.inr ⟨by omega, ?_, ?_⟩)
      · have : (s.take q.length).take p.length = p := by rw [b4, a4]
        rwa [List.take_take, Nat.min_eq_left (by omega)] at this
      · have : (s.take q.length).getD p.length 0 = 47 := by rw [b4, a5]
        rwa [List.getD_eq_getElem?_getD, List.getElem?_take_of_lt a3, ← List.getD_eq_getElem?_getD] at this
/-! What Normal answers is right, and Normal of it is itself. -/
theorem goN_names : ∀ (ws l x : List (List UInt8)), (∀ w ∈ l, nameL w = true) → goN l ws = some x → ∀ w ∈ x, nameL w = true := by
  intro ws
  induction ws with
  | nil => intro l x hl h; cases h; exact hl
  | cons w ws ih =>
    intro l x hl h
    rw [goN] at h
    split at h
    · exact ih l x hl h
    · split at h
      · split at h
        · cases h
        · exact ih l.dropLast x (fun v hv => hl v (List.dropLast_subset l hv)) h
      · split at h
        · rename_i hw
          refine ih (l ++ [w]) x (fun v hv => ?_) h
          rcases List.mem_append.1 hv with hv | hv
          · exact hl v hv
          · rw [List.mem_singleton.1 hv]; exact hw
        · cases h
theorem goN_self : ∀ (ws l : List (List UInt8)), (∀ w ∈ ws, nameL w = true) → goN l ws = some (l ++ ws) := by
  intro ws
  induction ws with
  | nil => intro l _; rw [goN, List.append_nil]
  | cons w ws ih =>
    intro l hw
    have h1 := hw w (List.mem_cons_self ..)
    obtain ⟨n1, n2, n3⟩ := name_ne w h1
    rw [goN, if_neg (by rintro (h | h); exact n1 h; exact n2 h), if_neg n3, if_pos h1, ih (l ++ [w]) (fun v hv => hw v (List.mem_cons_of_mem _ hv)), List.append_assoc]
    rfl
theorem flat_glue (l : List (List UInt8)) (h : l ≠ []) : (l.flatMap fun w => 47 :: w) = 47 :: glueL 47 l := by
  induction l with
  | nil => exact absurd rfl h
  | cons w ws ih =>
    rw [List.flatMap_cons]
    by_cases he : ws = []
    · subst he; simp [glueL]
    · rw [ih he, glueL_cons 47 w ws he]; rfl
theorem joinP_split (l : List (List UInt8)) (h : l ≠ []) (hn : ∀ w ∈ l, nameL w = true) : joinP l = 47 :: glueL 47 l ∧ splitL 47 (glueL 47 l) = l := by
  refine ⟨by unfold joinP; rw [if_neg h]; exact flat_glue l h, ?_⟩
  exact splitL_glue 47 l h fun p hp c hc => name_47 p (hn p hp) c hc
theorem glue_ne (l : List (List UInt8)) (h : l ≠ []) (hn : ∀ w ∈ l, nameL w = true) : glueL 47 l ≠ [] := by
  cases l with
  | nil => exact absurd rfl h
  | cons w ws =>
    have := (name_ne w (hn w (List.mem_cons_self ..))).1
    by_cases he : ws = []
    · subst he; exact this
    · rw [glueL_cons 47 w ws he]; simp
theorem normL_right (p x : List UInt8) (h : normL p = some x) : rightL x = true ∧ normL x = some x := by
  unfold normL at h
  split at h
  · rename_i r
    split at h
    · cases h
    · rename_i l hl
      split at h
      · rename_i hlen
        cases h
        have hn := goN_names _ [] l (fun w hw => by cases hw) hl
        by_cases he : l = []
        · subst he
          exact ⟨rfl, rfl⟩
        · obtain ⟨e1, e2⟩ := joinP_split l he hn
          rw [e1] at hlen ⊢
          rw [List.length_cons] at hlen
          constructor
          · show (decide (glueL 47 l = []) || (decide ((glueL 47 l).length + 1 ≤ 256) && (splitL 47 (glueL 47 l)).all nameL)) = true
            rw [e2, decide_eq_true hlen, Bool.true_and, Bool.or_eq_true]
            exact .inr (List.all_eq_true.2 hn)
          · show (match goN [] (splitL 47 (glueL 47 l)) with
              | none => none
              | some l => if (joinP l).length ≤ 256 then some (joinP l) else none) = _
            rw [e2, goN_self l [] hn, List.nil_append]
            show (if (joinP l).length ≤ 256 then some (joinP l) else none) = _
            rw [if_pos (by rw [e1, List.length_cons]; exact hlen), e1]
      · cases h
  · cases h
end Go.Proofs.YtipnmjhijjfehaaDoor
