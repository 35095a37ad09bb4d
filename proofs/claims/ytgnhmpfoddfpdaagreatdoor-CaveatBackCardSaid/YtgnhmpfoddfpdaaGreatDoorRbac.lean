/- Texts of this claim, one behind the other. -/
import Derived.Test.YtgnhmpfoddfpdaaGreatDoorRbaa
import Derived.Test.YtgnhmpfoddfpdaaGreatDoorRbab
import Derived.SliceStrings
import Derived.Laws.Cover1
import Derived.Laws.Cover2
/- LAYER 14: paths, as lists. No Go function is spoken of here. -/
namespace Go.Proofs.YtgnhmpfoddfpdaaGreatDoor
set_option maxRecDepth 100000
open Go Go.RowKit

/-- Can a byte be in a name? -/
def signB (c : UInt8) : Bool := decide (97 ≤ c ∧ c ≤ 122) || decide (65 ≤ c ∧ c ≤ 90) || decide (48 ≤ c ∧ c ≤ 57) || c == 46 || c == 95 || c == 45
def nameL (s : List UInt8) : Bool := decide (1 ≤ s.length) && decide (s.length ≤ 64) && decide (s ≠ [46]) && decide (s ≠ [46, 46]) && s.all signB
def rightL : List UInt8 → Bool
  | 47 :: r => decide (r = []) || (decide (r.length + 1 ≤ 256) && (splitL 47 r).all nameL)
  | _ => false
/-- What is left of a row of names by some pieces. -/
def goN : List (List UInt8) → List (List UInt8) → Option (List (List UInt8))
  | l, [] => some l
  | l, w :: ws =>
    if w = [] ∨ w = [46] then goN l ws
    else if w = [46, 46] then (if l = [] then none else goN l.dropLast ws)
    else if nameL w then goN (l ++ [w]) ws else none
def joinP (l : List (List UInt8)) : List UInt8 := if l = [] then [47] else l.flatMap fun w => 47 :: w
def normL : List UInt8 → Option (List UInt8)
  | 47 :: r => match goN [] (splitL 47 r) with
    | none => none
    | some l => if (joinP l).length ≤ 256 then some (joinP l) else none
  | _ => none
theorem signB_47 : signB 47 = false := by decide
theorem name_47 (s : List UInt8) (h : nameL s = true) : ∀ c ∈ s, c ≠ 47 := by
  unfold nameL at h
  rw [Bool.and_eq_true, List.all_eq_true] at h
  intro c hc e
  have := h.2 c hc
  rw [e, signB_47] at this; cases this
theorem name_ne (s : List UInt8) (h : nameL s = true) : s ≠ [] ∧ s ≠ [46] ∧ s ≠ [46, 46] := by
  unfold nameL at h
  simp only [Bool.and_eq_true, decide_eq_true_iff] at h
  obtain ⟨⟨⟨⟨h1, h2⟩, h3⟩, h4⟩, h5⟩ := h
  refine ⟨?_, h3, h4⟩
  rintro rfl
  simp at h1
theorem right_head (p : List UInt8) (h : rightL p = true) : ∃ r, p = 47 :: r := by
  match p, h with
  | [], h => cases h
  | c :: r, h =>
    by_cases hc : c = 47
    · exact ⟨r, by rw [hc]⟩
    · unfold rightL at h
      split at h
      · rename_i e; injection e with e1 e2; exact absurd e1 hc
      · cases h
/-! What Normal answers is right, and Normal of it is itself. -/
theorem goN_names : ∀ (ws l x : List (List UInt8)), (∀ w ∈ l, nameL w = true) → goN l ws = some x → ∀ w ∈ x, nameL w = true := by
  intro ws
  induction ws with
  | nil => intro l x hl h; cases h; exact hl
  | cons w ws ih =>
    intro l x hl h
    rw [goN] at h
    split at h
    · exact ih l x hl h
    · split at h
      · split at h
        · cases h
        · exact ih l.dropLast x (fun v hv => hl v (List.dropLast_subset l hv)) h
      · split at h
        · rename_i hw
          refine ih (l ++ [w]) x (fun v hv => ?_) h
          rcases List.mem_append.1 hv with hv | hv
          · exact hl v hv
          · rw [List.mem_singleton.1 hv]; exact hw
        · cases h
theorem goN_self : ∀ (ws l : List (List UInt8)), (∀ w ∈ ws, nameL w = true) → goN l ws = some (l ++ ws) := by
  intro ws
  induction ws with
  | nil => intro l _; rw [goN, List.append_nil]
  | cons w ws ih =>
    intro l hw
    have h1 := hw w (List.mem_cons_self ..)
    obtain ⟨n1, n2, n3⟩ := name_ne w h1
    rw [goN, if_neg (by rintro (h | h); exact n1 h; exact n2 h), if_neg n3, if_pos h1, ih (l ++ [w]) (fun v hv => hw v (List.mem_cons_of_mem _ hv)), List.append_assoc]
    rfl
theorem flat_glue (l : List (List UInt8)) (h : l ≠ []) : (l.flatMap fun w => 47 :: w) = 47 :: glueL 47 l := by
  induction l with
  | nil => exact absurd rfl h
  | cons w ws ih =>
    rw [List.flatMap_cons]
    by_cases he : ws = []
    · subst he; simp [glueL]
    · rw [ih he, glueL_cons 47 w ws he]; rfl
theorem joinP_split (l : List (List UInt8)) (h : l ≠ []) (hn : ∀ w ∈ l, nameL w = true) : joinP l = 47 :: glueL 47 l ∧ splitL 47 (glueL 47 l) = l := by
  refine ⟨by unfold joinP; rw [if_neg h]; exact flat_glue l h, ?_⟩
  exact splitL_glue 47 l h fun p hp c hc => name_47 p (hn p hp) c hc
theorem normL_right (p x : List UInt8) (h : normL p = some x) : rightL x = true ∧ normL x = some x := by
  unfold normL at h
  split at h
  · rename_i r
    split at h
    · cases h
    · rename_i l hl
      split at h
      · rename_i hlen
        cases h
        have hn := goN_names _ [] l (fun w hw => by cases hw) hl
        by_cases he : l = []
        · subst he
          exact ⟨rfl, rfl⟩
        · obtain ⟨e1, e2⟩ := joinP_split l he hn
          rw [e1] at hlen ⊢
          rw [List.length_cons] at hlen
          constructor
          · show (decide (glueL 47 l = []) || (decide ((glueL 47 l).length + 1 ≤ 256) && (splitL 47 (glueL 47 l)).all nameL)) = true
            rw [e2, decide_eq_true hlen, Bool.true_and, Bool.or_eq_true]
            exact .inr (List.all_eq_true.2 hn)
          · show (match goN [] (splitL 47 (glueL 47 l)) with
              | none => none
              | some l => if (joinP l).length ≤ 256 then some (joinP l) else none) = _
            rw [e2, goN_self l [] hn, List.nil_append]
            show (if (joinP l).length ≤ 256 then some (joinP l) else none) = _
            rw [if_pos (by rw [e1, List.length_cons]; exact hlen), e1]
      · cases h
  · cases h
end Go.Proofs.YtgnhmpfoddfpdaaGreatDoor

/- LAYER 16: words, numbers, names, as lists. No Go function is spoken of here. -/
namespace Go.Proofs.YtgnhmpfoddfpdaaGreatDoor
set_option maxRecDepth 100000
open Go Go.RowKit

/-- Can a byte be in a text of words? -/
def inkB (c : UInt8) : Bool := decide (32 ≤ c.toNat) && decide (c.toNat ≤ 126)
def wordsL (s : List UInt8) : Option (List (List UInt8)) :=
  if s = [] then some [] else if s.length ≤ 512 ∧ s.all inkB = true ∧ (splitL 32 s).all (fun p => decide (p ≠ [])) = true then some (splitL 32 s) else none
def lowB (c : UInt8) : Bool := decide (97 ≤ c.toNat) && decide (c.toNat ≤ 122)
def name16 (s : List UInt8) : Bool := decide (1 ≤ s.length) && decide (s.length ≤ 16) && s.all lowB
/-- Is the name at a place one, and above the one ahead? -/
def okAt (l : List (List UInt8)) (i : Nat) : Bool := name16 (l.getD i []) && (decide (i = 0) || Op.bytesLess (l.getD (i - 1) []) (l.getD i []))
def riseL (l : List (List UInt8)) : Bool := decide (1 ≤ l.length) && decide (l.length ≤ 32) && (List.range l.length).all (okAt l)
def namesC (s : List UInt8) : Option (List (List UInt8)) := if riseL (splitL 44 s) = true then some (splitL 44 s) else none
def joinL16 (l : List (List UInt8)) : List UInt8 := if riseL l = true then glueL 44 l else []
def numberL (s : List UInt8) : Option Nat := match valueL 10 20 s with
  | none => none
  | some n => if n < 2 ^ 64 then some n else none
theorem riseL_at (l : List (List UInt8)) : riseL l = true ↔ 1 ≤ l.length ∧ l.length ≤ 32 ∧ ∀ i < l.length, okAt l i = true := by
  unfold riseL
  rw [Bool.and_eq_true, Bool.and_eq_true, decide_eq_true_iff, decide_eq_true_iff, List.all_eq_true]
  constructor
  · rintro ⟨⟨h1, h2⟩, h3⟩
    exact ⟨h1, h2, fun i hi => h3 i (List.mem_range.2 hi)⟩
  · rintro ⟨h1, h2, h3⟩
    exact ⟨⟨h1, h2⟩, fun i hi => h3 i (List.mem_range.1 hi)⟩
theorem riseL_bad (l : List (List UInt8)) (i : Nat) (hi : i < l.length) (h : okAt l i = false) : riseL l = false := by
  cases hr : riseL l with
  | false => rfl
  | true => have := ((riseL_at l).1 hr).2.2 i hi; rw [h] at this; cases this
theorem riseL_names (l : List (List UInt8)) (h : riseL l = true) : ∀ p ∈ l, name16 p = true := by
  intro p hp
  obtain ⟨i, hi, rfl⟩ := List.mem_iff_getElem.1 hp
  have := ((riseL_at l).1 h).2.2 i hi
  unfold okAt at this
  rw [Bool.and_eq_true] at this
  rw [← this.1, List.getD_eq_getElem?_getD, List.getElem?_eq_getElem hi]; rfl
theorem name16_44 (p : List UInt8) (h : name16 p = true) : p ≠ [] ∧ ∀ c ∈ p, c ≠ 44 := by
  unfold name16 at h
  rw [Bool.and_eq_true, Bool.and_eq_true, decide_eq_true_iff, List.all_eq_true] at h
  refine ⟨?_, ?_⟩
  · rintro rfl; have := h.1.1; simp at this
  · rintro c hc rfl
    have := h.2 44 hc
    revert this; decide
/-- Names come back from their text. -/
theorem names_join (l : List (List UInt8)) : namesC (joinL16 l) = if riseL l = true then some l else none := by
  unfold namesC joinL16
  by_cases h : riseL l = true
  · rw [if_pos h, if_pos h]
    have hne : l ≠ [] := by rintro rfl; simp [riseL] at h
    rw [splitL_glue 44 l hne (fun p hp => (name16_44 p (riseL_names l h p hp)).2), if_pos h]
  · rw [if_neg h, if_neg h]
    have : riseL (splitL 44 []) = false := by decide
    rw [this]; rfl
theorem join_off (l : List (List UInt8)) (h : riseL l = false) : joinL16 l = [] := by
  unfold joinL16
  rw [h]; rfl
theorem words_some (s : List UInt8) (x : List (List UInt8)) (h : wordsL s = some x) : s = [] ∧ x = [] ∨ s ≠ [] ∧ s.length ≤ 512 ∧ s.all inkB = true ∧ (splitL 32 s).all (fun p => decide (p ≠ [])) = true ∧ x = splitL 32 s := by
  unfold wordsL at h
  split at h
  · rename_i e; cases h; exact .inl ⟨e, rfl⟩
  · rename_i e
    split at h
    · rename_i k; cases h; exact .inr ⟨e, k.1, k.2.1, k.2.2, rfl⟩
    · cases h
theorem numL_len20 (n : Nat) (h : n < 2 ^ 64) : (numL 10 n).length ≤ 20 := by
  have key : ∀ k n : Nat, n < 10 ^ (k + 1) → (numL 10 n).length ≤ k + 1 := by
    intro k
    induction k with
    | zero => intro n h; rw [numL_small 10 n (by omega)]; simp
    | succ k ih =>
      intro n h
      by_cases hs : n < 10
      · rw [numL_small 10 n hs]; simp
      · rw [numL_great 10 n (by omega) (by omega), List.length_append]
        have := ih (n / 10) (by rw [Nat.pow_succ] at h; omega)
        simp; omega
  exact key 19 n (Nat.lt_trans h (by decide))
/-- A number is read as it is written. -/
theorem number_num (n : Nat) (h : n < 2 ^ 64) : numberL (numL 10 n) = some n := by
  unfold numberL
  rw [(valueL_iff 10 20 (by omega) (by omega) (numL 10 n) n).2 ⟨rfl, numL_len20 n h⟩]
  show (if n < 2 ^ 64 then some n else none) = _
  rw [if_pos h]
end Go.Proofs.YtgnhmpfoddfpdaaGreatDoor

/- LAYER 17: predicates, as lists. No Go function is spoken of here. -/
namespace Go.Proofs.YtgnhmpfoddfpdaaGreatDoor
set_option maxRecDepth 100000
open Go Go.RowKit

/-- A predicate. -/
structure Prd where
  kind : Int
  time : Nat
  names : List (List UInt8)
  path : List UInt8
  net : Rng
  cost : Nat
structure Prd.Ok (p : Prd) : Prop where
  net : p.net.Ok
  time : p.time < 2 ^ 64
  cost : p.cost < 2 ^ 64
def sameR (a b : Rng) : Bool := (a.a.v6 == b.a.v6 && decide (a.a.b = b.a.b)) && a.n == b.n
theorem sameR_iff (a b : Rng) : sameR a b = true ↔ a = b := by
  unfold sameR
  obtain ⟨⟨v, l⟩, n⟩ := a
  obtain ⟨⟨v', l'⟩, n'⟩ := b
  simp [and_assoc]
def zeroP : Prd := ⟨0, 0, [], [], zeroR, 0⟩
def onlyP (p : Prd) : Bool := (decide (p.kind = 1) || decide (p.kind = 2) || decide (p.time = 0)) && (decide (p.kind = 3) || decide (p.names = [])) && (decide (p.kind = 4) || decide (p.path = [])) && (decide (p.kind = 5) || sameR p.net zeroR) && (decide (p.kind = 6) || decide (p.cost = 0))
/-- A predicate's word, and what stands behind it. -/
def wordsP (p : Prd) : List UInt8 × List UInt8 :=
  if p.kind = 1 then ([98, 101, 102, 111, 114, 101], numL 10 p.time)
  else if p.kind = 2 then ([115, 105, 110, 99, 101], numL 10 p.time)
  else if p.kind = 3 then ([111, 112], joinL16 p.names)
  else if p.kind = 4 ∧ rightL p.path = true then ([112, 97, 116, 104], p.path)
  else if p.kind = 5 then ([110, 101, 116], textR p.net)
  else if p.kind = 6 then ([99, 111, 115, 116], textC p.cost)
  else ([], [])
def textP (p : Prd) : List UInt8 :=
  if (wordsP p).2 = [] ∨ onlyP p = false ∨ 511 < (wordsP p).1.length + (wordsP p).2.length then [] else (wordsP p).1 ++ 32 :: (wordsP p).2
/-- The place of a text's first blank. -/
def blankL : List UInt8 → Option Nat
  | [] => none
  | c :: s => if c = 32 then some 0 else (blankL s).map (· + 1)
theorem blankL_front (t u : List UInt8) (h : ∀ c ∈ t, c ≠ 32) : blankL (t ++ 32 :: u) = some t.length := by
  induction t with
  | nil => rfl
  | cons c t ih =>
    rw [List.cons_append, blankL, if_neg (h c (List.mem_cons_self ..)), ih (fun d hd => h d (List.mem_cons_of_mem _ hd))]; rfl
/-- What a text may say, kind by kind. -/
def candsP (b : List UInt8) : List Prd :=
  [⟨1, (numberL b).getD 0, [], [], zeroR, 0⟩, ⟨2, (numberL b).getD 0, [], [], zeroR, 0⟩, ⟨3, 0, (namesC b).getD [], [], zeroR, 0⟩, ⟨4, 0, [], b, zeroR, 0⟩, ⟨5, 0, [], [], (parseR b).getD zeroR, 0⟩, ⟨6, 0, [], [], zeroR, (parseC b).getD 0⟩]
def parseP (s : List UInt8) : Option Prd :=
  if 512 < s.length then none else match blankL s with
    | none => none
    | some k => (candsP (s.drop (k + 1))).find? fun p => decide (textP p = s)
theorem textP_ne (p : Prd) (h : textP p ≠ []) : (wordsP p).2 ≠ [] ∧ onlyP p = true ∧ (wordsP p).1.length + (wordsP p).2.length ≤ 511 ∧ textP p = (wordsP p).1 ++ 32 :: (wordsP p).2 := by
  unfold textP at h ⊢
  by_cases hc : (wordsP p).2 = [] ∨ onlyP p = false ∨ 511 < (wordsP p).1.length + (wordsP p).2.length
  · rw [if_pos hc] at h; exact absurd rfl h
  · rw [if_neg hc]
    refine ⟨fun e => hc (.inl e), ?_, ?_, rfl⟩
    · cases ho : onlyP p with
      | true => rfl
      | false => exact absurd (.inr (.inl ho)) hc
    · rcases Nat.lt_or_ge 511 ((wordsP p).1.length + (wordsP p).2.length) with h1 | h1
      · exact absurd (.inr (.inr h1)) hc
      · exact h1
/-- The ways in which a predicate can be. -/
theorem wordsP_ways (p : Prd) (h : (wordsP p).2 ≠ []) :
    p.kind = 1 ∧ wordsP p = ([98, 101, 102, 111, 114, 101], numL 10 p.time) ∨ p.kind = 2 ∧ wordsP p = ([115, 105, 110, 99, 101], numL 10 p.time) ∨ p.kind = 3 ∧ wordsP p = ([111, 112], joinL16 p.names) ∨
    p.kind = 4 ∧ wordsP p = ([112, 97, 116, 104], p.path) ∨ p.kind = 5 ∧ wordsP p = ([110, 101, 116], textR p.net) ∨ p.kind = 6 ∧ wordsP p = ([99, 111, 115, 116], textC p.cost) := by
  unfold wordsP at h ⊢
  by_cases h1 : p.kind = 1
  · rw [if_pos h1]; exact .inl ⟨h1, rfl⟩
  rw [if_neg h1] at h ⊢
  by_cases h2 : p.kind = 2
  · rw [if_pos h2]; exact .inr (.inl ⟨h2, rfl⟩)
  rw [if_neg h2] at h ⊢
  by_cases h3 : p.kind = 3
  · rw [if_pos h3]; exact .inr (.inr (.inl ⟨h3, rfl⟩))
  rw [if_neg h3] at h ⊢
  by_cases h4 : p.kind = 4 ∧ rightL p.path = true
  · rw [if_pos h4]; exact .inr (.inr (.inr (.inl ⟨h4.1, rfl⟩)))
  rw [if_neg h4] at h ⊢
  by_cases h5 : p.kind = 5
  · rw [if_pos h5]; exact .inr (.inr (.inr (.inr (.inl ⟨h5, rfl⟩))))
  rw [if_neg h5] at h ⊢
  by_cases h6 : p.kind = 6
  · rw [if_pos h6]; exact .inr (.inr (.inr (.inr (.inr ⟨h6, rfl⟩))))
  rw [if_neg h6] at h
  exact absurd rfl h
theorem wordsP_32 (p : Prd) (h : (wordsP p).2 ≠ []) : ∀ c ∈ (wordsP p).1, c ≠ 32 := by
  rcases wordsP_ways p h with ⟨-, e⟩ | ⟨-, e⟩ | ⟨-, e⟩ | ⟨-, e⟩ | ⟨-, e⟩ | ⟨-, e⟩ <;> rw [e] <;> dsimp only <;> decide
theorem only_parts (p : Prd) (h : onlyP p = true) : (p.kind = 1 ∨ p.kind = 2 ∨ p.time = 0) ∧ (p.kind = 3 ∨ p.names = []) ∧ (p.kind = 4 ∨ p.path = []) ∧ (p.kind = 5 ∨ p.net = zeroR) ∧ (p.kind = 6 ∨ p.cost = 0) := by
  unfold onlyP at h
  simp only [Bool.and_eq_true, Bool.or_eq_true, decide_eq_true_iff, sameR_iff] at h
  obtain ⟨⟨⟨⟨h1, h2⟩, h3⟩, h4⟩, h5⟩ := h
  exact ⟨by rcases h1 with (h | h) | h; exact .inl h; exact .inr (.inl h); exact .inr (.inr h), h2, h3, h4, h5⟩
theorem namesC_join (l : List (List UInt8)) (h : joinL16 l ≠ []) : namesC (joinL16 l) = some l := by
  rw [names_join]
  cases hr : riseL l with
  | true => rfl
  | false => exact absurd (join_off l hr) h
theorem parseR_text (r : Rng) (ho : r.Ok) (h : textR r ≠ []) : parseR (textR r) = some r := (parseR_iff _ r).2 ⟨ho.a, (textR_ne r h).1, rfl⟩
theorem parseC_text (b : Nat) (hb : b < 2 ^ 64) (h : textC b ≠ []) : parseC (textC b) = some b := by
  refine (parseC_iff _ b).2 ⟨hb, ?_, rfl⟩
  cases hn : nanC b with
  | false => rfl
  | true => exact absurd (by unfold textC; rw [hn]; rfl) h
/-- A predicate that can be is among what its own words may say. -/
theorem cands_self (p : Prd) (ho : p.Ok) (h : textP p ≠ []) : p ∈ candsP (wordsP p).2 := by
  obtain ⟨h2, honly, -, -⟩ := textP_ne p h
  obtain ⟨o1, o2, o3, o4, o5⟩ := only_parts p honly
  obtain ⟨k, t, ns, pa, r, c⟩ := p
  unfold candsP
  simp only at o1 o2 o3 o4 o5
  rcases wordsP_ways _ h2 with ⟨e, hw⟩ | ⟨e, hw⟩ | ⟨e, hw⟩ | ⟨e, hw⟩ | ⟨e, hw⟩ | ⟨e, hw⟩ <;> simp only at e <;> subst e <;> rw [hw] at h2 ⊢ <;> simp only at h2 ⊢
  · obtain rfl : ns = [] := o2.resolve_left (by decide)
    obtain rfl : pa = [] := o3.resolve_left (by decide)
    obtain rfl : r = zeroR := o4.resolve_left (by decide)
    obtain rfl : c = 0 := o5.resolve_left (by decide)
    rw [number_num t ho.time]
    simp
  · obtain rfl : ns = [] := o2.resolve_left (by decide)
    obtain rfl : pa = [] := o3.resolve_left (by decide)
    obtain rfl : r = zeroR := o4.resolve_left (by decide)
    obtain rfl : c = 0 := o5.resolve_left (by decide)
    rw [number_num t ho.time]
    simp
  · obtain rfl : t = 0 := (o1.resolve_left (by decide)).resolve_left (by decide)
    obtain rfl : pa = [] := o3.resolve_left (by decide)
    obtain rfl : r = zeroR := o4.resolve_left (by decide)
    obtain rfl : c = 0 := o5.resolve_left (by decide)
    rw [namesC_join ns h2]
    simp
  · obtain rfl : t = 0 := (o1.resolve_left (by decide)).resolve_left (by decide)
    obtain rfl : ns = [] := o2.resolve_left (by decide)
    obtain rfl : r = zeroR := o4.resolve_left (by decide)
    obtain rfl : c = 0 := o5.resolve_left (by decide)
    simp
  · obtain rfl : t = 0 := (o1.resolve_left (by decide)).resolve_left (by decide)
    obtain rfl : ns = [] := o2.resolve_left (by decide)
    obtain rfl : pa = [] := o3.resolve_left (by decide)
    obtain rfl : c = 0 := o5.resolve_left (by decide)
    rw [parseR_text r ho.net h2]
    simp
  · obtain rfl : t = 0 := (o1.resolve_left (by decide)).resolve_left (by decide)
    obtain rfl : ns = [] := o2.resolve_left (by decide)
    obtain rfl : pa = [] := o3.resolve_left (by decide)
    obtain rfl : r = zeroR := o4.resolve_left (by decide)
    rw [parseC_text c ho.cost h2]
    simp
theorem front_inj (a b c d : List UInt8) (ha : ∀ x ∈ a, x ≠ 32) (hc : ∀ x ∈ c, x ≠ 32) (h : a ++ 32 :: b = c ++ 32 :: d) : a = c ∧ b = d := by
  have e : a.length = c.length := by
    have h1 := blankL_front a b ha
    rw [h, blankL_front c d hc] at h1
    exact (Option.some.inj h1).symm
  obtain ⟨h1, h2⟩ := List.append_inj h e
  exact ⟨h1, (List.cons.inj h2).2⟩
theorem word_kind (p q : Prd) (hp : (wordsP p).2 ≠ []) (hq : (wordsP q).2 ≠ []) (h : (wordsP p).1 = (wordsP q).1) : p.kind = q.kind := by
  rcases wordsP_ways p hp with ⟨e, hw⟩ | ⟨e, hw⟩ | ⟨e, hw⟩ | ⟨e, hw⟩ | ⟨e, hw⟩ | ⟨e, hw⟩ <;>
    rcases wordsP_ways q hq with ⟨f, hv⟩ | ⟨f, hv⟩ | ⟨f, hv⟩ | ⟨f, hv⟩ | ⟨f, hv⟩ | ⟨f, hv⟩ <;> rw [hw, hv] at h <;> first | (rw [e, f]; done) | (exact absurd h (by simp))
theorem wordsP_at (p q : Prd) (hk : p.kind = q.kind) (hp : (wordsP p).2 ≠ []) (hq : (wordsP q).2 ≠ []) (h : (wordsP p).2 = (wordsP q).2) :
    p.kind = 1 ∧ numL 10 p.time = numL 10 q.time ∨ p.kind = 2 ∧ numL 10 p.time = numL 10 q.time ∨ p.kind = 3 ∧ joinL16 p.names = joinL16 q.names ∧ joinL16 p.names ≠ [] ∨ p.kind = 4 ∧ p.path = q.path ∨ p.kind = 5 ∧ textR p.net = textR q.net ∧ textR p.net ≠ [] ∨ p.kind = 6 ∧ textC p.cost = textC q.cost ∧ textC p.cost ≠ [] := by
  rcases wordsP_ways p hp with ⟨e, hw⟩ | ⟨e, hw⟩ | ⟨e, hw⟩ | ⟨e, hw⟩ | ⟨e, hw⟩ | ⟨e, hw⟩ <;>
    rcases wordsP_ways q hq with ⟨f, hv⟩ | ⟨f, hv⟩ | ⟨f, hv⟩ | ⟨f, hv⟩ | ⟨f, hv⟩ | ⟨f, hv⟩ <;>
    first
      | (exfalso; rw [e, f] at hk; exact absurd hk (by decide))
      | (rw [hw] at hp h; rw [hv] at h; simp only at hp h
         first
          | exact .inl ⟨e, h⟩
          | exact .inr (.inl ⟨e, h⟩)
          | exact .inr (.inr (.inl ⟨e, h, hp⟩))
          | exact .inr (.inr (.inr (.inl ⟨e, h⟩)))
          | exact .inr (.inr (.inr (.inr (.inl ⟨e, h, hp⟩))))
          | exact .inr (.inr (.inr (.inr (.inr ⟨e, h, hp⟩)))))
/-- A text is one predicate's at most. -/
theorem textP_inj (p q : Prd) (hp : p.Ok) (hq : q.Ok) (h : textP p = textP q) (hne : textP p ≠ []) : p = q := by
  obtain ⟨p2, po, -, pe⟩ := textP_ne p hne
  obtain ⟨q2, qo, -, qe⟩ := textP_ne q (by rw [← h]; exact hne)
  rw [pe, qe] at h
  obtain ⟨h1, h2⟩ := front_inj _ _ _ _ (wordsP_32 p p2) (wordsP_32 q q2) h
  have hk := word_kind p q p2 q2 h1
  obtain ⟨o1, o2, o3, o4, o5⟩ := only_parts p po
  obtain ⟨u1, u2, u3, u4, u5⟩ := only_parts q qo
  have hw := wordsP_at p q hk p2 q2 h2
  have key : p.time = q.time ∧ p.names = q.names ∧ p.path = q.path ∧ p.net = q.net ∧ p.cost = q.cost := by
    rcases hw with ⟨e, hh⟩ | ⟨e, hh⟩ | ⟨e, hh, hn⟩ | ⟨e, hh⟩ | ⟨e, hh, hn⟩ | ⟨e, hh, hn⟩ <;> rw [← hk] at u1 u2 u3 u4 u5 <;> rw [e] at o1 o2 o3 o4 o5 u1 u2 u3 u4 u5
    · exact ⟨numL_inj 10 _ _ (by omega) (by omega) hh, by rw [o2.resolve_left (by decide), u2.resolve_left (by decide)], by rw [o3.resolve_left (by decide), u3.resolve_left (by decide)], by rw [o4.resolve_left (by decide), u4.resolve_left (by decide)], by rw [o5.resolve_left (by decide), u5.resolve_left (by decide)]⟩
    · exact ⟨numL_inj 10 _ _ (by omega) (by omega) hh, by rw [o2.resolve_left (by decide), u2.resolve_left (by decide)], by rw [o3.resolve_left (by decide), u3.resolve_left (by decide)], by rw [o4.resolve_left (by decide), u4.resolve_left (by decide)], by rw [o5.resolve_left (by decide), u5.resolve_left (by decide)]⟩
    all_goals have ht : p.time = q.time := by rw [(o1.resolve_left (by decide)).resolve_left (by decide), (u1.resolve_left (by decide)).resolve_left (by decide)]
    · refine ⟨ht, ?_, by rw [o3.resolve_left (by decide), u3.resolve_left (by decide)], by rw [o4.resolve_left (by decide), u4.resolve_left (by decide)], by rw [o5.resolve_left (by decide), u5.resolve_left (by decide)]⟩
      have k1 := namesC_join p.names hn
      rw [hh, namesC_join q.names (by rw [← hh]; exact hn)] at k1
      exact (Option.some.inj k1).symm
    · exact ⟨ht, by rw [o2.resolve_left (by decide), u2.resolve_left (by decide)], hh, by rw [o4.resolve_left (by decide), u4.resolve_left (by decide)], by rw [o5.resolve_left (by decide), u5.resolve_left (by decide)]⟩
    · refine ⟨ht, by rw [o2.resolve_left (by decide), u2.resolve_left (by decide)], by rw [o3.resolve_left (by decide), u3.resolve_left (by decide)], ?_, by rw [o5.resolve_left (by decide), u5.resolve_left (by decide)]⟩
      have k1 := parseR_text p.net hp.net hn
      rw [hh, parseR_text q.net hq.net (by rw [← hh]; exact hn)] at k1
      exact (Option.some.inj k1).symm
    · refine ⟨ht, by rw [o2.resolve_left (by decide), u2.resolve_left (by decide)], by rw [o3.resolve_left (by decide), u3.resolve_left (by decide)], by rw [o4.resolve_left (by decide), u4.resolve_left (by decide)], ?_⟩
      have k1 := parseC_text p.cost hp.cost hn
      rw [hh, parseC_text q.cost hq.cost (by rw [← hh]; exact hn)] at k1
      exact (Option.some.inj k1).symm
  obtain ⟨k, t, ns, pa, r, c⟩ := p
  obtain ⟨k', t', ns', pa', r', c'⟩ := q
  simp only at hk key
  obtain ⟨rfl, rfl, rfl, rfl, rfl⟩ := key
  subst hk
  rfl
theorem zeroP_ok : zeroP.Ok := ⟨zeroR_ok, by decide, by decide⟩
theorem numberL_lt (s : List UInt8) : (numberL s).getD 0 < 2 ^ 64 := by
  unfold numberL
  split
  · decide
  · split
    · assumption
    · decide
theorem cands_ok (b : List UInt8) : ∀ p ∈ candsP b, p.Ok := by
  have hr : ((parseR b).getD zeroR).Ok := by
    cases h : parseR b with
    | none => exact zeroR_ok
    | some r =>
      obtain ⟨h1, h2, -⟩ := (parseR_iff b r).1 h
      have := checkR_lim r h2
      exact ⟨h1, by show _ ≤ r.n; omega, by show r.n ≤ _; omega⟩
  have hc : (parseC b).getD 0 < 2 ^ 64 := by
    cases h : parseC b with
    | none => decide
    | some c => exact ((parseC_iff b c).1 h).1
  have hn := numberL_lt b
  intro p hp
  unfold candsP at hp
  simp only [List.mem_cons, List.not_mem_nil, or_false] at hp
  rcases hp with rfl | rfl | rfl | rfl | rfl | rfl
  · exact ⟨zeroR_ok, hn, by show (0 : Nat) < 2 ^ 64; decide⟩
  · exact ⟨zeroR_ok, hn, by show (0 : Nat) < 2 ^ 64; decide⟩
  · exact ⟨zeroR_ok, by show (0 : Nat) < 2 ^ 64; decide, by show (0 : Nat) < 2 ^ 64; decide⟩
  · exact ⟨zeroR_ok, by show (0 : Nat) < 2 ^ 64; decide, by show (0 : Nat) < 2 ^ 64; decide⟩
  · exact ⟨hr, by show (0 : Nat) < 2 ^ 64; decide, by show (0 : Nat) < 2 ^ 64; decide⟩
  · exact ⟨zeroR_ok, by show (0 : Nat) < 2 ^ 64; decide, hc⟩
/-- A text is read as p exactly where p can be and its text is that. -/
theorem parseP_iff (s : List UInt8) (p : Prd) : parseP s = some p ↔ p.Ok ∧ textP p = s ∧ s ≠ [] := by
  constructor
  · intro h
    unfold parseP at h
    by_cases hl : 512 < s.length
    · rw [if_pos hl] at h; cases h
    · rw [if_neg hl] at h
      cases hb : blankL s with
      | none => rw [hb] at h; cases h
      | some k =>
        rw [hb] at h
        have h : (candsP (s.drop (k + 1))).find? (fun p => decide (textP p = s)) = some p := h
        have h1 : textP p = s := of_decide_eq_true (List.find?_some (p := fun p => decide (textP p = s)) h)
        refine ⟨cands_ok _ p (List.mem_of_find?_eq_some h), h1, ?_⟩
        rintro rfl
        cases hb
  · rintro ⟨ho, rfl, hne⟩
    obtain ⟨h2, -, hl, he⟩ := textP_ne p hne
    have hb : blankL (textP p) = some (wordsP p).1.length := by rw [he]; exact blankL_front _ _ (wordsP_32 p h2)
    have hd : (textP p).drop ((wordsP p).1.length + 1) = (wordsP p).2 := by
      rw [he, ← List.drop_drop, List.drop_left]; rfl
    have hlen : ¬ 512 < (textP p).length := by rw [he, List.length_append, List.length_cons]; omega
    unfold parseP
    rw [if_neg hlen, hb]
    show (candsP ((textP p).drop ((wordsP p).1.length + 1))).find? (fun q => decide (textP q = textP p)) = some p
    rw [hd]
    cases hf : (candsP (wordsP p).2).find? (fun q => decide (textP q = textP p)) with
    | none =>
      have := List.find?_eq_none.1 hf p (cands_self p ho hne)
      simp at this
    | some q =>
      have h1 : textP q = textP p := of_decide_eq_true (List.find?_some (p := fun q => decide (textP q = textP p)) hf)
      rw [textP_inj q p (cands_ok _ q (List.mem_of_find?_eq_some hf)) ho h1 (by rw [h1]; exact hne)]
end Go.Proofs.YtgnhmpfoddfpdaaGreatDoor

/- LAYER 17: what the package tells and reads, as lists: it is the document's. No Go function is spoken of here. -/
namespace Go.Proofs.YtgnhmpfoddfpdaaGreatDoor
set_option maxRecDepth 100000
open Go Go.RowKit

/-- Bytes that may stand in a word. -/
def fairL (l : List UInt8) : Prop := ∀ c ∈ l, inkB c = true ∧ c ≠ 32
theorem fair_nil : fairL [] := fun _ hc => absurd hc List.not_mem_nil
theorem fair_cons {c : UInt8} {l : List UInt8} (hc : inkB c = true ∧ c ≠ 32) (h : fairL l) : fairL (c :: l) := by
  intro d hd
  rcases List.mem_cons.1 hd with rfl | hd
  · exact hc
  · exact h d hd
theorem fair_app {a b : List UInt8} (ha : fairL a) (hb : fairL b) : fairL (a ++ b) := by
  intro d hd
  rcases List.mem_append.1 hd with hd | hd
  · exact ha d hd
  · exact hb d hd
theorem hexD_fair (i : Nat) (h : i < 16) : inkB (hexD i) = true ∧ hexD i ≠ 32 := by
  have key : ∀ i : Fin 16, inkB (hexD i.1) = true ∧ hexD i.1 ≠ 32 := by decide +kernel
  exact key ⟨i, h⟩
theorem num_fair (b n : Nat) (h2 : 2 ≤ b) (hb : b ≤ 16) : fairL (numL b n) := by
  induction n using Nat.strongRecOn with
  | _ n ih =>
    by_cases h : n < b
    · rw [numL_small b n h]
      exact fair_cons (hexD_fair n (by omega)) fair_nil
    · rw [numL_great b n h2 (by omega)]
      exact fair_app (ih (n / b) (Nat.div_lt_self (by omega) (by omega))) (fair_cons (hexD_fair _ (Nat.lt_of_lt_of_le (Nat.mod_lt _ (by omega)) hb)) fair_nil)
theorem glue_fair (x : UInt8) (ps : List (List UInt8)) (hx : inkB x = true ∧ x ≠ 32) (h : ∀ p ∈ ps, fairL p) : fairL (glueL x ps) := by
  intro c hc
  rcases mem_glue x ps c hc with rfl | ⟨p, hp, hc⟩
  · exact hx
  · exact h p hp c hc
theorem joinN_fair (l : List Nat) : fairL (joinN l) := by
  rw [joinN_glue]
  refine glue_fair 58 _ (by decide) fun p hp => ?_
  obtain ⟨n, _, rfl⟩ := List.mem_map.1 hp
  exact num_fair 16 n (by omega) (by omega)
theorem textN_fair (l : List Nat) : fairL (textN l) := by
  unfold textN
  simp only []
  split
  · exact joinN_fair l
  · exact fair_app (joinN_fair _) (fair_cons (by decide) (fair_cons (by decide) (joinN_fair _)))
theorem textA_fair (a : Adr) : fairL (textA a) := by
  unfold textA
  split
  · split
    · exact textN_fair _
    · have n : ∀ k, fairL (numL 10 k) := fun k => num_fair 10 k (by omega) (by omega)
      have d : inkB 46 = true ∧ (46 : UInt8) ≠ 32 := by decide
      exact fair_app (fair_app (fair_app (n _) (fair_cons d (n _))) (fair_cons d (n _))) (fair_cons d (n _))
  · exact fair_nil
theorem textR_fair (r : Rng) : fairL (textR r) := by
  by_cases h : textR r = []
  · rw [h]; exact fair_nil
  · rw [(textR_ne r h).2]
    exact fair_app (textA_fair _) (fair_cons (by decide) (num_fair 10 _ (by omega) (by omega)))
theorem low_fair (c : UInt8) (h : lowB c = true) : inkB c = true ∧ c ≠ 32 := by
  unfold lowB at h
  rw [Bool.and_eq_true, decide_eq_true_iff, decide_eq_true_iff] at h
  refine ⟨?_, ?_⟩
  · unfold inkB
    rw [Bool.and_eq_true, decide_eq_true_iff, decide_eq_true_iff]; omega
  · rintro rfl
    exact absurd h.1 (by decide)
theorem sign_fair (c : UInt8) (h : signB c = true) : inkB c = true ∧ c ≠ 32 := by
  have key : ∀ i : Fin 256, signB (UInt8.ofNat i.1) = true → inkB (UInt8.ofNat i.1) = true ∧ UInt8.ofNat i.1 ≠ 32 := by decide +kernel
  have e : UInt8.ofNat c.toNat = c := UInt8.ofNat_toNat
  have := key ⟨c.toNat, c.toNat_lt⟩
  rw [e] at this
  exact this h
theorem join16_fair (l : List (List UInt8)) : fairL (joinL16 l) := by
  unfold joinL16
  split
  · rename_i h
    refine glue_fair 44 l (by decide) fun p hp c hc => ?_
    have := riseL_names l h p hp
    unfold name16 at this
    rw [Bool.and_eq_true, List.all_eq_true] at this
    exact low_fair c (this.2 c hc)
  · exact fair_nil
theorem right_fair (p : List UInt8) (h : rightL p = true) : fairL p := by
  obtain ⟨r, rfl⟩ := right_head p h
  refine fair_cons (by decide) ?_
  have h : (decide (r = []) || (decide (r.length + 1 ≤ 256) && (splitL 47 r).all nameL)) = true := h
  rw [Bool.or_eq_true, decide_eq_true_iff, Bool.and_eq_true, List.all_eq_true] at h
  rcases h with rfl | ⟨-, h⟩
  · exact fair_nil
  · rw [← glueL_split 47 r]
    refine glue_fair 47 _ (by decide) fun p hp c hc => ?_
    have := h p hp
    unfold nameL at this
    rw [Bool.and_eq_true, List.all_eq_true] at this
    exact sign_fair c (this.2 c hc)
theorem intL_fair (p : Int) : fairL (intL p) := by
  unfold intL
  split
  · exact fair_cons (by decide) (num_fair 10 _ (by omega) (by omega))
  · exact num_fair 10 _ (by omega) (by omega)
theorem bodyC_fair (a : Nat) : fairL (bodyC a) := by
  unfold bodyC
  split
  · exact fair_cons (by decide) fair_nil
  · split
    · exact fair_cons (by decide) (fair_cons (by decide) (fair_cons (by decide) fair_nil))
    · exact fair_app (num_fair 10 _ (by omega) (by omega)) (fair_cons (by decide) (intL_fair _))
theorem textC_fair (b : Nat) : fairL (textC b) := by
  unfold textC
  split
  · exact fair_nil
  · refine fair_app ?_ (bodyC_fair _)
    split
    · exact fair_cons (by decide) fair_nil
    · exact fair_nil
/-- Two words that can be are a text's two words. -/
theorem words_two (a b : List UInt8) (ha : fairL a) (hb : fairL b) (ha0 : a ≠ []) (hb0 : b ≠ []) (hl : a.length + b.length ≤ 511) : wordsL (a ++ 32 :: b) = some [a, b] := by
  have e : splitL 32 (a ++ 32 :: b) = [a, b] := by
    rw [splitL_app, splitL_end 32 a (fun c hc => (ha c hc).2), splitL_end 32 b (fun c hc => (hb c hc).2)]; rfl
  unfold wordsL
  rw [if_neg (by simp), e, if_pos]
  refine ⟨by rw [List.length_append, List.length_cons]; omega, ?_, ?_⟩
  · rw [List.all_append, List.all_cons, List.all_eq_true.2 (fun c hc => (ha c hc).1), List.all_eq_true.2 (fun c hc => (hb c hc).1)]; rfl
  · simp [ha0, hb0]
theorem two_words (s a b : List UInt8) (h : wordsL s = some [a, b]) : s = a ++ 32 :: b ∧ a ≠ [] ∧ b ≠ [] ∧ a.length + b.length ≤ 511 := by
  rcases words_some s _ h with ⟨-, h⟩ | ⟨-, h1, -, h2, h3⟩
  · cases h
  · have e := glueL_split 32 s
    rw [← h3] at e h2
    have e : a ++ 32 :: b = s := e
    rw [← e] at h1 ⊢
    rw [List.length_append, List.length_cons] at h1
    simp at h2
    exact ⟨rfl, h2.1, h2.2, by omega⟩
/-- The two words of a predicate, as the package tells them. -/
def toldP (p : Prd) : List UInt8 × List UInt8 :=
  if p.kind = 1 then ([98, 101, 102, 111, 114, 101], numL 10 p.time)
  else if p.kind = 2 then ([115, 105, 110, 99, 101], numL 10 p.time)
  else if p.kind = 3 then ([111, 112], joinL16 p.names)
  else if p.kind = 4 then ([112, 97, 116, 104], p.path)
  else if p.kind = 5 then ([110, 101, 116], textR p.net)
  else if p.kind = 6 then ([99, 111, 115, 116], textC p.cost)
  else ([], [])
/-- What two words say. -/
def readP (a b : List UInt8) : Option Prd :=
  if a = [98, 101, 102, 111, 114, 101] then (numberL b).map fun n => ⟨1, n, [], [], zeroR, 0⟩
  else if a = [115, 105, 110, 99, 101] then (numberL b).map fun n => ⟨2, n, [], [], zeroR, 0⟩
  else if a = [111, 112] then (namesC b).map fun l => ⟨3, 0, l, [], zeroR, 0⟩
  else if a = [112, 97, 116, 104] then (if rightL b = true then some ⟨4, 0, [], b, zeroR, 0⟩ else none)
  else if a = [110, 101, 116] then (parseR b).map fun r => ⟨5, 0, [], [], r, 0⟩
  else if a = [99, 111, 115, 116] then (parseC b).map fun c => ⟨6, 0, [], [], zeroR, c⟩
  else none
def parse2 (s : List UInt8) : Option Prd := match wordsL s with
  | some [a, b] => readP a b
  | _ => none
theorem told_words (p : Prd) (h : (wordsP p).2 ≠ []) : toldP p = wordsP p := by
  unfold toldP
  rcases wordsP_ways p h with ⟨e, hw⟩ | ⟨e, hw⟩ | ⟨e, hw⟩ | ⟨e, hw⟩ | ⟨e, hw⟩ | ⟨e, hw⟩ <;> rw [hw, e] <;> rfl
theorem wordsP_fair (p : Prd) (h : (wordsP p).2 ≠ []) : fairL (wordsP p).1 ∧ fairL (wordsP p).2 ∧ (wordsP p).1 ≠ [] := by
  have w : ∀ l : List UInt8, (l.all fun c => inkB c && decide (c ≠ 32)) = true → fairL l := by
    intro l hl c hc
    have := List.all_eq_true.1 hl c hc
    rw [Bool.and_eq_true, decide_eq_true_iff] at this
    exact this
  have hr : p.kind = 4 → (wordsP p).2 = p.path → rightL p.path = true := by
    intro hk he
    cases hr : rightL p.path with
    | true => rfl
    | false =>
      exfalso
      apply h
      unfold wordsP
      rw [hk, hr]; rfl
  rcases wordsP_ways p h with ⟨e, hw⟩ | ⟨e, hw⟩ | ⟨e, hw⟩ | ⟨e, hw⟩ | ⟨e, hw⟩ | ⟨e, hw⟩ <;> rw [hw] at hr ⊢ <;> refine ⟨w _ (by dsimp only; decide), ?_, by dsimp only; simp⟩
  · exact num_fair 10 _ (by omega) (by omega)
  · exact num_fair 10 _ (by omega) (by omega)
  · exact join16_fair _
  · exact right_fair _ (hr e rfl)
  · exact textR_fair _
  · exact textC_fair _
theorem textP_of (p : Prd) (a b : List UInt8) (hw : wordsP p = (a, b)) (hb : b ≠ []) (ho : onlyP p = true) (hl : a.length + b.length ≤ 511) : textP p = a ++ 32 :: b := by
  unfold textP
  rw [hw, if_neg]
  rintro (h | h | h)
  · exact hb h
  · rw [ho] at h; cases h
  · have h : 511 < a.length + b.length := h
    omega
/-- What the package reads is what the document reads. -/
theorem read_some (a b : List UInt8) (p : Prd) (h : readP a b = some p) : p.Ok ∧ onlyP p = true ∧ wordsP p = (a, b) := by
  unfold readP at h
  split at h
  · rename_i e
    obtain ⟨n, hn, rfl⟩ := Option.map_eq_some_iff.1 h
    have h1 := numberL_lt b
    rw [hn] at h1
    have hv : numL 10 n = b := by
      unfold numberL at hn
      split at hn
      · cases hn
      · rename_i m hm
        split at hn
        · cases hn; exact ((valueL_iff 10 20 (by omega) (by omega) b _).1 hm).1
        · cases hn
    refine ⟨⟨zeroR_ok, h1, by show (0 : Nat) < 2 ^ 64; decide⟩, rfl, ?_⟩
    show (_, numL 10 n) = _
    rw [hv, e]
  split at h
  · rename_i e
    obtain ⟨n, hn, rfl⟩ := Option.map_eq_some_iff.1 h
    have h1 := numberL_lt b
    rw [hn] at h1
    have hv : numL 10 n = b := by
      unfold numberL at hn
      split at hn
      · cases hn
      · rename_i m hm
        split at hn
        · cases hn; exact ((valueL_iff 10 20 (by omega) (by omega) b _).1 hm).1
        · cases hn
    refine ⟨⟨zeroR_ok, h1, by show (0 : Nat) < 2 ^ 64; decide⟩, rfl, ?_⟩
    show (_, numL 10 n) = _
    rw [hv, e]
  split at h
  · rename_i e
    obtain ⟨l, hn, rfl⟩ := Option.map_eq_some_iff.1 h
    refine ⟨⟨zeroR_ok, by show (0 : Nat) < 2 ^ 64; decide, by show (0 : Nat) < 2 ^ 64; decide⟩, rfl, ?_⟩
    have hv : joinL16 l = b := by
      unfold namesC at hn
      split at hn
      · rename_i hr
        cases hn
        unfold joinL16
        rw [if_pos hr, glueL_split]
      · cases hn
    show (_, joinL16 l) = _
    rw [hv, e]
  split at h
  · rename_i e
    split at h
    · rename_i hr
      cases h
      refine ⟨⟨zeroR_ok, by show (0 : Nat) < 2 ^ 64; decide, by show (0 : Nat) < 2 ^ 64; decide⟩, rfl, ?_⟩
      unfold wordsP
      rw [if_neg (by simp), if_neg (by simp), if_neg (by simp), if_pos ⟨rfl, hr⟩, e]
    · cases h
  split at h
  · rename_i e
    obtain ⟨r, hn, rfl⟩ := Option.map_eq_some_iff.1 h
    obtain ⟨h1, h2, h3⟩ := (parseR_iff b r).1 hn
    have := checkR_lim r h2
    refine ⟨⟨⟨h1, by show _ ≤ r.n; omega, by show r.n ≤ _; omega⟩, by show (0 : Nat) < 2 ^ 64; decide, by show (0 : Nat) < 2 ^ 64; decide⟩, rfl, ?_⟩
    show (_, textR r) = _
    rw [h3, e]
  split at h
  · rename_i e
    obtain ⟨c, hn, rfl⟩ := Option.map_eq_some_iff.1 h
    obtain ⟨h1, -, h3⟩ := (parseC_iff b c).1 hn
    refine ⟨⟨zeroR_ok, by show (0 : Nat) < 2 ^ 64; decide, h1⟩, rfl, ?_⟩
    show (_, textC c) = _
    rw [h3, e]
  · cases h
theorem read_self (p : Prd) (ho : p.Ok) (h2 : (wordsP p).2 ≠ []) (hon : onlyP p = true) : readP (wordsP p).1 (wordsP p).2 = some p := by
  obtain ⟨o1, o2, o3, o4, o5⟩ := only_parts p hon
  have hr : p.kind = 4 → (wordsP p).2 = p.path → rightL p.path = true := by
    intro hk he
    cases hr : rightL p.path with
    | true => rfl
    | false =>
      exfalso
      apply h2
      unfold wordsP
      rw [hk, hr]; rfl
  obtain ⟨k, t, ns, pa, r, c⟩ := p
  simp only at o1 o2 o3 o4 o5
  rcases wordsP_ways _ h2 with ⟨e, hw⟩ | ⟨e, hw⟩ | ⟨e, hw⟩ | ⟨e, hw⟩ | ⟨e, hw⟩ | ⟨e, hw⟩ <;> simp only at e <;> subst e <;> rw [hw] at h2 hr ⊢ <;> simp only at h2 hr ⊢
  · obtain rfl : ns = [] := o2.resolve_left (by decide)
    obtain rfl : pa = [] := o3.resolve_left (by decide)
    obtain rfl : r = zeroR := o4.resolve_left (by decide)
    obtain rfl : c = 0 := o5.resolve_left (by decide)
    show (numberL (numL 10 t)).map _ = _
    rw [number_num t ho.time]; rfl
  · obtain rfl : ns = [] := o2.resolve_left (by decide)
    obtain rfl : pa = [] := o3.resolve_left (by decide)
    obtain rfl : r = zeroR := o4.resolve_left (by decide)
    obtain rfl : c = 0 := o5.resolve_left (by decide)
    show (numberL (numL 10 t)).map _ = _
    rw [number_num t ho.time]; rfl
  · obtain rfl : t = 0 := (o1.resolve_left (by decide)).resolve_left (by decide)
    obtain rfl : pa = [] := o3.resolve_left (by decide)
    obtain rfl : r = zeroR := o4.resolve_left (by decide)
    obtain rfl : c = 0 := o5.resolve_left (by decide)
    show (namesC (joinL16 ns)).map _ = _
    rw [namesC_join ns h2]; rfl
  · obtain rfl : t = 0 := (o1.resolve_left (by decide)).resolve_left (by decide)
    obtain rfl : ns = [] := o2.resolve_left (by decide)
    obtain rfl : r = zeroR := o4.resolve_left (by decide)
    obtain rfl : c = 0 := o5.resolve_left (by decide)
    show (if rightL pa = true then _ else _) = _
    rw [if_pos (by simpa using hr)]
  · obtain rfl : t = 0 := (o1.resolve_left (by decide)).resolve_left (by decide)
    obtain rfl : ns = [] := o2.resolve_left (by decide)
    obtain rfl : pa = [] := o3.resolve_left (by decide)
    obtain rfl : c = 0 := o5.resolve_left (by decide)
    show (parseR (textR r)).map _ = _
    rw [parseR_text r ho.net h2]; rfl
  · obtain rfl : t = 0 := (o1.resolve_left (by decide)).resolve_left (by decide)
    obtain rfl : ns = [] := o2.resolve_left (by decide)
    obtain rfl : pa = [] := o3.resolve_left (by decide)
    obtain rfl : r = zeroR := o4.resolve_left (by decide)
    show (parseC (textC c)).map _ = _
    rw [parseC_text c ho.cost h2]; rfl
theorem parse2_some (s : List UInt8) (p : Prd) (h : parse2 s = some p) : ∃ a b, wordsL s = some [a, b] ∧ readP a b = some p := by
  unfold parse2 at h
  split at h
  · rename_i a b hw
    exact ⟨a, b, hw, h⟩
  · cases h
theorem parse_two (s : List UInt8) : parse2 s = parseP s := by
  apply Option.ext
  intro p
  constructor
  · intro h
    obtain ⟨a, b, hw, hr⟩ := parse2_some s p h
    obtain ⟨rfl, ha, hb, hl⟩ := two_words s a b hw
    obtain ⟨ho, hon, hp⟩ := read_some a b p hr
    exact (parseP_iff _ p).2 ⟨ho, textP_of p a b hp hb hon hl, by simp⟩
  · intro h
    obtain ⟨ho, rfl, hne⟩ := (parseP_iff s p).1 h
    obtain ⟨h2, hon, hl, he⟩ := textP_ne p hne
    obtain ⟨f1, f2, f3⟩ := wordsP_fair p h2
    unfold parse2
    rw [he, words_two _ _ f1 f2 f3 h2 hl]
    exact read_self p ho h2 hon
/-- The text is what is told, where that comes back; else there is none. -/
theorem text_hit (p : Prd) (h : parseP ((toldP p).1 ++ 32 :: (toldP p).2) = some p) : textP p = (toldP p).1 ++ 32 :: (toldP p).2 := ((parseP_iff _ p).1 h).2.1
theorem text_miss (p : Prd) (ho : p.Ok) (h : parseP ((toldP p).1 ++ 32 :: (toldP p).2) ≠ some p) : textP p = [] := by
  by_cases h0 : textP p = []
  · exact h0
  · obtain ⟨h2, -, -, he⟩ := textP_ne p h0
    rw [told_words p h2, ← he] at h
    exact absurd ((parseP_iff _ p).2 ⟨ho, rfl, h0⟩) h
end Go.Proofs.YtgnhmpfoddfpdaaGreatDoor

/- LAYER 13: the document's Has. -/
namespace Go.Proofs.YtgnhmpfoddfpdaaGreatDoor
set_option maxRecDepth 100000
open Go Go.RowKit

theorem row_part' {w : World} {g : Nat} {t : TypeId} {R V U : List Value} (e : R = V ++ U) (h : Row w g t R) : w.rangeAt g 0 V := row_part (by rw [e] at h; exact h)
theorem rng_n' {w : World} {g : Nat} {t : TypeId} {R V : List Value} {n : Int} (hl : V.length = 17) (e : R = V ++ [Value.int .i64 n]) (h : Row w g t R) : w.cell? ⟨g, 17, none⟩ = some (.int .i64 n) := rng_n hl (by rw [e] at h; exact h)
end Go.Proofs.YtgnhmpfoddfpdaaGreatDoor

/- LAYER 12: how long an address's text can be. -/
namespace Go.Proofs.YtgnhmpfoddfpdaaGreatDoor
set_option maxRecDepth 100000
open Go Go.RowKit

theorem eight_of (l : List Nat) (h : l.length = 8) : ∃ a b c d e f g i : Nat, l = [a, b, c, d, e, f, g, i] := by
  match l, h with
  | [a, b, c, d, e, f, g, i], _ => exact ⟨a, b, c, d, e, f, g, i, rfl⟩
def zB : List Bool → Nat
  | [] => 0
  | z :: zs => if z then zB zs + 1 else 0
def bestB (l : List Bool) : Nat := (List.range l.length).foldl (fun best i => if zB (l.drop i) > zB (l.drop best) then i else best) 0
theorem zB_eq (l : List Nat) : zB (l.map fun n => decide (n = 0)) = zerosL l := by
  induction l with
  | nil => rfl
  | cons n l ih => rw [List.map_cons, zB, zerosL, ih]; by_cases h : n = 0 <;> simp [h]
theorem bestB_eq (l : List Nat) : bestB (l.map fun n => decide (n = 0)) = bestL l := by
  unfold bestB bestL
  simp only [← List.map_drop, zB_eq, List.length_map]
theorem bestL_le : ∀ a b c d e f g h : Bool, bestB [a, b, c, d, e, f, g, h] + zB ([a, b, c, d, e, f, g, h].drop (bestB [a, b, c, d, e, f, g, h])) ≤ 8 := by decide
theorem best_le (l : List Nat) (h8 : l.length = 8) : bestL l + zerosL (l.drop (bestL l)) ≤ 8 := by
  rw [← bestB_eq, ← zB_eq, List.map_drop]
  obtain ⟨a, b, c, d, e, f, g, h, rfl⟩ := eight_of l h8
  exact bestL_le _ _ _ _ _ _ _ _
/-- How long an address's text can be. -/
theorem glue_len1 (x : UInt8) (ps : List (List UInt8)) (m : Nat) (hm : ∀ p ∈ ps, p.length ≤ m) : (glueL x ps).length + 1 ≤ (m + 1) * ps.length + (if ps = [] then 1 else 0) := by
  induction ps with
  | nil => simp [glueL]
  | cons p ps ih =>
    have h1 := hm p (List.mem_cons_self ..)
    have h2 := ih (fun q hq => hm q (List.mem_cons_of_mem _ hq))
    cases ps with
    | nil => show p.length + 1 ≤ _; simp; omega
    | cons q ps =>
      rw [glueL_cons x p (q :: ps) (by simp), List.length_append, List.length_cons, if_neg (by simp)]
      rw [if_neg (by simp)] at h2
      rw [List.length_cons, Nat.mul_succ]
      omega
theorem joinN_len5 (l : List Nat) (hm : ∀ n ∈ l, n ≤ 65535) : (joinN l).length ≤ 5 * l.length := by
  rw [joinN_glue]
  have := glue_len1 58 (l.map (numL 16)) 4 (by
    intro p hp
    obtain ⟨n, hn, rfl⟩ := List.mem_map.1 hp
    exact numL16_len n (hm n hn))
  rw [List.length_map] at this
  split at this <;> omega
theorem joinN_len8 (l : List Nat) (h8 : l.length = 8) (hm : ∀ n ∈ l, n ≤ 65535) : (joinN l).length ≤ 39 := by
  rw [joinN_glue]
  have := glue_len1 58 (l.map (numL 16)) 4 (by
    intro p hp
    obtain ⟨n, hn, rfl⟩ := List.mem_map.1 hp
    exact numL16_len n (hm n hn))
  rw [List.length_map, h8, if_neg (by intro h; have := congrArg List.length h; simp [h8] at this)] at this
  omega
theorem textA_len (a : Adr) : (textA a).length ≤ 39 := by
  unfold textA
  split
  · split
    · unfold textN
      dsimp only
      have h8 := numsA_len a
      have hm := numsA_le a
      split
      · exact joinN_len8 _ h8 hm
      · rename_i hz
        have h1 := joinN_len5 ((numsA a).take (bestL (numsA a))) (fun n hn => hm n (List.mem_of_mem_take hn))
        have h2 := joinN_len5 ((numsA a).drop (bestL (numsA a) + zerosL ((numsA a).drop (bestL (numsA a))))) (fun n hn => hm n (List.mem_of_mem_drop hn))
        have h3 := best_le (numsA a) h8
        rw [List.length_take] at h1
        rw [List.length_drop] at h2
        rw [List.length_append, List.length_cons, List.length_cons]
        omega
    · have k0 := numL10_len (a.b.getD 0 0).toNat (by have := (a.b.getD 0 0).toNat_lt; omega)
      have k1 := numL10_len (a.b.getD 1 0).toNat (by have := (a.b.getD 1 0).toNat_lt; omega)
      have k2 := numL10_len (a.b.getD 2 0).toNat (by have := (a.b.getD 2 0).toNat_lt; omega)
      have k3 := numL10_len (a.b.getD 3 0).toNat (by have := (a.b.getD 3 0).toNat_lt; omega)
      simp only [List.length_append, List.length_cons]
      omega
  · simp
end Go.Proofs.YtgnhmpfoddfpdaaGreatDoor

/- LAYER 16: the document's Name. -/
namespace Go.Proofs.YtgnhmpfoddfpdaaGreatDoor
set_option maxRecDepth 100000
open Go Go.RowKit

theorem name16_iff (s : List UInt8) : name16 s = (decide (1 ≤ s.length) && decide (s.length ≤ 16) && s.all lowB) := rfl
end Go.Proofs.YtgnhmpfoddfpdaaGreatDoor

/- AN ARGUMENT THAT IS A SLICE OF STRINGS, opened, its strings' sizes out of the row's reach. -/
namespace Go.Proofs.YtgnhmpfoddfpdaaGreatDoor
open Go.ChangeShapes Go.WideShapes Go.ChangeAt Go.RowKit

theorem bstr_data (s : ByteArray) : bstr s.data.toList = s := by obtain ⟨⟨l⟩⟩ := s; rfl
theorem cells_str : Tryz.prog.cellsOf 9 = 1 := by kernel_rfl
theorem weights_strs {H : Type} {P : Program} {e : TypeId} (ss : List ByteArray) (s : ByteArray) (h : s ∈ ss) : s.data.toList.length ∈ DataW.weightsAll P e (strs ss : List (DataW H)) := by
  induction ss with
  | nil => cases h
  | cons q ss ih =>
    show _ ∈ DataW.weights P e (.lit (.string q.data.toList)) ++ DataW.weightsAll P e (strs ss)
    rcases List.mem_cons.1 h with rfl | h
    · exact List.mem_append_left _ (by simp [DataW.weights])
    · exact List.mem_append_right _ (ih h)
end Go.Proofs.YtgnhmpfoddfpdaaGreatDoor

/- LAYER 16: the document's Rise. -/
namespace Go.Proofs.YtgnhmpfoddfpdaaGreatDoor
set_option maxRecDepth 100000
open Go Go.RowKit

theorem okAt_zero (l : List (List UInt8)) (i : Nat) (h : i = 0) : okAt l i = name16 (l.getD i []) := by
  subst h
  unfold okAt
  simp
theorem okAt_pos (l : List (List UInt8)) (i : Nat) (h : 0 < i) : okAt l i = (name16 (l.getD i []) && Op.bytesLess (l.getD (i - 1) []) (l.getD i [])) := by
  unfold okAt
  rw [decide_eq_false (by omega : ¬ i = 0), Bool.false_or]
theorem okAt_next (l : List (List UInt8)) (k : Nat) (h : ∀ j < k, okAt l j = true) (hk : okAt l k = true) : ∀ j < k + 1, okAt l j = true := by
  intro j hj
  rcases Nat.lt_succ_iff_lt_or_eq.1 hj with h1 | h1
  · exact h j h1
  · rw [h1]; exact hk
end Go.Proofs.YtgnhmpfoddfpdaaGreatDoor

/- LAYER 16: the document's Names, Join. -/
namespace Go.Proofs.YtgnhmpfoddfpdaaGreatDoor
set_option maxRecDepth 100000
open Go Go.RowKit

/-- What a row of strings that may be none answers: the row and whether. -/
def GaveRow (o : Option (List (List UInt8))) (w : World) (e : Ending) (w' : World) : Prop :=
  ∃ (A : Option Addr) (c : Nat), e = .returned (.tuple #[.slice A (o.getD []).length c, .bool o.isSome]) ∧ Sl w' A c (strsV (o.getD [])) ∧ Below w.heap.size w w'
theorem sl_none16 (w : World) : Sl w none 0 (strsV []) := ⟨.inl (by simp [strsV]), by simp [strsV], fun _ => rfl⟩
theorem glue_len (x : UInt8) (l : List (List UInt8)) : (glueL x l).length ≤ sumS l := by
  induction l with
  | nil => exact Nat.zero_le _
  | cons p ps ih =>
    by_cases he : ps = []
    · subst he
      show p.length ≤ _
      unfold sumS; simp
    · rw [glueL_cons x p ps he, List.length_append, List.length_cons]
      have e : sumS (p :: ps) = (p.length + 1) + sumS ps := by unfold sumS; simp
      omega
end Go.Proofs.YtgnhmpfoddfpdaaGreatDoor

/- LAYER 15: how two numbers with a point stand to each other, by their bits. No Go function is spoken of here. -/
namespace Go.Proofs.YtgnhmpfoddfpdaaGreatDoor
set_option maxRecDepth 100000
open Go Go.RowKit

/-- Where a number stands among all. -/
def rankC (b : Nat) : Int := if negC b then -(magC b : Int) else (magC b : Int)
theorem cmp_congr {x y u v : Int} (h1 : x < y ↔ u < v) (h2 : x = y ↔ u = v) : compare x y = compare u v := by
  show compareOfLessAndEq x y = compareOfLessAndEq u v
  unfold compareOfLessAndEq
  by_cases a : x < y
  · rw [if_pos a, if_pos (h1.1 a)]
  · rw [if_neg a, if_neg (fun h => a (h1.2 h))]
    by_cases b : x = y
    · rw [if_pos b, if_pos (h2.1 b)]
    · rw [if_neg b, if_neg (fun h => b (h2.2 h))]
theorem cmp_lt {x y : Int} (h : x < y) : compare x y = .lt := by
  show compareOfLessAndEq x y = .lt
  unfold compareOfLessAndEq
  rw [if_pos h]
theorem cmp_gt {x y : Int} (h : y < x) : compare x y = .gt := by
  show compareOfLessAndEq x y = .gt
  unfold compareOfLessAndEq
  rw [if_neg (by omega), if_neg (by omega)]
/-- Greater bits, a greater number. -/
theorem sig_mono (a b : Nat) (base : Int) (ha : base ≤ powC a) (hb : base ≤ powC b) (h : a < b) : sigC a * 2 ^ (powC a - base).toNat < sigC b * 2 ^ (powC b - base).toNat := by
  have hP : powC a ≤ powC b := by unfold powC; split <;> split <;> omega
  obtain ⟨k, hk⟩ : ∃ k, k = (powC b - powC a).toNat := ⟨_, rfl⟩
  have e : (powC b - base).toNat = (powC a - base).toNat + k := by omega
  rw [e, Nat.pow_add, ← Nat.mul_assoc, Nat.mul_right_comm]
  refine Nat.mul_lt_mul_of_pos_right ?_ (Nat.pow_pos (by omega))
  by_cases h0 : k = 0
  · subst h0
    rw [Nat.pow_zero, Nat.mul_one]
    have hE : powC a = powC b := by omega
    unfold powC at hE
    unfold sigC
    split at hE <;> split at hE <;> (try split) <;> (try split) <;> omega
  · have h2 : 2 ≤ 2 ^ k := by
      have : 2 ^ 1 ≤ 2 ^ k := Nat.pow_le_pow_right (by omega) (by omega)
      omega
    have hb52 : 2 ^ 52 ≤ sigC b := by
      unfold sigC
      split
      · omega
      · exfalso
        unfold powC at hk hP
        split at hk <;> split at hP <;> omega
    have ha53 : sigC a < 2 ^ 53 := by unfold sigC; split <;> omega
    have : 2 ^ 52 * 2 ≤ sigC b * 2 ^ k := Nat.mul_le_mul hb52 h2
    omega
theorem sig_mono_iff (a b : Nat) (base : Int) (ha : base ≤ powC a) (hb : base ≤ powC b) : (sigC a * 2 ^ (powC a - base).toNat < sigC b * 2 ^ (powC b - base).toNat ↔ a < b) ∧ (sigC a * 2 ^ (powC a - base).toNat = sigC b * 2 ^ (powC b - base).toNat ↔ a = b) := by
  rcases Nat.lt_trichotomy a b with h | h | h
  · have := sig_mono a b base ha hb h
    exact ⟨⟨fun _ => h, fun _ => this⟩, ⟨fun e => by omega, fun e => by omega⟩⟩
  · subst h
    exact ⟨⟨fun e => by omega, fun e => by omega⟩, ⟨fun _ => rfl, fun _ => rfl⟩⟩
  · have := sig_mono b a base hb ha h
    exact ⟨⟨fun e => by omega, fun e => by omega⟩, ⟨fun e => by omega, fun e => by omega⟩⟩
theorem read_fin (b : Nat) (hb : b < 2 ^ 64) (h : magC b < 2047 * 2 ^ 52) : Ieee.double.read b = .number (negC b) (sigC (magC b)) (powC (magC b)) := by
  have hs : Ieee.double.signWeight = 2 ^ 63 := rfl
  have hbi : Ieee.double.binade = 2 ^ 52 := rfl
  have hin : Ieee.double.infRung = 2047 * 2 ^ 52 := rfl
  have hl : Ieee.double.leastPlace = -1074 := rfl
  have hn : (b / 2 ^ 63 % 2 == 1) = negC b := by
    unfold negC
    rw [show b / 2 ^ 63 % 2 = b / 2 ^ 63 by omega]
    exact (Bool.eq_iff_iff).2 (by rw [beq_iff_eq, decide_eq_true_iff])
  unfold Ieee.Format.read
  simp only [hs, hbi, hin, hl, hn]
  show (if magC b < 2 ^ 52 then _ else if magC b < 2047 * 2 ^ 52 then _ else _) = _
  unfold sigC powC
  by_cases h52 : magC b < 2 ^ 52
  · rw [if_pos h52, if_neg (by omega), if_neg (by omega)]
    congr 1
    show magC b = _
    omega
  · rw [if_neg h52, if_pos h, if_pos (by omega), if_pos (by omega)]
    show Ieee.Datum.number _ (2 ^ 52 + magC b % 2 ^ 52) (-1074 + ((magC b / 2 ^ 52 - 1 : Nat) : Int)) = _
    congr 1 <;> omega
theorem read_inf (b : Nat) (hb : b < 2 ^ 64) (h : magC b = 2047 * 2 ^ 52) : Ieee.double.read b = .infinity (negC b) := by
  have hs : Ieee.double.signWeight = 2 ^ 63 := rfl
  have hbi : Ieee.double.binade = 2 ^ 52 := rfl
  have hin : Ieee.double.infRung = 2047 * 2 ^ 52 := rfl
  have hn : (b / 2 ^ 63 % 2 == 1) = negC b := by
    unfold negC
    rw [show b / 2 ^ 63 % 2 = b / 2 ^ 63 by omega]
    exact (Bool.eq_iff_iff).2 (by rw [beq_iff_eq, decide_eq_true_iff])
  unfold Ieee.Format.read
  simp only [hs, hbi, hin, hn]
  show (if magC b < 2 ^ 52 then _ else if magC b < 2047 * 2 ^ 52 then _ else if magC b = 2047 * 2 ^ 52 then _ else _) = _
  rw [if_neg (by omega), if_neg (by omega), if_pos h]
theorem read_nan (b : Nat) (h : nanC b = true) : ∃ s f, Ieee.double.read b = .nan s f := by
  have h := of_decide_eq_true (show decide (2047 * 2 ^ 52 < magC b) = true from h)
  have hs : Ieee.double.signWeight = 2 ^ 63 := rfl
  have hbi : Ieee.double.binade = 2 ^ 52 := rfl
  have hin : Ieee.double.infRung = 2047 * 2 ^ 52 := rfl
  unfold Ieee.Format.read
  simp only [hs, hbi, hin]
  refine ⟨b / 2 ^ 63 % 2 == 1, magC b - 2047 * 2 ^ 52, ?_⟩
  show (if magC b < 2 ^ 52 then _ else if magC b < 2047 * 2 ^ 52 then _ else if magC b = 2047 * 2 ^ 52 then _ else _) = _
  rw [if_neg (by omega), if_neg (by omega), if_neg (by omega)]; rfl
theorem shl (m k : Nat) : m <<< k = m * 2 ^ k := Nat.shiftLeft_eq m k
theorem sig_zero (a : Nat) : sigC a = 0 ↔ a = 0 := by
  unfold sigC; split <;> omega
/-- How two numbers stand to each other, by their bits as numbers that rise; none, if one is none. -/
theorem order_rank (a b : Nat) (ha : a < 2 ^ 64) (hb : b < 2 ^ 64) : Ieee.double.order a b = if nanC a = true ∨ nanC b = true then none else some (compare (rankC a) (rankC b)) := by
  unfold Ieee.Format.order
  by_cases na : nanC a = true
  · obtain ⟨s, f, e⟩ := read_nan a na
    rw [e, if_pos (.inl na)]
    cases Ieee.double.read b <;> rfl
  · by_cases nb : nanC b = true
    · obtain ⟨s, f, e⟩ := read_nan b nb
      rw [e, if_pos (.inr nb)]
      cases Ieee.double.read a <;> rfl
    · rw [if_neg (by rintro (h | h); exact na h; exact nb h)]
      have la : magC a ≤ 2047 * 2 ^ 52 := by
        have : ¬ 2047 * 2 ^ 52 < magC a := fun h => na (decide_eq_true h)
        omega
      have lb : magC b ≤ 2047 * 2 ^ 52 := by
        have : ¬ 2047 * 2 ^ 52 < magC b := fun h => nb (decide_eq_true h)
        omega
      by_cases ia : magC a = 2047 * 2 ^ 52
      · rw [read_inf a ha ia]
        by_cases ib : magC b = 2047 * 2 ^ 52
        · rw [read_inf b hb ib]
          unfold rankC
          rw [ia, ib]
          cases negC a <;> cases negC b <;> rfl
        · rw [read_fin b hb (by omega)]
          unfold rankC
          show some (if negC a = true then Ordering.lt else Ordering.gt) = _
          congr 1
          cases negC a <;> cases negC b <;> simp only [Bool.false_eq_true, if_true, if_false]
          all_goals first
            | exact (cmp_gt (by omega)).symm
            | exact (cmp_lt (by omega)).symm
      · rw [read_fin a ha (by omega)]
        by_cases ib : magC b = 2047 * 2 ^ 52
        · rw [read_inf b hb ib]
          unfold rankC
          show some (if negC b = true then Ordering.gt else Ordering.lt) = _
          congr 1
          cases negC a <;> cases negC b <;> simp only [Bool.false_eq_true, if_true, if_false]
          all_goals first
            | exact (cmp_gt (by omega)).symm
            | exact (cmp_lt (by omega)).symm
        · rw [read_fin b hb (by omega)]
          obtain ⟨m1, m2⟩ := sig_mono_iff (magC a) (magC b) (min (powC (magC a)) (powC (magC b))) (by omega) (by omega)
          have z1 : sigC (magC a) * 2 ^ (powC (magC a) - min (powC (magC a)) (powC (magC b))).toNat = 0 ↔ magC a = 0 := by
            rw [Nat.mul_eq_zero, sig_zero]
            exact ⟨fun h => h.elim id fun h => absurd h (Nat.ne_of_gt (Nat.pow_pos (by omega))), .inl⟩
          have z2 : sigC (magC b) * 2 ^ (powC (magC b) - min (powC (magC a)) (powC (magC b))).toNat = 0 ↔ magC b = 0 := by
            rw [Nat.mul_eq_zero, sig_zero]
            exact ⟨fun h => h.elim id fun h => absurd h (Nat.ne_of_gt (Nat.pow_pos (by omega))), .inl⟩
          show some (compare (Ieee.signed (negC a) (sigC (magC a)) _) (Ieee.signed (negC b) (sigC (magC b)) _)) = _
          congr 1
          unfold Ieee.signed rankC
          simp only [shl]
          generalize sigC (magC a) * 2 ^ (powC (magC a) - min (powC (magC a)) (powC (magC b))).toNat = A at *
          generalize sigC (magC b) * 2 ^ (powC (magC b) - min (powC (magC a)) (powC (magC b))).toNat = B at *
          generalize magC a = x at *
          generalize magC b = y at *
          cases negC a <;> cases negC b <;> simp only [Bool.false_eq_true, if_true, if_false]
          all_goals refine cmp_congr ?_ ?_
          all_goals constructor <;> intro h <;> omega
end Go.Proofs.YtgnhmpfoddfpdaaGreatDoor
