/- LAYER 12: lists: a number's digits read back; pieces joined and split. No Go function is spoken of here. -/
import Derived.Test.YtflebnbpoboljaaDoorIx
namespace Go.Proofs.YtflebnbpoboljaaDoor
set_option maxRecDepth 100000
open Go Go.RowKit

theorem hexD_inj : ∀ i j : Nat, i < 16 → j < 16 → hexD i = hexD j → i = j := by
  have h : ∀ i j : Fin 16, hexD i.1 = hexD j.1 → i = j := by decide
  intro i j hi hj he
  exact congrArg Fin.val (h ⟨i, hi⟩ ⟨j, hj⟩ he)
theorem hexD_sign : ∀ i : Nat, i < 16 → hexD i ≠ 46 ∧ hexD i ≠ 58 := by
  have h : ∀ i : Fin 16, hexD i.1 ≠ 46 ∧ hexD i.1 ≠ 58 := by decide
  intro i hi
  exact h ⟨i, hi⟩
theorem digI_hexD (b d : Nat) (hb : b ≤ 16) (hd : d < b) : digI b (hexD d) = d := by
  induction b with
  | zero => omega
  | succ b ih =>
    rw [digI_succ]
    by_cases h : d = b
    · rw [if_pos (by rw [h]), h]
    · rw [if_neg (fun e => h (hexD_inj d b (by omega) (by omega) e.symm)), ih (by omega) (by omega)]
theorem foldV_append (b : Nat) (s t : List UInt8) : ∀ n, foldV b n (s ++ t) = (foldV b n s).bind fun m => foldV b m t := by
  induction s with
  | nil => intro n; rfl
  | cons c s ih =>
    intro n
    rw [List.cons_append, foldV, foldV]
    split
    · rfl
    · exact ih _
theorem foldV_one (b n d : Nat) (hb : b ≤ 16) (hd : d < b) : foldV b n [hexD d] = some (n * b + d) := by
  rw [foldV, digI_hexD b d hb hd, if_neg (by omega)]; rfl
theorem foldV_num (b : Nat) (h2 : 2 ≤ b) (hb : b ≤ 16) (n : Nat) : foldV b 0 (numL b n) = some n := by
  induction n using Nat.strongRecOn with
  | _ n ih =>
    by_cases h : n < b
    · rw [numL_small b n h, foldV_one b 0 n hb h]; simp
    · rw [numL_great b n h2 (by omega), foldV_append, ih (n / b) (Nat.div_lt_self (by omega) (by omega))]
      show foldV b (n / b) [hexD (n % b)] = _
      rw [foldV_one b _ _ hb (Nat.mod_lt _ (by omega)), Nat.mul_comm, Nat.div_add_mod]
theorem valueL_iff (b most : Nat) (h2 : 2 ≤ b) (hb : b ≤ 16) (p : List UInt8) (n : Nat) : valueL b most p = some n ↔ numL b n = p ∧ p.length ≤ most := by
  unfold valueL
  constructor
  · intro h
    by_cases hbad : p.length = 0 ∨ most < p.length
    · rw [if_pos hbad] at h; cases h
    · rw [if_neg hbad] at h
      cases hf : foldV b 0 p with
      | none => rw [hf] at h; cases h
      | some m =>
        rw [hf] at h
        by_cases he : numL b m = p
        · simp only [if_pos he] at h
          cases h
          exact ⟨he, by omega⟩
        · simp only [if_neg he] at h; cases h
  · rintro ⟨rfl, hl⟩
    have hp := numL_pos b n
    rw [if_neg (by omega), foldV_num b h2 hb]
    simp
theorem numL_sign (b n : Nat) (h2 : 2 ≤ b) (hb : b ≤ 16) : ∀ c ∈ numL b n, c ≠ 46 ∧ c ≠ 58 := by
  induction n using Nat.strongRecOn with
  | _ n ih =>
    by_cases h : n < b
    · rw [numL_small b n h]
      intro c hc
      rw [List.mem_singleton.1 hc]
      exact hexD_sign n (by omega)
    · rw [numL_great b n h2 (by omega)]
      intro c hc
      rcases List.mem_append.1 hc with h1 | h1
      · exact ih (n / b) (Nat.div_lt_self (by omega) (by omega)) c h1
      · rw [List.mem_singleton.1 h1]
        exact hexD_sign _ (Nat.lt_of_lt_of_le (Nat.mod_lt _ (by omega)) hb)
theorem numL_inj (b m n : Nat) (h2 : 2 ≤ b) (hb : b ≤ 16) (h : numL b m = numL b n) : m = n := by
  have h1 := foldV_num b h2 hb m
  rw [h, foldV_num b h2 hb n] at h1
  exact (Option.some.inj h1).symm
/-- Pieces, with a sign between. -/
def glueL (x : UInt8) : List (List UInt8) → List UInt8
  | [] => []
  | [p] => p
  | p :: q :: ps => p ++ x :: glueL x (q :: ps)
theorem glueL_cons (x : UInt8) (p : List UInt8) (ps : List (List UInt8)) (h : ps ≠ []) : glueL x (p :: ps) = p ++ x :: glueL x ps := by
  cases ps with
  | nil => exact absurd rfl h
  | cons q ps => rfl
theorem splitL_glue (x : UInt8) (ps : List (List UInt8)) (h : ps ≠ []) (hx : ∀ p ∈ ps, ∀ c ∈ p, c ≠ x) : splitL x (glueL x ps) = ps := by
  induction ps with
  | nil => exact absurd rfl h
  | cons p ps ih =>
    by_cases he : ps = []
    · subst he
      exact splitL_end x p (hx p (List.mem_cons_self ..))
    · rw [glueL_cons x p ps he, splitL_hit x p _ (hx p (List.mem_cons_self ..)), ih he (fun q hq => hx q (List.mem_cons_of_mem _ hq))]
theorem glueL_split (x : UInt8) (s : List UInt8) : glueL x (splitL x s) = s := by
  induction s with
  | nil => rfl
  | cons c s ih =>
    rw [splitL]
    split
    · rename_i h
      rw [glueL_cons x [] _ (splitL_ne x s), ih, h]; rfl
    · cases hsp : splitL x s with
      | nil => exact absurd hsp (splitL_ne x s)
      | cons p ps =>
        rw [hsp] at ih
        show glueL x ((c :: p) :: ps) = _
        by_cases he : ps = []
        · subst he
          show c :: p = _
          rw [show p = s from ih]
        · rw [glueL_cons x _ ps he]
          rw [glueL_cons x _ ps he] at ih
          rw [List.cons_append, ih]
theorem joinN_glue (l : List Nat) : joinN l = glueL 58 (l.map (numL 16)) := by
  induction l with
  | nil => rfl
  | cons n l ih =>
    cases l with
    | nil => rfl
    | cons m l =>
      show numL 16 n ++ 58 :: joinN (m :: l) = _
      rw [ih]; rfl
theorem goL_iff (b dg most : Nat) (h2 : 2 ≤ b) (hb : b ≤ 16) (ps : List (List UInt8)) (l : List Nat) :
    goL b dg most ps = some l ↔ l.map (numL b) = ps ∧ ∀ n ∈ l, n ≤ most ∧ (numL b n).length ≤ dg := by
  induction ps generalizing l with
  | nil =>
    rw [goL]
    constructor
    · intro h; cases h; exact ⟨rfl, by simp⟩
    · rintro ⟨h, _⟩; rw [List.map_eq_nil_iff.1 h]
  | cons p ps ih =>
    rw [goL]
    constructor
    · intro h
      cases hv : valueL b dg p with
      | none => rw [hv] at h; cases h
      | some n =>
        rw [hv] at h
        obtain ⟨h1, h3⟩ := (valueL_iff b dg h2 hb p n).1 hv
        by_cases hm : most < n
        · simp only [if_pos hm] at h; cases h
        · simp only [if_neg hm] at h
          obtain ⟨t, ht, rfl⟩ := Option.map_eq_some_iff.1 h
          obtain ⟨h4, h5⟩ := (ih t).1 ht
          refine ⟨by rw [List.map_cons, h1, h4], ?_⟩
          intro q hq
          rcases List.mem_cons.1 hq with rfl | hq
          · exact ⟨by omega, by rw [h1]; exact h3⟩
          · exact h5 q hq
    · rintro ⟨h, hall⟩
      cases l with
      | nil => simp at h
      | cons n t =>
        rw [List.map_cons, List.cons.injEq] at h
        have hn := hall n (List.mem_cons_self ..)
        rw [(valueL_iff b dg h2 hb p n).2 ⟨h.1, by rw [← h.1]; exact hn.2⟩]
        simp only [if_neg (show ¬ most < n by omega)]
        rw [(ih t).2 ⟨h.2, fun q hq => hall q (List.mem_cons_of_mem _ hq)⟩]; rfl
/-- What a text's numbers are: the text is those numbers' digits, with the sign between. -/
theorem numbersL_iff (b dg most : Nat) (x : UInt8) (h2 : 2 ≤ b) (hb : b ≤ 16) (hx : x = 46 ∨ x = 58) (s : List UInt8) (l : List Nat) :
    numbersL b dg most x s = some l ↔ s = glueL x (l.map (numL b)) ∧ ∀ n ∈ l, n ≤ most ∧ (numL b n).length ≤ dg := by
  unfold numbersL
  by_cases h0 : s = []
  · rw [if_pos h0, h0]
    constructor
    · intro h; cases h; exact ⟨rfl, by simp⟩
    · rintro ⟨h, _⟩
      cases l with
      | nil => rfl
      | cons n t =>
        have hp := numL_ne b n
        cases t with
        | nil => exact absurd h.symm hp
        | cons m t =>
          have := congrArg List.length h
          simp [glueL] at this
  · rw [if_neg h0, goL_iff b dg most h2 hb]
    constructor
    · rintro ⟨h, hall⟩
      exact ⟨by rw [h, glueL_split], hall⟩
    · rintro ⟨h, hall⟩
      refine ⟨?_, hall⟩
      have hl : l ≠ [] := by
        rintro rfl
        exact h0 h
      rw [h, splitL_glue x _ (by simpa using hl)]
      intro p hp c hc
      obtain ⟨n, _, rfl⟩ := List.mem_map.1 hp
      have := numL_sign b n h2 hb c hc
      rcases hx with rfl | rfl
      · exact this.1
      · exact this.2
end Go.Proofs.YtflebnbpoboljaaDoor
