/- A number's digits, read back: lists (layers 12, 13, 15, 16). No Go function is spoken of here. -/
import Derived.Test.YtbngnmhbnhpbeaaDoorIl
namespace Go.Proofs.YtbngnmhbnhpbeaaDoor
set_option maxRecDepth 100000
open Go Go.RowKit

def digI (b : Nat) (c : UInt8) : Int := (List.range b).foldl (fun d j => if hexD j = c then (j : Int) else d) (-1)
theorem digI_succ (b : Nat) (c : UInt8) : digI (b + 1) c = if hexD b = c then (b : Int) else digI b c := by
  unfold digI
  rw [List.range_succ, List.foldl_append]; rfl
theorem digI_bd (b : Nat) (c : UInt8) : -1 ≤ digI b c ∧ digI b c < b := by
  induction b with
  | zero => exact ⟨by show (-1 : Int) ≤ -1; omega, by show (-1 : Int) < _; omega⟩
  | succ b ih => rw [digI_succ]; split <;> omega
theorem digI_hex (b : Nat) (c : UInt8) (h : 0 ≤ digI b c) : hexD (digI b c).toNat = c := by
  induction b with
  | zero => exact absurd h (by show ¬ (0 : Int) ≤ -1; omega)
  | succ b ih =>
    rw [digI_succ] at h ⊢
    split
    · rename_i e; simpa using e
    · rename_i e; rw [if_neg e] at h; exact ih h
def foldV (b : Nat) : Nat → List UInt8 → Option Nat
  | n, [] => some n
  | n, c :: s => if digI b c < 0 then none else foldV b (n * b + (digI b c).toNat) s
def optI : Option Nat → Int
  | none => -1
  | some n => n
def valueL (b most : Nat) (s : List UInt8) : Option Nat :=
  if s.length = 0 ∨ most < s.length then none
  else match foldV b 0 s with
    | none => none
    | some n => if numL b n = s then some n else none
theorem foldV_at (b n k : Nat) (s : List UInt8) (h : k < s.length) : foldV b n (s.drop k) = if digI b (s.getD k 0) < 0 then none else foldV b (n * b + (digI b (s.getD k 0)).toNat) (s.drop (k + 1)) := by
  rw [List.drop_eq_getElem_cons h, foldV, List.getD_eq_getElem?_getD, List.getElem?_eq_getElem h]; rfl
theorem hexD_inj : ∀ i j : Nat, i < 16 → j < 16 → hexD i = hexD j → i = j := by
  have h : ∀ i j : Fin 16, hexD i.1 = hexD j.1 → i = j := by decide
  intro i j hi hj he
  exact congrArg Fin.val (h ⟨i, hi⟩ ⟨j, hj⟩ he)
theorem hexD_sign : ∀ i : Nat, i < 16 → hexD i ≠ 46 ∧ hexD i ≠ 58 := by
  have h : ∀ i : Fin 16, hexD i.1 ≠ 46 ∧ hexD i.1 ≠ 58 := by decide
  intro i hi
  exact h ⟨i, hi⟩
theorem digI_hexD (b d : Nat) (hb : b ≤ 16) (hd : d < b) : digI b (hexD d) = d := by
  induction b with
  | zero => omega
  | succ b ih =>
    rw [digI_succ]
    by_cases h : d = b
    · rw [if_pos (by rw [h]), h]
    · rw [if_neg (fun e => h (hexD_inj d b (by omega) (by omega) e.symm)), ih (by omega) (by omega)]
theorem foldV_append (b : Nat) (s t : List UInt8) : ∀ n, foldV b n (s ++ t) = (foldV b n s).bind fun m => foldV b m t := by
  induction s with
  | nil => intro n; rfl
  | cons c s ih =>
    intro n
    rw [List.cons_append, foldV, foldV]
    split
    · rfl
    · exact ih _
theorem foldV_one (b n d : Nat) (hb : b ≤ 16) (hd : d < b) : foldV b n [hexD d] = some (n * b + d) := by
  rw [foldV, digI_hexD b d hb hd, if_neg (by omega)]; rfl
theorem foldV_num (b : Nat) (h2 : 2 ≤ b) (hb : b ≤ 16) (n : Nat) : foldV b 0 (numL b n) = some n := by
  induction n using Nat.strongRecOn with
  | _ n ih =>
    by_cases h : n < b
    · rw [numL_small b n h, foldV_one b 0 n hb h]; simp
    · rw [numL_great b n h2 (by omega), foldV_append, ih (n / b) (Nat.div_lt_self (by omega) (by omega))]
      show foldV b (n / b) [hexD (n % b)] = _
      rw [foldV_one b _ _ hb (Nat.mod_lt _ (by omega)), Nat.mul_comm, Nat.div_add_mod]
theorem valueL_iff (b most : Nat) (h2 : 2 ≤ b) (hb : b ≤ 16) (p : List UInt8) (n : Nat) : valueL b most p = some n ↔ numL b n = p ∧ p.length ≤ most := by
  unfold valueL
  constructor
  · intro h
    by_cases hbad : p.length = 0 ∨ most < p.length
    · rw [if_pos hbad] at h; cases h
    · rw [if_neg hbad] at h
      cases hf : foldV b 0 p with
      | none => rw [hf] at h; cases h
      | some m =>
        rw [hf] at h
        by_cases he : numL b m = p
        · simp only [if_pos he] at h
          cases h
          exact ⟨he, by omega⟩
        · simp only [if_neg he] at h; cases h
  · rintro ⟨rfl, hl⟩
    have hp := numL_pos b n
    rw [if_neg (by omega), foldV_num b h2 hb]
    simp
theorem numL_sign (b n : Nat) (h2 : 2 ≤ b) (hb : b ≤ 16) : ∀ c ∈ numL b n, c ≠ 46 ∧ c ≠ 58 := by
  induction n using Nat.strongRecOn with
  | _ n ih =>
    by_cases h : n < b
    · rw [numL_small b n h]
      intro c hc
      rw [List.mem_singleton.1 hc]
      exact hexD_sign n (by omega)
    · rw [numL_great b n h2 (by omega)]
      intro c hc
      rcases List.mem_append.1 hc with h1 | h1
      · exact ih (n / b) (Nat.div_lt_self (by omega) (by omega)) c h1
      · rw [List.mem_singleton.1 h1]
        exact hexD_sign _ (Nat.lt_of_lt_of_le (Nat.mod_lt _ (by omega)) hb)
theorem numL_inj (b m n : Nat) (h2 : 2 ≤ b) (hb : b ≤ 16) (h : numL b m = numL b n) : m = n := by
  have h1 := foldV_num b h2 hb m
  rw [h, foldV_num b h2 hb n] at h1
  exact (Option.some.inj h1).symm
end Go.Proofs.YtbngnmhbnhpbeaaDoor
