/- LAYER 12: addresses, as lists. No Go function is spoken of here. -/
import Derived.Test.YtbngnmhbnhpbeaaDoorTx
import Derived.Test.YtbngnmhbnhpbeaaDoorSs
namespace Go.Proofs.YtbngnmhbnhpbeaaDoor
open Go Go.RowKit

/-- A number's digits: fuel, base, number. -/
def numF : Nat → Nat → Nat → List UInt8
  | 0, _, n => [hexD n]
  | k + 1, b, n => if n < b then [hexD n] else numF k b (n / b) ++ [hexD (n % b)]
def numL (b n : Nat) : List UInt8 := numF n b n
theorem numF_fuel (b : Nat) (hb : 2 ≤ b) : ∀ (k n : Nat), n ≤ k → numF k b n = numL b n := by
  intro k
  induction k using Nat.strongRecOn with
  | _ k ih =>
    intro n hk
    cases k with
    | zero => obtain rfl : n = 0 := by omega
              rfl
    | succ k =>
      unfold numL
      cases n with
      | zero => show (if 0 < b then [hexD 0] else _) = [hexD 0]; rw [if_pos (by omega)]
      | succ n =>
        rw [numF, numF]
        by_cases h : n + 1 < b
        · rw [if_pos h, if_pos h]
        · rw [if_neg h, if_neg h]
          have hd : (n + 1) / b ≤ n := by
            have : (n + 1) / b < n + 1 := Nat.div_lt_self (by omega) (by omega)
            omega
          rw [ih k (by omega) _ (by omega), ih n (by omega) _ hd]
theorem numL_small (b n : Nat) (h : n < b) : numL b n = [hexD n] := by
  unfold numL
  cases n with
  | zero => rfl
  | succ n => rw [numF, if_pos h]
theorem numL_great (b n : Nat) (hb : 2 ≤ b) (h : b ≤ n) : numL b n = numL b (n / b) ++ [hexD (n % b)] := by
  have hn : n = (n - 1) + 1 := by omega
  have hd : n / b < n := Nat.div_lt_self (by omega) (by omega)
  unfold numL
  rw [hn, numF, if_neg (by omega), ← hn, numF_fuel b hb (n - 1) (n / b) (by omega)]
  rfl
theorem numL_ne (b n : Nat) : numL b n ≠ [] := by
  unfold numL
  cases n with
  | zero => simp [numF]
  | succ n => rw [numF]; split <;> simp
theorem numL_pos (b n : Nat) : 0 < (numL b n).length := List.length_pos_iff.2 (numL_ne b n)
/-- How many digits a number has, at most. -/
theorem numL_len (b : Nat) (hb : 2 ≤ b) : ∀ (k n : Nat), n < b ^ (k + 1) → (numL b n).length ≤ k + 1 := by
  intro k
  induction k with
  | zero => intro n h; rw [numL_small b n (by simpa using h)]; simp
  | succ k ih =>
    intro n h
    by_cases hs : n < b
    · rw [numL_small b n hs]; simp
    · rw [numL_great b n hb (by omega), List.length_append]
      have : n / b < b ^ (k + 1) := Nat.div_lt_of_lt_mul (by rw [Nat.pow_succ] at h; rwa [Nat.mul_comm])
      have := ih _ this
      simp; omega
/-- How many of some numbers are 0, in a row, from the first. -/
def zerosL : List Nat → Nat
  | [] => 0
  | n :: l => if n = 0 then zerosL l + 1 else 0
theorem zerosL_le (l : List Nat) : zerosL l ≤ l.length := by
  induction l with
  | nil => exact Nat.le_refl _
  | cons n l ih => rw [zerosL]; split <;> simp <;> omega
theorem zerosL_all (l : List Nat) (k : Nat) (h : k ≤ l.length) (hz : ∀ j, j < k → l.getD j 1 = 0) : k + zerosL (l.drop k) = zerosL l := by
  induction k generalizing l with
  | zero => simp
  | succ k ih =>
    cases l with
    | nil => simp at h
    | cons n l =>
      have h0 : n = 0 := hz 0 (by omega)
      rw [List.drop_succ_cons, zerosL, if_pos h0]
      have := ih l (by simpa using h) (fun j hj => hz (j + 1) (by omega))
      omega
/-- Numbers' digits, with colons between. -/
def joinN : List Nat → List UInt8
  | [] => []
  | [n] => numL 16 n
  | n :: m :: l => numL 16 n ++ 58 :: joinN (m :: l)
theorem joinN_snoc (l : List Nat) (n : Nat) : joinN (l ++ [n]) = (if l = [] then numL 16 n else joinN l ++ 58 :: numL 16 n) := by
  induction l with
  | nil => rfl
  | cons m l ih =>
    cases l with
    | nil => rfl
    | cons q l =>
      rw [if_neg (by simp)] at ih ⊢
      show numL 16 m ++ 58 :: joinN ((q :: l) ++ [n]) = _
      rw [ih]
      show _ = (numL 16 m ++ 58 :: joinN (q :: l)) ++ 58 :: numL 16 n
      simp
/-- An address. -/
structure Adr where
  v6 : Bool
  b : List UInt8
def Adr.Ok (a : Adr) : Prop := a.b.length = 16
def adrV (a : Adr) : List Value := .bool a.v6 :: byts a.b
theorem length_adrV {a : Adr} (h : a.Ok) : (adrV a).length = 17 := by unfold adrV; rw [List.length_cons, length_byts, h]
theorem adrV_one (a : Adr) : ∀ v ∈ adrV a, v.oneCell' = true := by
  intro v hv
  rcases List.mem_cons.1 hv with rfl | hv
  · rfl
  · obtain ⟨_, _, rfl⟩ := List.mem_map.1 hv; rfl
def checkA (a : Adr) : Bool := a.v6 || (a.b.drop 4).all (· == 0)
/-- The eight numbers of an address. -/
def numsA (a : Adr) : List Nat := (List.range 8).map fun i => (a.b.getD (2 * i) 0).toNat * 256 + (a.b.getD (2 * i + 1) 0).toNat
/-- Where the row of noughts lies that is written '::': the first of the longest. -/
def bestL (l : List Nat) : Nat := (List.range l.length).foldl (fun best i => if zerosL (l.drop i) > zerosL (l.drop best) then i else best) 0
def textN (l : List Nat) : List UInt8 :=
  let best := bestL l
  let n := zerosL (l.drop best)
  if n < 2 then joinN l else joinN (l.take best) ++ 58 :: 58 :: joinN (l.drop (best + n))
def textA (a : Adr) : List UInt8 :=
  if checkA a then
    if a.v6 then textN (numsA a)
    else numL 10 (a.b.getD 0 0).toNat ++ 46 :: numL 10 (a.b.getD 1 0).toNat ++ 46 :: numL 10 (a.b.getD 2 0).toNat ++ 46 :: numL 10 (a.b.getD 3 0).toNat
  else []
end Go.Proofs.YtbngnmhbnhpbeaaDoor
