/- LAYER 5: package tag's Text: two digits of 16 for each byte. -/
import Derived.Test.YtbngnmhbnhpbeaaDoorTg
namespace Go.Proofs.YtbngnmhbnhpbeaaDoor
open Go Go.RowKit

/-- A number's digit of 16. -/
def hexD (n : Nat) : UInt8 := if n < 10 then UInt8.ofNat (48 + n) else UInt8.ofNat (87 + n)
def hex2 (x : UInt8) : List UInt8 := [hexD (x.toNat / 16), hexD (x.toNat % 16)]
/-- The digits of all bytes. -/
def hexL (t : List UInt8) : List UInt8 := t.flatMap hex2
theorem length_hexL (t : List UInt8) : (hexL t).length = 2 * t.length := by
  unfold hexL
  induction t with
  | nil => rfl
  | cons x t ih => rw [List.flatMap_cons, List.length_append, ih]; simp [hex2]; omega
theorem hexL_succ (t : List UInt8) (k : Nat) (h : k < t.length) : hexL (t.take (k + 1)) = hexL (t.take k) ++ hex2 (t.getD k 0) := by
  unfold hexL
  rw [List.take_add_one, List.flatMap_append]
  simp [h]
set_option maxRecDepth 100000 in
theorem digit_at (h : Nat) (hh : h < 16) (w : World) : (Instr.index 9 (.string { data := #[48, 49, 50, 51, 52, 53, 54, 55, 56, 57, 97, 98, 99, 100, 101, 102] }) (.int .u8 (h : Int))).run Tryd.prog w = .ok (.int .u8 ((hexD h).toNat : Int)) w := by
  have : h = 0 ∨ h = 1 ∨ h = 2 ∨ h = 3 ∨ h = 4 ∨ h = 5 ∨ h = 6 ∨ h = 7 ∨ h = 8 ∨ h = 9 ∨ h = 10 ∨ h = 11 ∨ h = 12 ∨ h = 13 ∨ h = 14 ∨ h = 15 := by omega
  clear hh
  rcases this with rfl | rfl | rfl | rfl | rfl | rfl | rfl | rfl | rfl | rfl | rfl | rfl | rfl | rfl | rfl | rfl <;> rfl
theorem u8_and15 (x : UInt8) : bits .and .u8 (x.toNat : Int) 15 = ((x.toNat % 16 : Nat) : Int) := by
  show IntKind.u8.wrap ((BitVec.ofInt 8 (x.toNat : Int) &&& BitVec.ofInt 8 15).toNat : Int) = _
  have e : BitVec.ofInt 8 (x.toNat : Int) = x.toBitVec := by show BitVec.ofInt 8 (x.toBitVec.toNat : Int) = x.toBitVec; simp
  rw [e, BitVec.toNat_and, show (BitVec.ofInt 8 15).toNat = 2 ^ 4 - 1 by decide, Nat.and_two_pow_sub_one_eq_mod, IntKind.wrap_u8]
  show (((x.toNat % 2 ^ 4 : Nat) : Int)) % 256 = _
  omega
theorem set_two (X rest : List Value) (n : Nat) (hn : X.length = n) (y z a b : Value) : ((X ++ y :: z :: rest).set n a).set (n + 1) b = (X ++ [a, b]) ++ rest := by
  subst hn
  rw [List.set_append_right _ _ (Nat.le_refl _), Nat.sub_self, List.set_cons_zero, List.set_append_right _ _ (by omega), show X.length + 1 - X.length = 1 by omega, List.set_cons_succ, List.set_cons_zero, List.append_assoc]
  rfl
end Go.Proofs.YtbngnmhbnhpbeaaDoor
