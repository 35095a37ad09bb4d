/- LAYER 5: package tag: bytes held against each other; 32 bytes as a tag. -/
import Derived.Test.YtbngnmhbnhpbeaaDoorB1
import Derived.Test.YtbngnmhbnhpbeaaDoorMw
import Derived.Test.YtbngnmhbnhpbeaaDoorS
namespace Go.Proofs.YtbngnmhbnhpbeaaDoor
open Go Go.RowKit

/-! ### Numbers of 64 bits that are none below 0 -/
theorem ofInt64 (a : Nat) : BitVec.ofInt 64 (a : Int) = BitVec.ofNat 64 a := by simp
theorem nat_xor (a b : Nat) (ha : a < 9223372036854775808) (hb : b < 9223372036854775808) : bits .xor .i64 (a : Int) (b : Int) = ((a ^^^ b : Nat) : Int) := by
  show IntKind.i64.wrap ((BitVec.ofInt 64 (a : Int) ^^^ BitVec.ofInt 64 (b : Int)).toNat : Int) = _
  have h : a ^^^ b < 2 ^ 63 := Nat.xor_lt_two_pow (by omega) (by omega)
  rw [ofInt64, ofInt64, BitVec.toNat_xor, BitVec.toNat_ofNat, BitVec.toNat_ofNat, Nat.mod_eq_of_lt (by omega), Nat.mod_eq_of_lt (by omega), IntKind.wrap_i64]
  omega
theorem nat_or (a b : Nat) (ha : a < 9223372036854775808) (hb : b < 9223372036854775808) : bits .or .i64 (a : Int) (b : Int) = ((a ||| b : Nat) : Int) := by
  show IntKind.i64.wrap ((BitVec.ofInt 64 (a : Int) ||| BitVec.ofInt 64 (b : Int)).toNat : Int) = _
  have h : a ||| b < 2 ^ 63 := Nat.or_lt_two_pow (by omega) (by omega)
  rw [ofInt64, ofInt64, BitVec.toNat_or, BitVec.toNat_ofNat, BitVec.toNat_ofNat, Nat.mod_eq_of_lt (by omega), Nat.mod_eq_of_lt (by omega), IntKind.wrap_i64]
  omega

/-! ### Bytes held against each other -/
/-- What has been found unlike behind j bytes. -/
def unlikeL (l k : List UInt8) : Nat → Nat
  | 0 => l.length ^^^ k.length
  | j + 1 => unlikeL l k j ||| (l.getD j 0 ^^^ k.getD j 0).toNat
theorem unlike_lt (l k : List UInt8) (hl : l.length < 9223372036854775808) (hk : k.length < 9223372036854775808) (j : Nat) : unlikeL l k j < 9223372036854775808 := by
  induction j with
  | zero =>
    show l.length ^^^ k.length < 2 ^ 63
    exact Nat.xor_lt_two_pow (by omega) (by omega)
  | succ j ih =>
    have := (l.getD j 0 ^^^ k.getD j 0).toNat_lt
    show unlikeL l k j ||| (l.getD j 0 ^^^ k.getD j 0).toNat < 2 ^ 63
    exact Nat.or_lt_two_pow (by omega) (by omega)
theorem or_zero (a b : Nat) : a ||| b = 0 ↔ a = 0 ∧ b = 0 := by
  constructor
  · intro h
    have h1 : a ≤ a ||| b := Nat.left_le_or
    have h2 : b ≤ a ||| b := Nat.right_le_or
    omega
  · rintro ⟨rfl, rfl⟩; rfl
theorem xor_zero (a b : Nat) : a ^^^ b = 0 ↔ a = b := by
  constructor
  · intro h
    apply Nat.eq_of_testBit_eq
    intro i
    have := congrArg (fun n => n.testBit i) h
    simpa using this
  · rintro rfl; exact Nat.xor_self _
theorem xor_zero8 (a b : UInt8) : (a ^^^ b).toNat = 0 ↔ a = b := by
  rw [← UInt8.xor_eq_zero_iff, ← UInt8.toNat_inj]; rfl
theorem unlike_zero (l k : List UInt8) (j : Nat) : unlikeL l k j = 0 ↔ l.length = k.length ∧ ∀ i, i < j → l.getD i 0 = k.getD i 0 := by
  induction j with
  | zero =>
    show l.length ^^^ k.length = 0 ↔ _
    rw [xor_zero]
    exact ⟨fun h => ⟨h, fun i hi => absurd hi (Nat.not_lt_zero _)⟩, fun h => h.1⟩
  | succ j ih =>
    show unlikeL l k j ||| (l.getD j 0 ^^^ k.getD j 0).toNat = 0 ↔ _
    rw [or_zero, ih, xor_zero8]
    constructor
    · rintro ⟨⟨h1, h2⟩, h3⟩
      refine ⟨h1, fun i hi => ?_⟩
      by_cases e : i = j
      · rw [e]; exact h3
      · exact h2 i (by omega)
    · rintro ⟨h1, h2⟩
      exact ⟨⟨h1, fun i hi => h2 i (by omega)⟩, h2 j (by omega)⟩
theorem unlike_end (l k : List UInt8) (j : Nat) (hl : l.length ≤ j) : decide (unlikeL l k j = 0) = decide (l = k) := by
  rw [decide_eq_decide, unlike_zero]
  constructor
  · rintro ⟨h1, h2⟩
    apply List.ext_getElem h1
    intro i h3 h4
    have := h2 i (by omega)
    simpa [h3, h4] using this
  · rintro rfl
    exact ⟨rfl, fun _ _ => rfl⟩
/-! ### 32 bytes as a tag -/
def zeroT : List UInt8 := List.replicate 32 0
theorem zero_cells : (List.replicate 32 (Value.int .u8 0)) = byts zeroT := by kernel_rfl
/-- What Of answers. -/
def ofT (l : List UInt8) : List UInt8 := if l.length = 32 then l else zeroT
def tagV (l : List UInt8) (ok : Bool) : Value := .tuple #[.agg (byts l).toArray, .bool ok]
theorem length_ofT (l : List UInt8) : (ofT l).length = 32 := by
  unfold ofT; split
  · assumption
  · rfl
end Go.Proofs.YtbngnmhbnhpbeaaDoor
