/- WORDS OF 32 BITS AS BIT VECTORS: how the model's integers of kind u32 are added, shifted, joined. No Go function is spoken of here. -/
import Derived.Test.YtbngnmhbnhpbeaaDoorRows
import Derived.Handy
import Derived.Lib.Hide
import Derived.WalkSpells
import Derived.WalkLawsBesides
namespace Go.Proofs.YtbngnmhbnhpbeaaDoor
open Go

def u (v : BitVec 32) : Int := (v.toNat : Int)
theorem u_bd (v : BitVec 32) : 0 ≤ u v ∧ u v < 4294967296 := by
  unfold u; have := v.isLt; omega
theorem u_mk {x : Int} (h0 : 0 ≤ x) (h1 : x < 4294967296) : ∃ v, x = u v := by
  refine ⟨BitVec.ofNat 32 x.toNat, ?_⟩
  unfold u; rw [BitVec.toNat_ofNat]; omega
theorem u_inj {a b : BitVec 32} : u a = u b ↔ a = b := by
  unfold u
  constructor
  · intro h; exact BitVec.eq_of_toNat_eq (by omega)
  · intro h; rw [h]
theorem u_toNat (v : BitVec 32) : (u v).toNat = v.toNat := rfl
theorem ofInt_u (v : BitVec 32) : BitVec.ofInt 32 (u v) = v := by
  unfold u; simp
theorem wrap_u (v : BitVec 32) : IntKind.u32.wrap (u v) = u v := by
  rw [IntKind.wrap_u32]; have := u_bd v; omega

@[go_sem] theorem u_and (a b : BitVec 32) : bits .and .u32 (u a) (u b) = u (a &&& b) := by
  show IntKind.u32.wrap ((BitVec.ofInt 32 (u a) &&& BitVec.ofInt 32 (u b)).toNat : Int) = _
  rw [ofInt_u, ofInt_u]; exact wrap_u _
@[go_sem] theorem u_or (a b : BitVec 32) : bits .or .u32 (u a) (u b) = u (a ||| b) := by
  show IntKind.u32.wrap ((BitVec.ofInt 32 (u a) ||| BitVec.ofInt 32 (u b)).toNat : Int) = _
  rw [ofInt_u, ofInt_u]; exact wrap_u _
@[go_sem] theorem u_xor (a b : BitVec 32) : bits .xor .u32 (u a) (u b) = u (a ^^^ b) := by
  show IntKind.u32.wrap ((BitVec.ofInt 32 (u a) ^^^ BitVec.ofInt 32 (u b)).toNat : Int) = _
  rw [ofInt_u, ofInt_u]; exact wrap_u _
@[go_sem] theorem u_andNot (a b : BitVec 32) : bits .andNot .u32 (u a) (u b) = u (a &&& ~~~b) := by
  show IntKind.u32.wrap ((BitVec.ofInt 32 (u a) &&& ~~~BitVec.ofInt 32 (u b)).toNat : Int) = _
  rw [ofInt_u, ofInt_u]; exact wrap_u _
@[go_sem] theorem u_not (a : BitVec 32) : bits .xor .u32 IntKind.u32.max (u a) = u (~~~a) := by
  show IntKind.u32.wrap ((BitVec.ofInt 32 4294967295 ^^^ BitVec.ofInt 32 (u a)).toNat : Int) = _
  rw [ofInt_u, show BitVec.ofInt 32 4294967295 = BitVec.allOnes 32 from by decide, BitVec.allOnes_xor]; exact wrap_u _
@[go_sem] theorem u_add (a b : BitVec 32) : IntKind.u32.wrap (u a + u b) = u (a + b) := by
  rw [IntKind.wrap_u32]; unfold u; rw [BitVec.toNat_add]; omega
@[go_sem] theorem u_shl (a : BitVec 32) (k : Nat) : IntKind.u32.wrap (u a * 2 ^ k) = u (a <<< k) := by
  rw [IntKind.wrap_u32]; unfold u
  rw [BitVec.toNat_shiftLeft, Nat.shiftLeft_eq]
  simp
@[go_sem] theorem u_shr (a : BitVec 32) (k : Nat) : u a / 2 ^ k = u (a >>> k) := by
  unfold u
  rw [BitVec.toNat_ushiftRight, Nat.shiftRight_eq_div_pow]
  simp

@[go_sem] theorem u_shr3 (x : BitVec 32) : u x / (8 : Int) = u (x >>> 3) := u_shr x 3
@[go_sem] theorem u_shr8 (x : BitVec 32) : u x / (256 : Int) = u (x >>> 8) := u_shr x 8
@[go_sem] theorem u_shr10 (x : BitVec 32) : u x / (1024 : Int) = u (x >>> 10) := u_shr x 10
@[go_sem] theorem u_shr16 (x : BitVec 32) : u x / (65536 : Int) = u (x >>> 16) := u_shr x 16
@[go_sem] theorem u_shr24 (x : BitVec 32) : u x / (16777216 : Int) = u (x >>> 24) := u_shr x 24
/-- A number is its bits, one by one. -/
theorem mod_succ (y k : Nat) : y % 2 ^ (k + 1) = y % 2 ^ k + (y.testBit k).toNat * 2 ^ k := by
  rw [Nat.mod_pow_succ, Nat.testBit_eq_decide_div_mod_eq, Nat.mul_comm]
  have : y / 2 ^ k % 2 < 2 := Nat.mod_lt _ (by decide)
  congr 1
  by_cases h : y / 2 ^ k % 2 = 1
  · simp [h]
  · have : y / 2 ^ k % 2 = 0 := by omega
    simp [this]
/-- The lowest k bits of a word, as a number. -/
def low (v : BitVec 32) (k : Nat) : Int := ((v.toNat % 2 ^ k : Nat) : Int)
theorem low_bd (v : BitVec 32) (k : Nat) : 0 ≤ low v k ∧ low v k < 2 ^ k := by
  unfold low
  have : v.toNat % 2 ^ k < 2 ^ k := Nat.mod_lt _ (Nat.two_pow_pos k)
  constructor
  · omega
  · exact_mod_cast this
theorem low_zero (v : BitVec 32) : low v 0 = 0 := by unfold low; simp [Nat.mod_one]
theorem low_all (v : BitVec 32) : low v 32 = u v := by
  unfold low u; rw [Nat.mod_eq_of_lt v.isLt]
def bit (v : BitVec 32) (k : Nat) : Int := if v.getLsbD k then 1 else 0
theorem bit_bd (v : BitVec 32) (k : Nat) : 0 ≤ bit v k ∧ bit v k ≤ 1 := by unfold bit; split <;> omega
theorem low_succ (v : BitVec 32) (k : Nat) : low v (k + 1) = low v k + bit v k * 2 ^ k := by
  unfold low bit
  rw [mod_succ, BitVec.testBit_toNat, Int.natCast_add, Int.natCast_mul, Int.natCast_pow]
  cases v.getLsbD k
  · rfl
  · rfl
theorem pow_le (k : Nat) (hk : k < 32) : (2 : Int) ^ k ≤ 2147483648 := by
  have h : (2 : Nat) ^ k ≤ 2147483648 := (Nat.pow_le_pow_right (by decide) (show k ≤ 31 by omega) : 2 ^ k ≤ 2 ^ 31)
  have e : ((2 ^ k : Nat) : Int) = (2 : Int) ^ k := Int.natCast_pow 2 k
  omega
/-- One round of a sum of bits: nothing is carried out of the word. -/
theorem low_step (v : BitVec 32) (k : Nat) (hk : k < 32) : IntKind.u32.wrap (low v k + IntKind.u32.wrap (bit v k * 2 ^ k)) = low v (k + 1) := by
  have h1 := low_bd v k
  have h3 := pow_le k hk
  have h4 := low_bd v (k + 1)
  have h5 : (2 : Int) ^ (k + 1) ≤ 4294967296 := by rw [Int.pow_succ]; omega
  have h0 : 0 ≤ bit v k * 2 ^ k ∧ bit v k * 2 ^ k ≤ 2147483648 := by
    unfold bit; split <;> simp <;> omega
  rw [low_succ] at h4 ⊢
  rw [IntWalk.u32_in (bit v k * 2 ^ k) (by omega), IntWalk.u32_in _ (by omega)]
theorem low_step' (v : BitVec 32) (k : Nat) (hk : k < 32) (b : Int) (hb : b = bit v k) : (low v k + b * 2 ^ k % 4294967296) % 4294967296 = low v (k + 1) := by
  rw [← low_step v k hk, IntKind.wrap_u32, IntKind.wrap_u32, hb]
theorem bit_shr (v : BitVec 32) (k : Nat) : u (v >>> k) % 2 = bit v k := by
  unfold u bit
  rw [BitVec.toNat_ushiftRight, Nat.shiftRight_eq_div_pow, ← BitVec.testBit_toNat, Nat.testBit_eq_decide_div_mod_eq]
  generalize v.toNat / 2 ^ k = q
  by_cases h : q % 2 = 1
  · rw [if_pos (by simp [h])]; omega
  · rw [if_neg (by simp [h])]; omega

/-- Round about, n places lower. -/
def turn (x : BitVec 32) (n : Int) : BitVec 32 := x.rotateRight (n % 32).toNat
def rotl (x : BitVec 32) (n : Int) : BitVec 32 := x.rotateLeft (n % 32).toNat
theorem rotl_eq (x : BitVec 32) (n : Int) :
    x <<< (n % 32).toNat ||| x >>> (32 - n % 32).toNat = rotl x n := by
  unfold rotl
  rw [BitVec.rotateLeft_def]
  have h : (n % 32).toNat % 32 = (n % 32).toNat := Nat.mod_eq_of_lt (by omega)
  rw [h, show (32 - n % 32).toNat = 32 - (n % 32).toNat by omega]
theorem getLsbD_turn (x : BitVec 32) (n : Int) (i : Nat) (hi : i < 32) : (turn x n).getLsbD i = x.getLsbD ((i + (n % 32)) % 32).toNat := by
  unfold turn
  rw [BitVec.getLsbD_rotateRight]
  have h : (n % 32).toNat % 32 = (n % 32).toNat := Nat.mod_eq_of_lt (by omega)
  rw [h]
  by_cases h2 : i < 32 - (n % 32).toNat
  · simp only [h2, decide_true, cond_true]
    congr 1; omega
  · simp only [h2, decide_false, cond_false, hi, decide_true, Bool.true_and]
    congr 1; omega
theorem rotl_turn (x : BitVec 32) (m n : Int) (h : (m + n) % 32 = 0) : rotl x m = turn x n := by
  apply BitVec.eq_of_getLsbD_eq
  intro i hi
  rw [getLsbD_turn x n i hi]
  unfold rotl
  rw [BitVec.getLsbD_rotateLeft]
  have h' : (m % 32).toNat % 32 = (m % 32).toNat := Nat.mod_eq_of_lt (by omega)
  rw [h']
  by_cases h2 : i < (m % 32).toNat
  · simp only [h2, decide_true, cond_true]
    congr 1; omega
  · simp only [h2, decide_false, cond_false, hi, decide_true, Bool.true_and]
    congr 1; omega
theorem turn_turn (x : BitVec 32) (m n : Int) (h : (m + n) % 32 = 0) : turn (turn x m) n = x := by
  apply BitVec.eq_of_getLsbD_eq
  intro i hi
  rw [getLsbD_turn _ _ i hi, getLsbD_turn _ _ _ (by omega)]
  congr 1; omega
theorem bit_turn (x : BitVec 32) (n : Int) (k : Nat) (hk : k < 32) : bit x ((k + n.tmod 32) % 32).toNat = bit (turn x n) k := by
  unfold bit
  rw [getLsbD_turn x n k hk]
  have h : ((k : Int) + n.tmod 32) % 32 = (k + n % 32) % 32 := by
    rw [Int.tmod_eq_emod]; split <;> omega
  rw [h]
def uchoose (x y z : BitVec 32) : BitVec 32 := x &&& y ||| ~~~x &&& z
def umost (x y z : BitVec 32) : BitVec 32 := x &&& y ||| x &&& z ||| y &&& z
theorem bit_one {x : BitVec 32} {k : Nat} (h : x.getLsbD k = true) : bit x k = 1 := by unfold bit; rw [if_pos h]
theorem bit_nil {x : BitVec 32} {k : Nat} (h : x.getLsbD k = false) : bit x k = 0 := by unfold bit; rw [h]; rfl
theorem bit_choose1 (x y z : BitVec 32) (k : Nat) (h : x.getLsbD k = true) : bit y k = bit (uchoose x y z) k := by
  unfold bit uchoose; simp [h]
theorem bit_choose0 (x y z : BitVec 32) (k : Nat) (hk : k < 32) (h : x.getLsbD k = false) : bit z k = bit (uchoose x y z) k := by
  have h' : x[k] = false := by rw [← BitVec.getLsbD_eq_getElem hk]; exact h
  unfold bit uchoose; simp [hk, h']
theorem bit_most (x y z : BitVec 32) (k : Nat) : bit (umost x y z) k = if 2 ≤ bit x k + bit y k + bit z k then 1 else 0 := by
  unfold bit umost
  cases hx : x.getLsbD k <;> cases hy : y.getLsbD k <;> cases hz : z.getLsbD k <;> simp [hx, hy, hz]
theorem bit_xor (x y z : BitVec 32) (k : Nat) : (bit x k + bit y k + bit z k) % 2 = bit (x ^^^ y ^^^ z) k := by
  unfold bit
  cases hx : x.getLsbD k <;> cases hy : y.getLsbD k <;> cases hz : z.getLsbD k <;> simp [hx, hy, hz]
theorem low_nil (v : BitVec 32) (k : Nat) (h : bit v k = 0) : low v k = low v (k + 1) := by rw [low_succ, h]; simp
end Go.Proofs.YtbngnmhbnhpbeaaDoor
