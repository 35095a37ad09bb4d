/- Texts of this claim, one behind the other. -/
import Derived.Test.YtlocgfekgbdlmaaDoorRows
import Derived.Handy
import Derived.Lib.Hide
import Derived.WalkSpells
import Derived.WalkLawsBesides
import Derived.Laws.AppendOwnNone
import Derived.Laws.CopyOwn
import Derived.Deep.AppendLies
import Derived.Deep.RegionHeld3
import Derived.Test.YtlocgfekgbdlmaaDoorCards
import Derived.Test.YtlocgfekgbdlmaaDoorTie
import Derived.WalkKit
import Derived.ProofKit
import Derived.OpenShut
import Derived.ShutString
import Derived.ChangeOld
import Derived.Below
import Derived.Deep.DeepHandedRow
import Derived.Lib.LaidTab
import Derived.SizedLaws
import Derived.OwnWalk
import Derived.Deep.MidRow
import Derived.Laws.Rows
import Derived.Laws.Tables
import Derived.Laws.CopyRow
import Derived.Laws.ResultCell
import Derived.Laws.BytesString
import Derived.Laws.Strings
import Derived.Laws.IdiomStrings
import Derived.SliceStrings
/- WORDS OF 32 BITS AS BIT VECTORS: how the model's integers of kind u32 are added, shifted, joined. No Go function is spoken of here. -/
namespace Go.Proofs.YtlocgfekgbdlmaaDoor
open Go

def u (v : BitVec 32) : Int := (v.toNat : Int)
theorem u_bd (v : BitVec 32) : 0 ≤ u v ∧ u v < 4294967296 := by
  unfold u; have := v.isLt; omega
theorem u_mk {x : Int} (h0 : 0 ≤ x) (h1 : x < 4294967296) : ∃ v, x = u v := by
  refine ⟨BitVec.ofNat 32 x.toNat, ?_⟩
  unfold u; rw [BitVec.toNat_ofNat]; omega
theorem u_inj {a b : BitVec 32} : u a = u b ↔ a = b := by
  unfold u
  constructor
  · intro h; exact BitVec.eq_of_toNat_eq (by omega)
  · intro h; rw [h]
theorem u_toNat (v : BitVec 32) : (u v).toNat = v.toNat := rfl
theorem ofInt_u (v : BitVec 32) : BitVec.ofInt 32 (u v) = v := by
  unfold u; simp
theorem wrap_u (v : BitVec 32) : IntKind.u32.wrap (u v) = u v := by
  rw [IntKind.wrap_u32]; have := u_bd v; omega

@[go_sem] theorem u_and (a b : BitVec 32) : bits .and .u32 (u a) (u b) = u (a &&& b) := by
  show IntKind.u32.wrap ((BitVec.ofInt 32 (u a) &&& BitVec.ofInt 32 (u b)).toNat : Int) = _
  rw [ofInt_u, ofInt_u]; exact wrap_u _
@[go_sem] theorem u_or (a b : BitVec 32) : bits .or .u32 (u a) (u b) = u (a ||| b) := by
  show IntKind.u32.wrap ((BitVec.ofInt 32 (u a) ||| BitVec.ofInt 32 (u b)).toNat : Int) = _
  rw [ofInt_u, ofInt_u]; exact wrap_u _
@[go_sem] theorem u_xor (a b : BitVec 32) : bits .xor .u32 (u a) (u b) = u (a ^^^ b) := by
  show IntKind.u32.wrap ((BitVec.ofInt 32 (u a) ^^^ BitVec.ofInt 32 (u b)).toNat : Int) = _
  rw [ofInt_u, ofInt_u]; exact wrap_u _
@[go_sem] theorem u_andNot (a b : BitVec 32) : bits .andNot .u32 (u a) (u b) = u (a &&& ~~~b) := by
  show IntKind.u32.wrap ((BitVec.ofInt 32 (u a) &&& ~~~BitVec.ofInt 32 (u b)).toNat : Int) = _
  rw [ofInt_u, ofInt_u]; exact wrap_u _
@[go_sem] theorem u_not (a : BitVec 32) : bits .xor .u32 IntKind.u32.max (u a) = u (~~~a) := by
  show IntKind.u32.wrap ((BitVec.ofInt 32 4294967295 ^^^ BitVec.ofInt 32 (u a)).toNat : Int) = _
  rw [ofInt_u, show BitVec.ofInt 32 4294967295 = BitVec.allOnes 32 from by decide, BitVec.allOnes_xor]; exact wrap_u _
@[go_sem] theorem u_add (a b : BitVec 32) : IntKind.u32.wrap (u a + u b) = u (a + b) := by
  rw [IntKind.wrap_u32]; unfold u; rw [BitVec.toNat_add]; omega
@[go_sem] theorem u_shl (a : BitVec 32) (k : Nat) : IntKind.u32.wrap (u a * 2 ^ k) = u (a <<< k) := by
  rw [IntKind.wrap_u32]; unfold u
  rw [BitVec.toNat_shiftLeft, Nat.shiftLeft_eq]
  simp
@[go_sem] theorem u_shr (a : BitVec 32) (k : Nat) : u a / 2 ^ k = u (a >>> k) := by
  unfold u
  rw [BitVec.toNat_ushiftRight, Nat.shiftRight_eq_div_pow]
  simp

@[go_sem] theorem u_shr3 (x : BitVec 32) : u x / (8 : Int) = u (x >>> 3) := u_shr x 3
@[go_sem] theorem u_shr8 (x : BitVec 32) : u x / (256 : Int) = u (x >>> 8) := u_shr x 8
@[go_sem] theorem u_shr10 (x : BitVec 32) : u x / (1024 : Int) = u (x >>> 10) := u_shr x 10
@[go_sem] theorem u_shr16 (x : BitVec 32) : u x / (65536 : Int) = u (x >>> 16) := u_shr x 16
@[go_sem] theorem u_shr24 (x : BitVec 32) : u x / (16777216 : Int) = u (x >>> 24) := u_shr x 24
/-- A number is its bits, one by one. -/
theorem mod_succ (y k : Nat) : y % 2 ^ (k + 1) = y % 2 ^ k + (y.testBit k).toNat * 2 ^ k := by
  rw [Nat.mod_pow_succ, Nat.testBit_eq_decide_div_mod_eq, Nat.mul_comm]
  have : y / 2 ^ k % 2 < 2 := Nat.mod_lt _ (by decide)
  congr 1
  by_cases h : y / 2 ^ k % 2 = 1
  · simp [h]
  · have : y / 2 ^ k % 2 = 0 := by omega
    simp [this]
/-- The lowest k bits of a word, as a number. -/
def low (v : BitVec 32) (k : Nat) : Int := ((v.toNat % 2 ^ k : Nat) : Int)
theorem low_bd (v : BitVec 32) (k : Nat) : 0 ≤ low v k ∧ low v k < 2 ^ k := by
  unfold low
  have : v.toNat % 2 ^ k < 2 ^ k := Nat.mod_lt _ (Nat.two_pow_pos k)
  constructor
  · omega
  · exact_mod_cast this
theorem low_zero (v : BitVec 32) : low v 0 = 0 := by unfold low; simp [Nat.mod_one]
theorem low_all (v : BitVec 32) : low v 32 = u v := by
  unfold low u; rw [Nat.mod_eq_of_lt v.isLt]
def bit (v : BitVec 32) (k : Nat) : Int := if v.getLsbD k then 1 else 0
theorem bit_bd (v : BitVec 32) (k : Nat) : 0 ≤ bit v k ∧ bit v k ≤ 1 := by unfold bit; split <;> omega
theorem low_succ (v : BitVec 32) (k : Nat) : low v (k + 1) = low v k + bit v k * 2 ^ k := by
  unfold low bit
  rw [mod_succ, BitVec.testBit_toNat, Int.natCast_add, Int.natCast_mul, Int.natCast_pow]
  cases v.getLsbD k
  · rfl
  · rfl
theorem pow_le (k : Nat) (hk : k < 32) : (2 : Int) ^ k ≤ 2147483648 := by
  have h : (2 : Nat) ^ k ≤ 2147483648 := (Nat.pow_le_pow_right (by decide) (show k ≤ 31 by omega) : 2 ^ k ≤ 2 ^ 31)
  have e : ((2 ^ k : Nat) : Int) = (2 : Int) ^ k := Int.natCast_pow 2 k
  omega
/-- One round of a sum of bits: nothing is carried out of the word. -/
theorem low_step (v : BitVec 32) (k : Nat) (hk : k < 32) : IntKind.u32.wrap (low v k + IntKind.u32.wrap (bit v k * 2 ^ k)) = low v (k + 1) := by
  have h1 := low_bd v k
  have h3 := pow_le k hk
  have h4 := low_bd v (k + 1)
  have h5 : (2 : Int) ^ (k + 1) ≤ 4294967296 := by rw [Int.pow_succ]; omega
  have h0 : 0 ≤ bit v k * 2 ^ k ∧ bit v k * 2 ^ k ≤ 2147483648 := by
    unfold bit; split <;> simp <;> omega
  rw [low_succ] at h4 ⊢
  rw [IntWalk.u32_in (bit v k * 2 ^ k) (by omega), IntWalk.u32_in _ (by omega)]
theorem low_step' (v : BitVec 32) (k : Nat) (hk : k < 32) (b : Int) (hb : b = bit v k) : (low v k + b * 2 ^ k % 4294967296) % 4294967296 = low v (k + 1) := by
  rw [← low_step v k hk, IntKind.wrap_u32, IntKind.wrap_u32, hb]
theorem bit_shr (v : BitVec 32) (k : Nat) : u (v >>> k) % 2 = bit v k := by
  unfold u bit
  rw [BitVec.toNat_ushiftRight, Nat.shiftRight_eq_div_pow, ← BitVec.testBit_toNat, Nat.testBit_eq_decide_div_mod_eq]
  generalize v.toNat / 2 ^ k = q
  by_cases h : q % 2 = 1
  · rw [if_pos (by simp [h])]; omega
  · rw [if_neg (by simp [h])]; omega

/-- Round about, n places lower. -/
def turn (x : BitVec 32) (n : Int) : BitVec 32 := x.rotateRight (n % 32).toNat
def rotl (x : BitVec 32) (n : Int) : BitVec 32 := x.rotateLeft (n % 32).toNat
theorem rotl_eq (x : BitVec 32) (n : Int) :
    x <<< (n % 32).toNat ||| x >>> (32 - n % 32).toNat = rotl x n := by
  unfold rotl
  rw [BitVec.rotateLeft_def]
  have h : (n % 32).toNat % 32 = (n % 32).toNat := Nat.mod_eq_of_lt (by omega)
  rw [h, show (32 - n % 32).toNat = 32 - (n % 32).toNat by omega]
theorem getLsbD_turn (x : BitVec 32) (n : Int) (i : Nat) (hi : i < 32) : (turn x n).getLsbD i = x.getLsbD ((i + (n % 32)) % 32).toNat := by
  unfold turn
  rw [BitVec.getLsbD_rotateRight]
  have h : (n % 32).toNat % 32 = (n % 32).toNat := Nat.mod_eq_of_lt (by omega)
  rw [h]
  by_cases h2 : i < 32 - (n % 32).toNat
  · simp only [h2, decide_true, cond_true]
    congr 1; omega
  · simp only [h2, decide_false, cond_false, hi, decide_true, Bool.true_and]
    congr 1; omega
theorem rotl_turn (x : BitVec 32) (m n : Int) (h : (m + n) % 32 = 0) : rotl x m = turn x n := by
  apply BitVec.eq_of_getLsbD_eq
  intro i hi
  rw [getLsbD_turn x n i hi]
  unfold rotl
  rw [BitVec.getLsbD_rotateLeft]
  have h' : (m % 32).toNat % 32 = (m % 32).toNat := Nat.mod_eq_of_lt (by omega)
  rw [h']
  by_cases h2 : i < (m % 32).toNat
  · simp only [h2, decide_true, cond_true]
    congr 1; omega
  · simp only [h2, decide_false, cond_false, hi, decide_true, Bool.true_and]
    congr 1; omega
theorem turn_turn (x : BitVec 32) (m n : Int) (h : (m + n) % 32 = 0) : turn (turn x m) n = x := by
  apply BitVec.eq_of_getLsbD_eq
  intro i hi
  rw [getLsbD_turn _ _ i hi, getLsbD_turn _ _ _ (by omega)]
  congr 1; omega
theorem bit_turn (x : BitVec 32) (n : Int) (k : Nat) (hk : k < 32) : bit x ((k + n.tmod 32) % 32).toNat = bit (turn x n) k := by
  unfold bit
  rw [getLsbD_turn x n k hk]
  have h : ((k : Int) + n.tmod 32) % 32 = (k + n % 32) % 32 := by
    rw [Int.tmod_eq_emod]; split <;> omega
  rw [h]
def uchoose (x y z : BitVec 32) : BitVec 32 := x &&& y ||| ~~~x &&& z
def umost (x y z : BitVec 32) : BitVec 32 := x &&& y ||| x &&& z ||| y &&& z
theorem bit_one {x : BitVec 32} {k : Nat} (h : x.getLsbD k = true) : bit x k = 1 := by unfold bit; rw [if_pos h]
theorem bit_nil {x : BitVec 32} {k : Nat} (h : x.getLsbD k = false) : bit x k = 0 := by unfold bit; rw [h]; rfl
theorem bit_choose1 (x y z : BitVec 32) (k : Nat) (h : x.getLsbD k = true) : bit y k = bit (uchoose x y z) k := by
  unfold bit uchoose; simp [h]
theorem bit_choose0 (x y z : BitVec 32) (k : Nat) (hk : k < 32) (h : x.getLsbD k = false) : bit z k = bit (uchoose x y z) k := by
  have h' : x[k] = false := by rw [← BitVec.getLsbD_eq_getElem hk]; exact h
  unfold bit uchoose; simp [hk, h']
theorem bit_most (x y z : BitVec 32) (k : Nat) : bit (umost x y z) k = if 2 ≤ bit x k + bit y k + bit z k then 1 else 0 := by
  unfold bit umost
  cases hx : x.getLsbD k <;> cases hy : y.getLsbD k <;> cases hz : z.getLsbD k <;> simp [hx, hy, hz]
theorem bit_xor (x y z : BitVec 32) (k : Nat) : (bit x k + bit y k + bit z k) % 2 = bit (x ^^^ y ^^^ z) k := by
  unfold bit
  cases hx : x.getLsbD k <;> cases hy : y.getLsbD k <;> cases hz : z.getLsbD k <;> simp [hx, hy, hz]
theorem low_nil (v : BitVec 32) (k : Nat) (h : bit v k = 0) : low v k = low v (k + 1) := by rw [low_succ, h]; simp
end Go.Proofs.YtlocgfekgbdlmaaDoor

/- THE NUMBERS that package word's two tables hold. -/
namespace Go.Proofs.YtlocgfekgbdlmaaDoor
def cubeT : List Int := [1116352408, 1899447441, 3049323471, 3921009573, 961987163, 1508970993, 2453635748, 2870763221, 3624381080, 310598401, 607225278, 1426881987, 1925078388, 2162078206, 2614888103, 3248222580, 3835390401, 4022224774, 264347078, 604807628, 770255983, 1249150122, 1555081692, 1996064986, 2554220882, 2821834349, 2952996808, 3210313671, 3336571891, 3584528711, 113926993, 338241895, 666307205, 773529912, 1294757372, 1396182291, 1695183700, 1986661051, 2177026350, 2456956037, 2730485921, 2820302411, 3259730800, 3345764771, 3516065817, 3600352804, 4094571909, 275423344, 430227734, 506948616, 659060556, 883997877, 958139571, 1322822218, 1537002063, 1747873779, 1955562222, 2024104815, 2227730452, 2361852424, 2428436474, 2756734187, 3204031479, 3329325298]
def squareT : List Int := [1779033703, 3144134277, 1013904242, 2773480762, 1359893119, 2600822924, 528734635, 1541459225]
end Go.Proofs.YtlocgfekgbdlmaaDoor

/- LAYER 1's SMALL FUNCTIONS: package word's turns and sums, walked. -/
namespace Go.Proofs.YtlocgfekgbdlmaaDoor
open Go.RowKit

@[go_sem] theorem and31 (n : Int) : bits .and .u64 (IntKind.u64.wrap n) 31 = n % 32 := by
  show IntKind.u64.wrap ((BitVec.ofInt 64 (IntKind.u64.wrap n) &&& BitVec.ofInt 64 31).toNat : Int) = _
  have h1 : (BitVec.ofInt 64 (IntKind.u64.wrap n)).toNat = (n % 18446744073709551616).toNat := by
    rw [IntKind.wrap_u64, BitVec.toNat_ofInt]; simp
  have h2 : (BitVec.ofInt 64 31).toNat = 2 ^ 5 - 1 := by decide
  rw [BitVec.toNat_and, h1, h2, Nat.and_two_pow_sub_one_eq_mod, IntKind.wrap_u64]
  omega

theorem rot_any (x : BitVec 32) (n : Int) (w : World) :
    Calls Tryd.prog 60 #[.int .u32 (u x), .int .i64 n] w fun e w' => e = .returned (.int .u32 (u (rotl x n))) ∧ w = w' := by
  have hb := u_bd x
  go_enter Tryd.func60, Tryd.ntmps60
  go_wp2
  go_ret
  rw [← rotl_eq]
  exact ⟨rfl, rfl⟩
theorem turn_any (x : BitVec 32) (n : Int) (w : World) :
    Calls Tryd.prog 59 #[.int .u32 (u x), .int .i64 n] w fun e w' => e = .returned (.int .u32 (u (turn x n))) ∧ w = w' := by
  go_enter Tryd.func59, Tryd.ntmps59
  go_wp2_with (go_at_call 60; refine (rot_any _ _ _).mono ?_; rintro e w' ⟨rfl, rfl⟩)
  go_ret
  rw [← rotl_turn x (wrap64 (-n)) n (by unfold wrap64; omega)]
  exact ⟨rfl, rfl⟩
theorem choose_any (x y z : BitVec 32) (w : World) :
    Calls Tryd.prog 54 #[.int .u32 (u x), .int .u32 (u y), .int .u32 (u z)] w fun e w' => e = .returned (.int .u32 (u (uchoose x y z))) ∧ w = w' := by
  go_enter Tryd.func54, Tryd.ntmps54
  go_wp2
  go_ret
  exact ⟨rfl, rfl⟩
theorem most_any (x y z : BitVec 32) (w : World) :
    Calls Tryd.prog 56 #[.int .u32 (u x), .int .u32 (u y), .int .u32 (u z)] w fun e w' => e = .returned (.int .u32 (u (umost x y z))) ∧ w = w' := by
  go_enter Tryd.func56, Tryd.ntmps56
  go_wp2
  go_ret
  exact ⟨rfl, rfl⟩
def great (i : Int) (x : BitVec 32) : BitVec 32 :=
  if i = 0 then turn x 2 ^^^ turn x 13 ^^^ turn x 22 else if i = 1 then turn x 6 ^^^ turn x 11 ^^^ turn x 25 else 0#32
def small (i : Int) (x : BitVec 32) : BitVec 32 :=
  if i = 0 then turn x 7 ^^^ turn x 18 ^^^ x >>> 3 else if i = 1 then turn x 17 ^^^ turn x 19 ^^^ x >>> 10 else 0#32
theorem u_zero : u 0#32 = 0 := rfl
theorem great_any (i : Int) (x : BitVec 32) (w : World) :
    Calls Tryd.prog 53 #[.int .i64 i, .int .u32 (u x)] w fun e w' => e = .returned (.int .u32 (u (great i x))) ∧ w = w' := by
  by_cases h0 : i = 0
  · subst h0
    go_enter Tryd.func53, Tryd.ntmps53
    go_wp2_with (go_at_call 59; refine (turn_any _ _ _).mono ?_; rintro e w' ⟨rfl, rfl⟩)
    go_ret
    exact ⟨rfl, rfl⟩
  · by_cases h1 : i = 1
    · subst h1
      go_enter Tryd.func53, Tryd.ntmps53
      go_wp2_with (go_at_call 59; refine (turn_any _ _ _).mono ?_; rintro e w' ⟨rfl, rfl⟩)
      go_ret
      exact ⟨rfl, rfl⟩
    · have hg : great i x = 0#32 := by unfold great; rw [if_neg h0, if_neg h1]
      have e0 : (i == 0) = false := by simpa using h0
      have e1 : (i == 1) = false := by simpa using h1
      have HG := Lib.hid hg
      clear hg
      go_enter Tryd.func53, Tryd.ntmps53
      go_wp2
      go_ret
      rw [HG.out, u_zero]
      exact ⟨rfl, rfl⟩
theorem small_any (i : Int) (x : BitVec 32) (w : World) :
    Calls Tryd.prog 58 #[.int .i64 i, .int .u32 (u x)] w fun e w' => e = .returned (.int .u32 (u (small i x))) ∧ w = w' := by
  by_cases h0 : i = 0
  · subst h0
    go_enter Tryd.func58, Tryd.ntmps58
    go_wp2_with (go_at_call 59; refine (turn_any _ _ _).mono ?_; rintro e w' ⟨rfl, rfl⟩)
    go_ret
    exact ⟨rfl, rfl⟩
  · by_cases h1 : i = 1
    · subst h1
      go_enter Tryd.func58, Tryd.ntmps58
      go_wp2_with (go_at_call 59; refine (turn_any _ _ _).mono ?_; rintro e w' ⟨rfl, rfl⟩)
      go_ret
      exact ⟨rfl, rfl⟩
    · have hg : small i x = 0#32 := by unfold small; rw [if_neg h0, if_neg h1]
      have e0 : (i == 0) = false := by simpa using h0
      have e1 : (i == 1) = false := by simpa using h1
      have HG := Lib.hid hg
      clear hg
      go_enter Tryd.func58, Tryd.ntmps58
      go_wp2
      go_ret
      rw [HG.out, u_zero]
      exact ⟨rfl, rfl⟩
end Go.Proofs.YtlocgfekgbdlmaaDoor

/- WORDS ON MEMORY: a block that is one row; a slice that reads as a list of numbers. No Go function is spoken of here. -/
namespace Go.Proofs.YtlocgfekgbdlmaaDoor
open Go Go.RowKit

/-- Block g is a row of elements of type t that holds just xs, and may be written. -/
def Row (w : World) (g : Nat) (t : TypeId) (xs : List Value) : Prop := w.heap[g]? = some (.cells xs.toArray t (0, 0))
theorem Row.lt {w : World} {g t : Nat} {xs : List Value} (h : Row w g t xs) : g < w.heap.size := by
  unfold Row at h
  exact (Array.getElem?_eq_some_iff.1 h).1
theorem Row.cell {w : World} {g t : Nat} {xs : List Value} (h : Row w g t xs) (i : Nat) : w.cell? ⟨g, i, none⟩ = xs[i]? := by
  rw [cell_of_row w g i _ t (0, 0) h]; simp
theorem Row.free {w : World} {g t : Nat} {xs : List Value} (h : Row w g t xs) (i : Nat) : w.frozen? ⟨g, i, none⟩ = false :=
  frozen_of_row w g i _ t h
theorem Row.set {w : World} {g t : Nat} {xs : List Value} (h : Row w g t xs) (i : Nat) (v : Value) : Row (w.setCell ⟨g, i, none⟩ v) g t (xs.set i v) := by
  unfold Row at h ⊢
  rw [heap_setCell_same w g i _ t v h]
  simp
theorem Row.far {w : World} {g t : Nat} {xs : List Value} (h : Row w g t xs) (a : Addr) (v : Value) (hne : g ≠ a.block) : Row (w.setCell a v) g t xs := by
  unfold Row at h ⊢
  rw [heap_setCell_other w a g v hne]; exact h
theorem Row.drew {w : World} {g t : Nat} {xs : List Value} (h : Row w g t xs) : Row w.drew g t xs := h
theorem Row.new (w : World) (t : TypeId) (xs : List Value) : Row (w.alloc (.cells xs.toArray t)) w.heap.size t xs := heap_alloc_new w _
theorem Row.later {w w' : World} {g t : Nat} {xs : List Value} {B : Nat} (h : Row w g t xs) (hb : Below B w w') (hg : g < B) : Row w' g t xs := by
  unfold Row at h ⊢
  rw [hb.block g hg]; exact h
/-- A row that a slice owns whole. -/
theorem Row.of_own {w : World} {base t g n cap : Nat} {xs : List Value} (h : w.ownsRow base t 1 (.slice (some ⟨g, 0, none⟩) n cap) n xs) : ∃ ys, Row w g t (xs ++ ys) := by
  rcases h.2 with ⟨h1, _⟩ | ⟨g', cap', cur, hv, _, hg, _, _, _, htake⟩
  · cases h1
  · injection hv with h1 h2 h3
    injection h1 with h1
    injection h1 with h1
    subst h1
    refine ⟨cur.toList.drop n, ?_⟩
    unfold Row
    rw [hg, ← htake, Nat.mul_one, List.take_append_drop]

/-- The slice's value reads as the list: the address A, where there is anything to be read. -/
def Rd (w : World) (A : Option Addr) (xs : List Value) : Prop :=
  xs = [] ∨ ∃ b o, A = some ⟨b, o, none⟩ ∧ b < w.heap.size ∧ ∀ i, i < xs.length → w.cell? ⟨b, o + i, none⟩ = xs[i]?
theorem Rd.later {w w' : World} {A : Option Addr} {xs : List Value} {B : Nat} (h : Rd w A xs) (hB : w.heap.size ≤ B) (hb : Below B w w') : Rd w' A xs := by
  rcases h with h | ⟨b, o, rfl, hlt, hc⟩
  · exact .inl h
  · refine .inr ⟨b, o, rfl, by have := hb.size; omega, fun i hi => ?_⟩
    rw [hb.cell (p := ⟨b, o + i, none⟩) (by show b < B; omega)]; exact hc i hi
theorem Rd.row {w : World} {g t : Nat} {xs ys : List Value} (h : Row w g t (xs ++ ys)) : Rd w (some ⟨g, 0, none⟩) xs :=
  .inr ⟨g, 0, rfl, h.lt, fun i hi => by rw [Nat.zero_add, h.cell, List.getElem?_append_left hi]⟩
theorem Rd.get {w : World} {A : Option Addr} {xs : List Value} (h : Rd w A xs) {i : Nat} (hi : i < xs.length) : ∃ b o, A = some ⟨b, o, none⟩ ∧ b < w.heap.size ∧ w.cell? ⟨b, o + i, none⟩ = xs[i]? := by
  rcases h with h | ⟨b, o, rfl, hlt, hc⟩
  · subst h; simp at hi
  · exact ⟨b, o, rfl, hlt, hc i hi⟩

def ints (xs : List Int) : List Value := xs.map (Value.int .i64)
theorem length_ints (xs : List Int) : (ints xs).length = xs.length := by unfold ints; simp
theorem get_ints (xs : List Int) (i : Nat) (h : i < xs.length) : (ints xs)[i]? = some (.int .i64 (xs.getD i 0)) := by
  unfold ints; simp [h]
theorem set_ints (xs : List Int) (i : Nat) (v : Int) : (ints xs).set i (.int .i64 v) = ints (xs.set i v) := by
  unfold ints; rw [List.map_set]
/-- The call gave a new slice that holds just xs; what was there before is as it was. -/
def GaveInts (xs : List Int) (w : World) (e : Ending) (w' : World) : Prop :=
  ∃ g cap ys, e = .returned (.slice (some ⟨g, 0, none⟩) xs.length cap) ∧ w.heap.size ≤ g ∧ Row w' g 3 (ints xs ++ ys) ∧ Below w.heap.size w w'

/-- The slice value '.slice A (length of xs) c' holds xs: nil let in. -/
structure Sl (w : World) (A : Option Addr) (c : Nat) (xs : List Value) : Prop where
  rd : Rd w A xs
  room : xs.length ≤ c
  bare : A = none → c = 0
theorem Sl.later {w w' : World} {A : Option Addr} {c : Nat} {xs : List Value} {B : Nat} (h : Sl w A c xs) (hB : w.heap.size ≤ B) (hb : Below B w w') : Sl w' A c xs :=
  ⟨h.rd.later hB hb, h.room, h.bare⟩
/-- The slice from place k on, where a place is left. -/
theorem Sl.cut {w : World} {b o c k : Nat} {xs : List Value} (h : Sl w (some ⟨b, o, none⟩) c xs) (hk : k ≤ xs.length) : Sl w (some ⟨b, o + k, none⟩) (c - k) (xs.drop k) := by
  refine ⟨?_, by have := h.room; rw [List.length_drop]; omega, fun h => by cases h⟩
  rcases h.rd with hn | ⟨b', o', hA, hlt, hc⟩
  · subst hn; exact .inl (by simp)
  · injection hA with hA
    injection hA with h1 h2
    subst h1 h2
    refine .inr ⟨b, o + k, rfl, hlt, fun i hi => ?_⟩
    rw [List.length_drop] at hi
    rw [Nat.add_assoc, hc (k + i) (by omega), List.getElem?_drop]
/-- What a slice of the call's own holds. -/
theorem Sl.of_own {w : World} {base t n : Nat} {v : Value} {xs : List Value} (h : w.ownsRow base t 1 v n xs) : ∃ A c, v = .slice A n c ∧ xs.length = n ∧ Sl w A c xs := by
  have hn : xs.length = n := by have := h.1; omega
  rcases h.2 with ⟨rfl, rfl⟩ | ⟨g, cap, cur, rfl, _, hg, hle, _, hs, htake⟩
  · exact ⟨none, 0, rfl, hn, ⟨.inl (List.eq_nil_of_length_eq_zero hn), by omega, fun _ => rfl⟩⟩
  · refine ⟨some ⟨g, 0, none⟩, cap, rfl, hn, ⟨.inr ⟨g, 0, rfl, (Array.getElem?_eq_some_iff.1 hg).1, fun i hi => ?_⟩, by omega, fun h => by cases h⟩⟩
    rw [Nat.zero_add, cell_of_row w g i cur t (0, 0) hg, ← htake, List.getElem?_take, if_pos (by omega)]
    simp
theorem Rd.at_add {w : World} {ad : Addr} {xs : List Value} (h : Rd w (some ad) xs) : ∀ j v, xs[j]? = some v → w.cell? (ad.add j) = some v := by
  intro j v hv
  have hj : j < xs.length := (List.getElem?_eq_some_iff.1 hv).1
  obtain ⟨b, o, hA, _, hc⟩ := h.get hj
  injection hA with hA
  subst hA
  rw [Addr.add_lit, hc]; exact hv

theorem cells_new (w : World) (t : TypeId) (xs : List Value) : ∀ j u, xs[j]? = some u → (w.alloc (.cells xs.toArray t)).cell? ((⟨w.heap.size, 0, none⟩ : Addr).add j) = some u := by
  intro j u hu
  rw [Addr.add_lit, Nat.zero_add, (Row.new w t xs).cell]; exact hu
theorem own_later {w w' : World} {base t n B : Nat} {v : Value} {xs : List Value} (h : w.ownsRow base t 1 v n xs) (hb : Below B w w') (hB : w.heap.size ≤ B) : w'.ownsRow base t 1 v n xs := by
  refine ⟨h.1, ?_⟩
  rcases h.2 with hn | ⟨g, cap, cur, rfl, hbg, hg, rest⟩
  · exact .inl hn
  · exact .inr ⟨g, cap, cur, rfl, hbg, (hb.block g (Nat.lt_of_lt_of_le (Array.getElem?_eq_some_iff.1 hg).1 hB)).trans hg, rest⟩
theorem run_append_sl {P : Program} (w : World) (base : Nat) (t ty e : TypeId) (i : TypeInfo) (z : Value) (bytes : Nat) (ht : P.underlying t = some (.slice e)) (hi : P.info? e = some i) (hz : i.zero = some z)
    (hsize : i.size = 1) (hby : i.bytes = bytes) (hzs : z.cells.size = 1) (v : Value) (n : Nat) (xs : List Value) (hown : w.ownsRow base e 1 v n xs)
    (A : Option Addr) (m c : Nat) (news : List Value) (hm : m = news.length) (hsl : Sl w A c news) (h1 : ∀ u ∈ news, u.oneCell' = true)
    (h63 : n + m ≤ maxLen) (hbytes : (n + m) * bytes ≤ 140737488355328) (hbase : base ≤ w.heap.size) :
    ∃ v' w', (Builtin.append_ #[t, t] ty #[v, .slice A m c]).run P w = .ok v' w' ∧ w'.ownsRow base e 1 v' (n + m) (xs ++ news) ∧ w.grownBy w' v.ownBlock := by
  subst hm
  cases A with
  | none =>
    have hc := hsl.bare rfl
    have hl := hsl.room
    obtain rfl : news = [] := List.eq_nil_of_length_eq_zero (by omega)
    subst hc
    exact ⟨v, w, run_append_owned_none (P := P) (w := w) base t ty e i 1 ht hi v n xs hown, by simpa using hown, World.grownBy.refl w _⟩
  | some ad =>
    obtain ⟨v', w', h1', h2, h3, _⟩ := run_append_own (P := P) w base t ty e i z 1 bytes ht hi hz hsize hby hzs (by omega) v n xs hown ad news.length c news (by omega) hsl.rd.at_add h1 h63 hbytes hbase
    exact ⟨v', w', h1', h2, h3⟩
theorem below_step {a b c : World} (h : Below a.heap.size a b) (k : Below b.heap.size b c) : Below a.heap.size a c := h.trans (k.mono h.size)
theorem below_size {a b : World} (h : Below a.heap.size a b) : a.heap.size ≤ b.heap.size := h.size
theorem Sl.grown {w w' : World} {g k c : Nat} {xs : List Value} (h : Sl w (some ⟨g, 0, none⟩) c xs) (hg : w.grownBy w' (some k)) (hne : g ≠ k) : Sl w' (some ⟨g, 0, none⟩) c xs := by
  refine ⟨?_, h.room, h.bare⟩
  rcases h.rd with hn | ⟨b, o, hA, hlt, hc⟩
  · exact .inl hn
  · injection hA with hA
    injection hA with h1 h2
    subst h1 h2
    refine .inr ⟨g, 0, rfl, Nat.lt_of_lt_of_le hlt hg.size, fun i hi => ?_⟩
    rw [World.cell?_of_block (w := w) (hg.block g hlt (fun e => hne (Option.some.inj e)))]
    exact hc i hi
/-- The same as one step of a region that draws its order. -/
theorem step_append_sl {P : Program} {w : World} {ops : Array Oper} {o : Oper} {a : Act} {K : Act → World → Prop} {Q : Exit → Act → World → Prop} {E : Prop} (hgd : Region.wanted o (yielded ops a.tmps) = true) (s x : Operand) (t : TypeId)
    (ho : o.op = .call { callee := .builtin .append, args := #[s, x], argTypes := #[t, t] })
    (base : Nat) (e : TypeId) (i : TypeInfo) (z : Value) (bytes : Nat) (ht : P.underlying t = some (.slice e)) (hi : P.info? e = some i) (hz : i.zero = some z)
    (hsize : i.size = 1) (hby : i.bytes = bytes) (hzs : z.cells.size = 1)
    (v : Value) (n : Nat) (xs : List Value) (hs : a.eval s = v) (hown : w.ownsRow base e 1 v n xs)
    (A : Option Addr) (m c : Nat) (news : List Value) (hx : a.eval x = .slice A m c) (hm : m = news.length) (hsl : Sl w A c news) (h1 : ∀ u ∈ news, u.oneCell' = true)
    (h63 : n + m ≤ maxLen) (hbytes : (n + m) * bytes ≤ 140737488355328) (W0 : World) (hb0 : base = W0.heap.size) (hbel : Below W0.heap.size W0 w)
    (h : ∀ v' w', w'.ownsRow base e 1 v' (n + m) (xs ++ news) → w.grownBy w' v.ownBlock → Below W0.heap.size W0 w' → K (a.put o.dst v') w') :
    if Region.wanted o (yielded ops a.tmps) = true then Oper.wp P o a w K Q else E := by
  rw [if_pos hgd]
  obtain ⟨v', w', hrun, h2, h3⟩ := run_append_sl (P := P) w base t o.type e i z bytes ht hi hz hsize hby hzs v n xs hown A m c news hm hsl h1 h63 hbytes (by rw [hb0]; exact hbel.size)
  unfold Oper.wp execOp
  simp only [ho, resolve, invoke, builtin, Sem.run_bind, Sem.run_pure, Result.andThen_ok, List.map_toArray, List.map_cons, List.map_nil, hs, hx, hrun]
  exact h v' w' h2 h3 (hbel.grown h3 hbel.size (fun k hk => by rw [← hb0]; exact (hown.lt k hk).1))
/-- 'append' onto a slice of the call's own, whatever is appended. -/
theorem wpList_append_sl {P : Program} {w : World} {ops : Array Oper} {rest : List Oper} {o : Oper} {a : Act} {Q : Exit → Act → World → Prop} (hgd : o.guard = none) (s x : Operand) (t : TypeId)
    (ho : o.op = .call { callee := .builtin .append, args := #[s, x], argTypes := #[t, t] })
    (base : Nat) (e : TypeId) (i : TypeInfo) (z : Value) (bytes : Nat) (ht : P.underlying t = some (.slice e)) (hi : P.info? e = some i) (hz : i.zero = some z)
    (hsize : i.size = 1) (hby : i.bytes = bytes) (hzs : z.cells.size = 1)
    (v : Value) (n : Nat) (xs : List Value) (hs : a.eval s = v) (hown : w.ownsRow base e 1 v n xs)
    (A : Option Addr) (m c : Nat) (news : List Value) (hx : a.eval x = .slice A m c) (hm : m = news.length) (hsl : Sl w A c news) (h1 : ∀ u ∈ news, u.oneCell' = true)
    (h63 : n + m ≤ maxLen) (hbytes : (n + m) * bytes ≤ 140737488355328) (hbase : base ≤ w.heap.size)
    (h : ∀ v' w', w'.ownsRow base e 1 v' (n + m) (xs ++ news) → w.grownBy w' v.ownBlock → wpList P ops Q rest (a.put o.dst v') w') : wpList P ops Q (o :: rest) a w := by
  subst hm
  cases A with
  | none =>
    have hc := hsl.bare rfl
    have hl := hsl.room
    obtain rfl : news = [] := List.eq_nil_of_length_eq_zero (by omega)
    subst hc
    refine wpList_append_own_none hgd s x t ho base e i 1 ht hi v n xs hs hown hx (h v w ?_ (World.grownBy.refl w _))
    simpa using hown
  | some ad => exact wpList_append_own w hgd s x t ho base e i z 1 bytes ht hi hz hsize hby hzs (by omega) v n xs hs hown ad news.length c news hx (by omega) hsl.rd.at_add h1 h63 hbytes hbase fun v' w' h2 h3 _ => h v' w' h2 h3

def byts (xs : List UInt8) : List Value := xs.map fun b => Value.int .u8 (b.toNat : Int)
theorem length_byts (xs : List UInt8) : (byts xs).length = xs.length := by unfold byts; simp
theorem get_byts (xs : List UInt8) (i : Nat) (h : i < xs.length) : (byts xs)[i]? = some (.int .u8 ((xs.getD i 0).toNat : Int)) := by
  unfold byts; simp [h]
theorem byts_append (xs ys : List UInt8) : byts (xs ++ ys) = byts xs ++ byts ys := by unfold byts; simp
theorem byts_one (xs : List UInt8) : ∀ v ∈ byts xs, v.oneCell' = true := by
  intro v hv
  obtain ⟨_, _, rfl⟩ := List.mem_map.1 hv
  rfl
theorem byte_bd (b : UInt8) : 0 ≤ (b.toNat : Int) ∧ (b.toNat : Int) < 256 := by have := b.toNat_lt; omega
/-- The call gave a slice of its own that holds just these bytes; what was there before is as it was. -/
def GaveBytes (xs : List UInt8) (w : World) (e : Ending) (w' : World) : Prop :=
  ∃ v, e = .returned v ∧ w'.ownsRow w.heap.size 5 1 v xs.length (byts xs) ∧ Below w.heap.size w w'

/-! ### A region that draws its order, step by step -/
theorem put_some (l : List Value) (d : List Deferred) (i : Nat) (v : Value) : ({ tmps := l.toArray, defers := d } : Act).put (some i) v = { tmps := (l.set i v).toArray, defers := d } := by
  simp [Act.put]
/-- What is kept in a region may be narrowed on the way: behind a call that made memory, to what keeps that. -/
theorem wpAnyH_narrow {P : Program} {md : Region.Mode} {ops : Array Oper} {Q : Exit → Act → World → Prop} {S S' : World → Prop} (hS : ∀ w, S' w → S w) :
    ∀ (fuel : Nat) (listed : Array Bool) (a : Act) (w : World), wpAnyH P md ops Q S' fuel listed a w → wpAnyH P md ops Q S fuel listed a w
  | 0, _, _, _, h => h
  | fuel + 1, _, _, _, h => ⟨h.1, fun i hi => wpOp_mono (fun a' w' h' => ⟨hS _ h'.1, wpAnyH_narrow hS fuel _ a' w' h'.2⟩) (h.2 i hi)⟩
section
variable {P : Program} {md : Region.Mode} {ops : Array Oper} {Q : Exit → Act → World → Prop} {S : World → Prop} {fuel : Nat} {listed : Array Bool} {a : Act} {w : World}
theorem rtake (i : Nat) (o : Oper) (d : Option Tmp) (v : Value) (hi : ops[i]? = some o) (hd : o.dst = d) (hs : Region.noSelect ops = true) (hf : Region.free md ops listed i = true) (hr : (Region.ready md ops listed).contains i = true)
    (hQ : ∀ c a w, Q (.panic c) (a.put d v) w → Q (.panic c) a w) (hw : Region.wanted o (yielded ops a.tmps) = true) (hS : S w) (hy : ∀ w, S w → (execOp a.eval o).run P w = .ok (.value v) w)
    (h : wpAnyH P md ops Q S fuel (listed.setIfInBounds i true) (a.put d v) w) : wpAnyH P md ops Q S (fuel + 1) listed a w := by
  subst hd
  exact wpAnyH_take hi hs hf hr hQ (Or.inl ⟨hw, hy⟩) hS h
end
end Go.Proofs.YtlocgfekgbdlmaaDoor

/- LAYER 1: package word's tables, read. -/
namespace Go.Proofs.YtlocgfekgbdlmaaDoor
open Go.RowKit

/-- The table of the cube roots lies in memory as the program's text has it. -/
structure Cube (w : World) : Prop where
  at_ : ∀ i, i < 64 → w.cell? ⟨1, i, none⟩ = some (.int .u32 (cubeT.getD i 0))
theorem Cube.size {w : World} (h : Cube w) : 1 < w.heap.size :=
  World.block_lt_of_cell? w ⟨1, 0, none⟩ (h.at_ 0 (by decide))
theorem Cube.later {w w' : World} {B : Nat} (h : Cube w) (hb : Below B w w') (hB : w.heap.size ≤ B) : Cube w' :=
  ⟨fun i hi => by rw [hb.cell (p := ⟨1, i, none⟩) (Nat.lt_of_lt_of_le h.size hB)]; exact h.at_ i hi⟩
/-- The table of the square roots lies in memory as the program's text has it. -/
structure Square (w : World) : Prop where
  at_ : ∀ i, i < 8 → w.cell? ⟨0, i, none⟩ = some (.int .u32 (squareT.getD i 0))
theorem Square.size {w : World} (h : Square w) : 0 < w.heap.size :=
  World.block_lt_of_cell? w ⟨0, 0, none⟩ (h.at_ 0 (by decide))
theorem Square.later {w w' : World} {B : Nat} (h : Square w) (hb : Below B w w') (hB : w.heap.size ≤ B) : Square w' :=
  ⟨fun i hi => by rw [hb.cell (p := ⟨0, i, none⟩) (Nat.lt_of_lt_of_le h.size hB)]; exact h.at_ i hi⟩
/-- The two tables of package word lie in memory as the program's text has them. -/
structure Tabs (w : World) : Prop where
  cu : Cube w
  sq : Square w
theorem Tabs.later {w w' : World} {B : Nat} (h : Tabs w) (hb : Below B w w') (hB : w.heap.size ≤ B) : Tabs w' := ⟨h.cu.later hb hB, h.sq.later hb hB⟩
def primeV (i : Int) : Int := if 0 ≤ i ∧ i < 64 then cubeT.getD i.toNat 0 else 0
theorem prime_any (i : Int) (w : World) (hT : Cube w) (hi : -9223372036854775808 ≤ i ∧ i ≤ 9223372036854775807) :
    Calls Tryd.prog 55 #[.int .i64 i] w fun e w' => e = .returned (.int .u32 (primeV i)) ∧ w = w' := by
  by_cases h : 0 ≤ i ∧ i < 64
  · obtain ⟨h0, h1⟩ := h
    obtain ⟨n, rfl⟩ := Int.eq_ofNat_of_zero_le h0
    have e : primeV (n : Int) = cubeT.getD n 0 := by unfold primeV; rw [if_pos ⟨h0, h1⟩, Int.toNat_natCast]
    rw [e]
    have c := hT.at_ n (by omega)
    generalize cubeT.getD n 0 = C at *
    clear e hT
    go_enter Tryd.func55, Tryd.ntmps55
    go_wp2
    go_ret
    exact ⟨rfl, rfl⟩
  · have e : primeV i = 0 := by unfold primeV; rw [if_neg h]
    rw [e]
    clear e
    by_cases h1 : i < 0
    · go_enter Tryd.func55, Tryd.ntmps55
      go_wp2
      go_ret
      exact ⟨rfl, rfl⟩
    · have h2 : 64 ≤ i := by omega
      go_enter Tryd.func55, Tryd.ntmps55
      go_wp2
      go_ret
      exact ⟨rfl, rfl⟩
def startV : Value := .agg (squareT.map (Value.int .u32)).toArray
theorem start_any (w : World) (hT : Square w) :
    Calls Tryd.prog 51 #[] w fun e w' => e = .returned startV ∧ Below w.heap.size w w' := by
  have c0 : w.cell? ⟨0, 0, none⟩ = some (.int .u32 1779033703) := hT.at_ 0 (by decide)
  have c1 : w.cell? ⟨0, 1, none⟩ = some (.int .u32 3144134277) := hT.at_ 1 (by decide)
  have c2 : w.cell? ⟨0, 2, none⟩ = some (.int .u32 1013904242) := hT.at_ 2 (by decide)
  have c3 : w.cell? ⟨0, 3, none⟩ = some (.int .u32 2773480762) := hT.at_ 3 (by decide)
  have c4 : w.cell? ⟨0, 4, none⟩ = some (.int .u32 1359893119) := hT.at_ 4 (by decide)
  have c5 : w.cell? ⟨0, 5, none⟩ = some (.int .u32 2600822924) := hT.at_ 5 (by decide)
  have c6 : w.cell? ⟨0, 6, none⟩ = some (.int .u32 528734635) := hT.at_ 6 (by decide)
  have c7 : w.cell? ⟨0, 7, none⟩ = some (.int .u32 1541459225) := hT.at_ 7 (by decide)
  have hs := hT.size
  clear hT
  go_enter Tryd.func51, Tryd.ntmps51
  go_wp2
  go_returns
  refine ⟨rfl, ?_⟩
  go_grown
end Go.Proofs.YtlocgfekgbdlmaaDoor

/- WHAT ALL CARDS OF THIS SEAT SHARE: the listed tables, read off the row's condition; a world for the witness. -/
namespace Go.Proofs.YtlocgfekgbdlmaaDoor
open Go.ChangeShapes Go.WideShapes Go.ChangeAt Go.RowKit

theorem own : ownKnob Tryd.prog.godebug = none := by kernel_rfl
theorem laidOut : laidOutB Tryd.prog = true := by kernel_rfl
theorem gCube : Tryd.prog.globalNamed "chitty/word.cubeRoots" = some 1 := by kernel_rfl
theorem gCubeT : (Tryd.prog.globals[1]?).map (·.type) = some 80 := by kernel_rfl
theorem gSquare : Tryd.prog.globalNamed "chitty/word.squareRoots" = some 0 := by kernel_rfl
theorem gSquareT : (Tryd.prog.globals[0]?).map (·.type) = some 74 := by kernel_rfl
theorem cells64 : Tryd.prog.cellsOf 80 = 64 := by kernel_rfl
theorem cells8 : Tryd.prog.cellsOf 74 = 8 := by kernel_rfl
theorem cells1 : Tryd.prog.cellsOf 53 = 1 := by kernel_rfl

/-- The first of the listed variables is a table of integers; the others follow. -/
theorem tab_of_vars {P : Program} {W : World} {name : String} {k : IntKind} {zs : List Int} {rest : List (String × DataW Unit)} {ps : List MemPlace} {g : Nat} {t e : TypeId} {n : Nat}
    (hg : P.globalNamed name = some g) (hty : (P.globals[g]?).map (·.type) = some t) (ht : P.underlying t = some (.array n e)) (he : P.underlying e = some (.int k)) (hce : P.cellsOf e = 1) (hct : P.cellsOf t = n)
    (h : DataW.LaidVars P W ((name, Lib.tabData k zs) :: rest) ps) : Lib.TabIs P W name k zs ∧ ∃ qs, DataW.LaidVars P W rest qs := by
  obtain ⟨g', t', cs, fuel, p, q, hg', ht', hvar, hd, hr, _⟩ := h
  obtain rfl := Option.some.inj (hg.symm.trans hg')
  obtain rfl := Option.some.inj (hty.symm.trans ht')
  refine ⟨?_, q, hr⟩
  unfold Lib.TabIs
  rw [hvar, ← Lib.cells_of_tab ht he hce hct hd]
/-- What the row's list gives, where both tables are listed. -/
theorem tabs_of {W : World} (h : laidMet Tryd.prog [("chitty/word.cubeRoots", Rows.laid_chitty_word_cubeRoots), ("chitty/word.squareRoots", Rows.laid_chitty_word_squareRoots)] W) : Tabs W := by
  obtain ⟨ps, hv, _⟩ := h
  obtain ⟨t1, qs, h2⟩ := tab_of_vars (zs := cubeT) gCube gCubeT Tryd.underlying80 Tryd.underlying53 cells1 cells64 hv
  obtain ⟨t2, _, _⟩ := tab_of_vars (zs := squareT) gSquare gSquareT Tryd.underlying74 Tryd.underlying53 cells1 cells8 h2
  exact ⟨⟨fun i hi => t1.cell gCube i hi⟩, ⟨fun i hi => t2.cell gSquare i hi⟩⟩
/-- Where the cube roots alone are listed. -/
theorem cube_of {W : World} (h : laidMet Tryd.prog [("chitty/word.cubeRoots", Rows.laid_chitty_word_cubeRoots)] W) : Cube W := by
  obtain ⟨ps, hv, _⟩ := h
  obtain ⟨t1, qs, h2⟩ := tab_of_vars (zs := cubeT) gCube gCubeT Tryd.underlying80 Tryd.underlying53 cells1 cells64 hv
  exact ⟨fun i hi => t1.cell gCube i hi⟩
theorem ints_of_list {k : IntKind} (l : List Value) (h : ∀ i, i < l.length → ∃ z, l[i]? = some (.int k z) ∧ (Lit.int k z).wf = true) :
    ∃ zs : List Int, zs.length = l.length ∧ l = zs.map (Value.int k) ∧ ∀ i, i < l.length → (Lit.int k (zs.getD i 0)).wf = true := by
  induction l with
  | nil => exact ⟨[], rfl, rfl, fun i hi => by simp at hi⟩
  | cons c l ih =>
    obtain ⟨z, hz, hw⟩ := h 0 (by simp)
    obtain ⟨zs, h1, h2, h3⟩ := ih (fun i hi => by simpa using h (i + 1) (by simpa using hi))
    simp at hz
    subst hz
    refine ⟨z :: zs, by simp [h1], by simp [h2], fun i hi => ?_⟩
    cases i with
    | zero => simpa using hw
    | succ i => simpa using h3 i (by simpa using hi)
/-- An argument that is an array of integers. -/
theorem open_intArray {H : Type} {enc : TypeId × Value → H} {P : Program} {W : World} {r : Reach} {b0 b1 : Nat} {sp : Nat → Bool} {held : Bool} {t e : TypeId} {n : Nat} {k : IntKind} {v : Value} {d : DataW H} {p : List MemPlace}
    (ht : P.underlying t = some (.array n e)) (he : P.underlying e = some (.int k)) (hce : P.cellsOf e = 1) (hct : P.cellsOf t = n)
    (hv : Value.okWide P W r b0 t v) (h : DataW.Trod enc P W b1 sp held t v d p) : ∃ zs : List Int, zs.length = n ∧ v = .agg (zs.map (Value.int k)).toArray ∧ ∀ i, i < n → (Lit.int k (zs.getD i 0)).wf = true := by
  simp only [Value.okWide, ht] at hv
  obtain ⟨cs, rfl, hsz, _⟩ := hv
  rw [hct] at hsz
  obtain ⟨fuel, hf⟩ := h
  obtain ⟨xs, m, _, _, _, hxl, hel⟩ := DataW.trod_array ht hf
  rw [hce] at hel
  have hel' : ∀ i, i < n → ∃ z, cs.toList[i]? = some (.int k z) ∧ (Lit.int k z).wf = true := by
    intro i hi
    have h1 := hel i hi
    rw [List.getElem?_eq_getElem (by omega)] at h1
    obtain ⟨z, hc, _, hw⟩ := DataW.trod_int he h1
    refine ⟨z, ?_, hw⟩
    have := congrArg (·[0]?) hc
    simpa [Value.cells, List.getElem?_take, List.getElem?_drop] using this
  have hl : cs.toList.length = n := by simpa using hsz
  have hall := ints_of_list (k := k) cs.toList (fun i hi => hel' i (by omega))
  obtain ⟨zs, h1, h2, h3⟩ := hall
  exact ⟨zs, by omega, by rw [← h2], fun i hi => h3 i (by omega)⟩
theorem bytes_of_ints (zs : List Int) (h : ∀ j, j < zs.length → 0 ≤ zs.getD j 0 ∧ zs.getD j 0 ≤ 255) : ∃ l : List UInt8, l.length = zs.length ∧ zs.map (Value.int .u8) = byts l := by
  induction zs with
  | nil => exact ⟨[], rfl, rfl⟩
  | cons z zs ih =>
    have h0 := h 0 (by simp)
    obtain ⟨l, h1, h2⟩ := ih (fun j hj => by simpa using h (j + 1) (by simpa using hj))
    simp only [List.getD_cons_zero] at h0
    refine ⟨UInt8.ofNat z.toNat :: l, by simp [h1], ?_⟩
    show Value.int .u8 z :: zs.map (Value.int .u8) = Value.int .u8 ((UInt8.ofNat z.toNat).toNat : Int) :: byts l
    rw [h2, UInt8.toNat_ofNat']
    congr 2
    omega
/-- An argument that is a slice of bytes. -/
theorem open_byteSlice {H : Type} {enc : TypeId × Value → H} {W : World} {held : Bool} {b1 : Nat} {a : Option Addr} {len cap : Nat} {d : DataW H} {p : List MemPlace}
    (h : DataW.Trod enc Tryd.prog W b1 (fun _ => true) held 28 (.slice a len cap) d p) : ∃ l : List UInt8, len = l.length ∧ Sl W a cap (byts l) ∧ l.length ≤ 9223372036854775807 := by
  obtain ⟨fuel, hf⟩ := h
  rcases open_ints Tryd.underlying28 Tryd.underlying5 (by kernel_rfl) hf with ⟨hcs, _⟩ | ⟨x, l, c, zs, hcs, _, hl, hm, hz, _, hcell, hwz⟩
  · simp [Value.cells] at hcs
    obtain ⟨rfl, rfl, rfl⟩ := hcs
    exact ⟨[], rfl, ⟨.inl rfl, Nat.le_refl _, fun _ => rfl⟩, by simp⟩
  · simp [Value.cells] at hcs
    obtain ⟨rfl, rfl, rfl⟩ := hcs
    have hzl : zs.length = cap := by simpa using hz
    have hb : ∀ i, i < zs.length → 0 ≤ zs.getD i 0 ∧ zs.getD i 0 ≤ 255 := by
      intro i hi
      refine bounds_u8 (hwz _ ?_)
      rw [List.getD_eq_getElem?_getD, List.getElem?_eq_getElem hi]
      exact List.getElem_mem hi
    have hlen : ((zs.take len).map fun z => UInt8.ofNat z.toNat).length = len := by simp; omega
    refine ⟨(zs.take len).map fun z => UInt8.ofNat z.toNat, hlen.symm, ⟨?_, by rw [length_byts, hlen]; omega, fun h => by cases h⟩, by rw [hlen]; unfold maxLen at hm; omega⟩
    by_cases h0 : len = 0
    · subst h0; exact .inl rfl
    · obtain ⟨b, off, spot⟩ := x
      have hc0 := hcell 0 (by omega)
      have hspot : spot = none := by simpa [Addr.add] using World.cell?_spot hc0
      subst hspot
      refine .inr ⟨b, off, rfl, ?_, fun i hi => ?_⟩
      · have := World.block_lt_of_cell? W _ hc0
        rw [Addr.add_lit] at this; exact this
      · rw [length_byts, hlen] at hi
        have hci := hcell i (by omega)
        rw [Addr.add_lit] at hci
        rw [hci, get_byts _ _ (by rw [hlen]; exact hi)]
        have hbi := hb i (by omega)
        have e : ((zs.take len).map fun z => UInt8.ofNat z.toNat).getD i 0 = UInt8.ofNat (zs.getD i 0).toNat := by
          simp [hi, show i < zs.length by omega]
        rw [e, UInt8.toNat_ofNat']
        congr 2
        omega
/-- The form's own reach pays for an argument that is a slice of bytes. -/
theorem sized_bytes {H : Type} {enc : TypeId × Value → H} {W : World} {held : Bool} {b1 : Nat} {a : Option Addr} {len cap : Nat} {d : DataW H} {p : List MemPlace} {ts : List TypeId} {ds : List (DataW H)}
    (h : DataW.Trod enc Tryd.prog W b1 (fun _ => true) held 28 (.slice a len cap) d p) (hsz : (DataW.weightsEach Tryd.prog ts ds).all (· ≤ reachBytes) = true) {j : Nat} (ht : ts[j]? = some 28) (hd : ds[j]? = some d) : len ≤ 140737488351232 := by
  obtain ⟨fuel, hf⟩ := h
  rcases open_ints Tryd.underlying28 Tryd.underlying5 (by kernel_rfl) hf with ⟨hcs, _⟩ | ⟨x, l, c, zs, hcs, _, hl, hm, hz, hx, hcell, hwz⟩
  · simp [Value.cells] at hcs
    obtain ⟨rfl, rfl, rfl⟩ := hcs
    omega
  · simp [Value.cells] at hcs
    obtain ⟨rfl, rfl, rfl⟩ := hcs
    simp only [Prod.mk.injEq] at hx
    obtain ⟨rfl, _⟩ := hx
    have hzl : zs.length = cap := by simpa using hz
    have h1 := sized_slice hsz (e := 5) ht hd Tryd.underlying28
    rw [show Tryd.prog.bytesOf 5 = 1 by kernel_rfl] at h1
    simp only [lits, List.length_map, List.length_take, List.length_drop, reachBytes] at h1
    omega
theorem bytes_str (s : ByteArray) : ∃ l : List UInt8, s = ⟨l.toArray⟩ := ⟨s.data.toList, by obtain ⟨⟨l⟩⟩ := s; rfl⟩
def setTab (zs : List Int) : Obj → Obj
  | .cells _ t frozen => .cells (zs.map (Value.int .u32)).toArray t frozen
  | o => o
/-- The settled world, the tables as their initialisers lay them. -/
noncomputable def laidWorld (os : Os) : World :=
  { World.holding Tryd.prog os ⟨#[], #[], []⟩ with heap := ((World.holding Tryd.prog os ⟨#[], #[], []⟩).heap.modify 1 (setTab cubeT)).modify 0 (setTab squareT) }
/-- The settled world, the cube roots as their initialiser lays them. -/
noncomputable def cubeWorld (os : Os) : World :=
  { World.holding Tryd.prog os ⟨#[], #[], []⟩ with heap := (World.holding Tryd.prog os ⟨#[], #[], []⟩).heap.modify 1 (setTab cubeT) }
/-- The settled world, where nothing is listed. -/
noncomputable def bareWorld (os : Os) : World := World.holding Tryd.prog os ⟨#[], #[], []⟩
end Go.Proofs.YtlocgfekgbdlmaaDoor

/- MEMORY, MORE: 'append(x, make([]T, n)...)' onto a slice of the call's own; bytes 0. No Go function is spoken of here. -/
namespace Go.Proofs.YtlocgfekgbdlmaaDoor
open Go Go.RowKit

theorem own_mono {w : World} {base base' : Nat} {e : TypeId} {size : Nat} {v : Value} {n : Nat} {xs : List Value} (h : w.ownsRow base e size v n xs) (hb : base' ≤ base) : w.ownsRow base' e size v n xs :=
  ⟨h.1, h.2.imp id fun ⟨g, cap, cur, h1, h2, h3⟩ => ⟨g, cap, cur, h1, Nat.le_trans hb h2, h3⟩⟩
theorem zeros_list (k : IntKind) (m : Nat) : (Builtin.zeroCells (Value.int k 0).cells m).toList = List.replicate m (Value.int k 0) := by
  apply List.ext_getElem
  · simp [Builtin.zeroCells, Value.cells]
  · intro i h1 h2
    simp [Builtin.zeroCells, Value.cells, Nat.mod_one]
theorem made_list (k : IntKind) (m : Nat) : (madeCells (Value.int k 0).cells (m * 1)).toList = List.replicate m (Value.int k 0) := by
  apply List.ext_getElem
  · simp [madeCells, Value.cells]
  · intro i h1 h2
    simp [madeCells, Value.cells, Nat.mod_one]
theorem zeros_one (k : IntKind) (m : Nat) : ∀ u ∈ List.replicate m (Value.int k 0), u.oneCell' = true := by
  intro u hu
  obtain ⟨_, rfl⟩ := List.mem_replicate.1 hu
  rfl
theorem zeros_eq (k : IntKind) (m : Nat) : Builtin.zeroCells (Value.int k 0).cells m = (List.replicate m (Value.int k 0)).toArray := by
  apply Array.ext'
  rw [zeros_list]
theorem run_append_zeros_room {P : Program} (w : World) (t tn ty e : TypeId) (i : TypeInfo) (q k kn : IntKind) (ht : P.underlying t = some (.slice e)) (htn : P.underlying tn = some (.int kn)) (hi : P.info? e = some i) (hz : i.zero = some (.int q 0)) (hsize : i.size = 1)
    (g n cap m : Nat) (cur : Array Value) (hg : w.heap[g]? = some (.cells cur e (0, 0))) (hroom : n + m ≤ cap) (hfit : n + m ≤ cur.size) (hm : (m : Int) ≤ 9223372036854775807) (h48 : m * i.bytes ≤ 281474976710656) :
    (Builtin.append_ #[t, tn] ty #[.slice (some ⟨g, 0, none⟩) n cap, .int k m]).run P w =
      .ok (.slice (some ⟨g, 0, none⟩) (n + m) cap) (w.setRow g (cur.toList.take n ++ List.replicate m (Value.int q 0) ++ cur.toList.drop (n + m)).toArray) := by
  have hw : IntKind.i64.wrap (m : Int) = m := by rw [IntKind.wrap_i64]; omega
  have hneg : ¬ ((m : Int) < 0) := by omega
  have h48i : ¬ (281474976710656 < (m : Int) * (i.bytes : Int)) := by
    rw [← Int.natCast_mul]
    omega
  have hst := run_storeCells_at P g n e (List.replicate m (Value.int q 0)) 0 cur w hg (by simpa using hfit) (zeros_one q m)
  simp only [Nat.add_zero, List.length_replicate] at hst
  by_cases h0 : m = 0
  · subst h0
    have hroom' : n ≤ cap := hroom
    have hw0 : IntKind.i64.wrap 0 = 0 := by rw [IntKind.wrap_i64]; rfl
    have hst' : (storeCells ⟨g, n, none⟩ []).run P w = Result.ok () (w.setRow g (cur.toList.take n ++ cur.toList.drop n).toArray) := by simpa using hst
    simp [Builtin.append_, run_underlying ht, run_underlying htn, sizeOf, typeInfo, zeroValue, hi, hz, hsize, asInt, asIntOf, hw0, hroom', Addr.add_lit, hst']
  · simp [Builtin.append_, run_underlying ht, run_underlying htn, sizeOf, typeInfo, zeroValue, hi, hz, hsize, asInt, asIntOf, hw, hneg, h48i, h0, hroom, Addr.add_lit, zeros_list, hst]
theorem run_append_zeros_grow {P : Program} (w : World) (t tn ty e : TypeId) (i : TypeInfo) (q k kn : IntKind) (ht : P.underlying t = some (.slice e)) (htn : P.underlying tn = some (.int kn)) (hi : P.info? e = some i) (hz : i.zero = some (.int q 0)) (hsize : i.size = 1)
    (b : Addr) (n cap m : Nat) (olds : List Value) (hlo : olds.length = n * i.size) (holds : ∀ j v, olds[j]? = some v → w.cell? (b.add j) = some v)
    (hg : cap < n + m) (h0 : m ≠ 0) (hm : ((n + m : Nat) : Int) ≤ 9223372036854775807) (h48 : m * i.bytes ≤ 281474976710656) (hfit : Builtin.nextslicecap (n + m) cap * i.bytes ≤ 281474976710656) :
    (Builtin.append_ #[t, tn] ty #[.slice (some b) n cap, .int k m]).run P w =
      .ok (.slice (some ⟨w.heap.size, 0, none⟩) (n + m) (grownCap w (n + m) cap e))
        (w.drew.alloc (.cells (olds.toArray ++ (List.replicate m (Value.int q 0)).toArray ++ Builtin.zeroCells (Value.int q 0).cells (grownCap w (n + m) cap e - (n + m))) e)) := by
  have hw : IntKind.i64.wrap (m : Int) = m := by rw [IntKind.wrap_i64]; omega
  have hneg : ¬ ((m : Int) < 0) := by omega
  have h48i : ¬ (281474976710656 < (m : Int) * (i.bytes : Int)) := by
    rw [← Int.natCast_mul]
    omega
  have hn : ¬ (n + m ≤ cap) := by omega
  have h63' : ¬ (9223372036854775807 < ((n : Int) + (m : Int))) := by omega
  have h48' : ¬ (281474976710656 < Builtin.nextslicecap (n + m) cap * i.bytes) := by omega
  have hfo := run_firstCells_some (P := P) w.drew i.size n b n cap olds hlo (by simpa using holds)
  rw [hsize] at hfo
  simp [Builtin.append_, run_underlying ht, run_underlying htn, sizeOf, typeInfo, zeroValue, hi, hz, hsize, asInt, asIntOf, hw, hneg, h48i, h0, hn, h63', h48', Question.forced, hfo, newRow, grownCap, zeros_eq]
/-- 'append(x, make([]T, m)...)', x a slice of the call's own that has an array. -/
theorem run_append_own_zeros {P : Program} (w : World) (base : Nat) (t tn ty e : TypeId) (i : TypeInfo) (q k kn : IntKind) (bytes : Nat) (ht : P.underlying t = some (.slice e)) (htn : P.underlying tn = some (.int kn)) (hi : P.info? e = some i) (hz : i.zero = some (.int q 0)) (hsize : i.size = 1) (hby : i.bytes = bytes)
    (g n cap m : Nat) (xs : List Value) (hown : w.ownsRow base e 1 (.slice (some ⟨g, 0, none⟩) n cap) n xs)
    (h63 : n + m ≤ maxLen) (hbytes : (n + m) * bytes ≤ 140737488355328) (hbase : base ≤ w.heap.size) :
    ∃ v' w', (Builtin.append_ #[t, tn] ty #[.slice (some ⟨g, 0, none⟩) n cap, .int k m]).run P w = .ok v' w' ∧ w'.ownsRow base e 1 v' (n + m) (xs ++ List.replicate m (Value.int q 0)) ∧ w.grownBy w' (some g) := by
  subst hby
  have hsmall : n + m ≤ 9223372036854775807 := by simp only [maxLen] at h63; omega
  have hlx : xs.length = n := by have := hown.1; omega
  have hlen : (xs ++ List.replicate m (Value.int q 0)).length = (n + m) * 1 := by rw [List.length_append, List.length_replicate, hlx]; omega
  have hb48 : m * i.bytes ≤ 281474976710656 := by
    have : m * i.bytes ≤ (n + m) * i.bytes := Nat.mul_le_mul_right _ (Nat.le_add_left m n)
    omega
  rcases hown.2 with ⟨h, _⟩ | ⟨g', cap', cur, hv, hbg, hg, hnc, hcm, hcs, htake⟩
  · cases h
  injection hv with h1 h2 h3
  injection h1 with h1
  injection h1 with h1
  subst h1 h3
  rw [Nat.mul_one] at hcs htake
  by_cases hroom : n + m ≤ cap
  · have hr := run_append_zeros_room (P := P) w t tn ty e i q k kn ht htn hi hz hsize g n cap m cur hg hroom (by omega) (by omega) hb48
    refine ⟨_, _, hr, ⟨hlen, .inr ⟨g, cap, _, rfl, hbg, setRow_heap w g cur _ e _ hg, hroom, hcm, ?_, ?_⟩⟩, ⟨rfl, rfl, rfl, by simp, fun k _ hk => setRow_other w g k _ (fun e => hk (by rw [e]))⟩⟩
    · simp only [List.size_toArray, List.length_append, List.length_take, List.length_drop, Array.length_toList, List.length_replicate]
      omega
    · rw [htake, ← hlen]
      exact List.take_left
  · have h0 : m ≠ 0 := by omega
    have holds : ∀ j u, xs[j]? = some u → w.cell? ((⟨g, 0, none⟩ : Addr).add j) = some u := hown.cells (g := g) rfl
    have hr := run_append_zeros_grow (P := P) w t tn ty e i q k kn ht htn hi hz hsize ⟨g, 0, none⟩ n cap m xs (by rw [hsize]; omega) holds (by omega) h0 (by omega) hb48 (growslice_fits (by omega) hbytes)
    have hge := grownCap_ge w (n + m) cap e
    have hcm : grownCap w (n + m) cap e ≤ maxLen := grownCap_le_maxLen w (n + m) cap e h63
    refine ⟨_, _, hr, ⟨hlen, .inr ⟨w.heap.size, _, _, rfl, hbase, heap_alloc_new w.drew _, hge, hcm, ?_, ?_⟩⟩, ⟨rfl, rfl, rfl, by simp, fun b hb _ => heap_alloc_old w.drew _ hb⟩⟩
    · have hzc : (Value.int q 0).cells.size = 1 := rfl
      simp only [Array.size_append, List.size_toArray, size_zeroCells, List.length_replicate, hlx, hzc]
      omega
    · simp only [Array.toList_append]
      rw [← hlen]
      exact List.take_left
theorem wpList_append_own_zeros {P : Program} {w : World} {ops : Array Oper} {rest : List Oper} {o : Oper} {a : Act} {Q : Exit → Act → World → Prop} (hgd : o.guard = none) (s x : Operand) (t tn : TypeId)
    (ho : o.op = .call { callee := .builtin .append, args := #[s, x], argTypes := #[t, tn] })
    (base : Nat) (e : TypeId) (i : TypeInfo) (q k kn : IntKind) (bytes : Nat) (ht : P.underlying t = some (.slice e)) (htn : P.underlying tn = some (.int kn)) (hi : P.info? e = some i) (hz : i.zero = some (.int q 0)) (hsize : i.size = 1) (hby : i.bytes = bytes)
    (g n cap m : Nat) (M : Int) (xs : List Value) (hs : a.eval s = .slice (some ⟨g, 0, none⟩) n cap) (hown : w.ownsRow base e 1 (.slice (some ⟨g, 0, none⟩) n cap) n xs) (hx : a.eval x = .int k M) (hM : M = (m : Int))
    (h63 : n + m ≤ maxLen) (hbytes : (n + m) * bytes ≤ 140737488355328) (hbase : base ≤ w.heap.size)
    (h : ∀ v' w', w'.ownsRow base e 1 v' (n + m) (xs ++ List.replicate m (.int q 0)) → w.grownBy w' (some g) → wpList P ops Q rest (a.put o.dst v') w') : wpList P ops Q (o :: rest) a w := by
  subst hM
  refine wpList_plain hgd fun K hK => ?_
  obtain ⟨v', w', hrun, h2, h3⟩ := run_append_own_zeros (P := P) w base t tn o.type e i q k kn bytes ht htn hi hz hsize hby g n cap m xs hown h63 hbytes hbase
  unfold Oper.wp execOp
  simp only [ho, resolve, invoke, builtin, Sem.run_bind, Sem.run_pure, Result.andThen_ok, List.map_toArray, List.map_cons, List.map_nil, hs, hx, hrun]
  exact hK _ _ (h v' w' h2 h3)
/-- 'append' onto a slice of the call's own that has an array: what lay in that array stays as it was. -/
theorem run_append_kept {P : Program} (w : World) (base : Nat) (t ty e : TypeId) (i : TypeInfo) (z : Value) (bytes : Nat) (ht : P.underlying t = some (.slice e)) (hi : P.info? e = some i) (hz : i.zero = some z)
    (hsize : i.size = 1) (hby : i.bytes = bytes) (hzs : z.cells.size = 1) (g n cap : Nat) (xs : List Value) (hown : w.ownsRow base e 1 (.slice (some ⟨g, 0, none⟩) n cap) n xs)
    (a : Addr) (m c : Nat) (news : List Value) (hl : news.length = m * 1) (hnews : ∀ j u, news[j]? = some u → w.cell? (a.add j) = some u) (h1 : ∀ u ∈ news, u.oneCell' = true)
    (h63 : n + m ≤ maxLen) (hbytes : (n + m) * bytes ≤ 140737488355328) (hbase : base ≤ w.heap.size) :
    ∃ v' w', (Builtin.append_ #[t, t] ty #[.slice (some ⟨g, 0, none⟩) n cap, .slice (some a) m c]).run P w = .ok v' w' ∧ w'.ownsRow base e 1 v' (n + m) (xs ++ news) ∧ w.grownBy w' (some g) ∧
      ∀ j, j < n → w'.cell? ⟨g, j, none⟩ = w.cell? ⟨g, j, none⟩ := by
  obtain ⟨v', w', hr, h2, h3, _⟩ := run_append_own (P := P) w base t ty e i z 1 bytes ht hi hz hsize hby hzs (by omega) _ n xs hown a m c news hl hnews h1 h63 hbytes hbase
  refine ⟨v', w', hr, h2, h3, fun j hj => ?_⟩
  have hlx : xs.length = n := by have := hown.1; omega
  rcases hown.2 with ⟨h, _⟩ | ⟨g', cap', cur, hv, hbg, hg, hnc, hcm, hcs, htake⟩
  · cases h
  injection hv with e1 e2 e3
  injection e1 with e1
  injection e1 with e1
  subst e1 e3
  rw [Nat.mul_one] at hcs htake
  by_cases hroom : n + m ≤ cap
  · have hfit : n * i.size + news.length ≤ cur.size := by rw [hsize, hl]; omega
    have hq := run_append_room (P := P) w t ty e i ht hi g n cap cur hg a m c news (by rw [hsize]; exact hl) hnews h1 hroom hfit
    rw [hr] at hq
    injection hq with _ hw
    rw [hw, cell_setRow_same w g j cur _ e (0, 0) hg, cell_of_row w g j cur e (0, 0) hg, hsize, Nat.mul_one]
    rw [List.getElem?_toArray, List.append_assoc, List.getElem?_append_left (by rw [List.length_take, Array.length_toList]; omega), List.getElem?_take, if_pos hj]
    simp
  · have holds : ∀ j u, xs[j]? = some u → w.cell? ((⟨g, 0, none⟩ : Addr).add j) = some u := hown.cells (g := g) rfl
    have hq := run_append_grow (P := P) w t ty e i z ht hi hz ⟨g, 0, none⟩ n cap xs (by rw [hsize]; omega) holds a m c news (by rw [hsize]; exact hl) hnews (by omega) (by simp only [maxLen] at h63; omega) (growslice_fits (by omega) (by rw [hby]; exact hbytes))
    rw [hr] at hq
    injection hq with _ hw
    have hlt : g < w.heap.size := (Array.getElem?_eq_some_iff.1 hg).1
    rw [hw, World.cell?_alloc_lt _ _ _ (by exact hlt)]
    rfl
/-- The same as one step of a region that draws its order. -/
theorem step_append_kept {P : Program} {w : World} {ops : Array Oper} {o : Oper} {a : Act} {K : Act → World → Prop} {Q : Exit → Act → World → Prop} {E : Prop} (hgd : Region.wanted o (yielded ops a.tmps) = true) (s x : Operand) (t : TypeId)
    (ho : o.op = .call { callee := .builtin .append, args := #[s, x], argTypes := #[t, t] })
    (base : Nat) (e : TypeId) (i : TypeInfo) (z : Value) (bytes : Nat) (ht : P.underlying t = some (.slice e)) (hi : P.info? e = some i) (hz : i.zero = some z)
    (hsize : i.size = 1) (hby : i.bytes = bytes) (hzs : z.cells.size = 1)
    (g n cap : Nat) (xs : List Value) (hs : a.eval s = .slice (some ⟨g, 0, none⟩) n cap) (hown : w.ownsRow base e 1 (.slice (some ⟨g, 0, none⟩) n cap) n xs)
    (ad : Addr) (m c : Nat) (news : List Value) (hx : a.eval x = .slice (some ad) m c) (hl : news.length = m * 1) (hnews : ∀ j u, news[j]? = some u → w.cell? (ad.add j) = some u) (h1 : ∀ u ∈ news, u.oneCell' = true)
    (h63 : n + m ≤ maxLen) (hbytes : (n + m) * bytes ≤ 140737488355328) (hbase : base ≤ w.heap.size)
    (h : ∀ v' w', w'.ownsRow base e 1 v' (n + m) (xs ++ news) → w.grownBy w' (some g) → (∀ j, j < n → w'.cell? ⟨g, j, none⟩ = w.cell? ⟨g, j, none⟩) → K (a.put o.dst v') w') :
    if Region.wanted o (yielded ops a.tmps) = true then Oper.wp P o a w K Q else E := by
  rw [if_pos hgd]
  obtain ⟨v', w', hrun, h2, h3, h4⟩ := run_append_kept (P := P) w base t o.type e i z bytes ht hi hz hsize hby hzs g n cap xs hown ad m c news hl hnews h1 h63 hbytes hbase
  unfold Oper.wp execOp
  simp only [ho, resolve, invoke, builtin, Sem.run_bind, Sem.run_pure, Result.andThen_ok, List.map_toArray, List.map_cons, List.map_nil, hs, hx, hrun]
  exact h v' w' h2 h3 h4
end Go.Proofs.YtlocgfekgbdlmaaDoor

/- MEMORY, WRITTEN: what lies elsewhere stays; slices cut out of slices; rows written whole; steps of regions. No Go function is spoken of here. -/
namespace Go.Proofs.YtlocgfekgbdlmaaDoor
open Go Go.RowKit

theorem all_one {xs : List Value} (h : ∀ v ∈ xs, v.oneCell' = true) : xs.toArray.all (·.oneCell') = true := by
  simpa using h
theorem row_new_set {w w3 : World} {old : Array Value} {t : TypeId} {xs : List Value} (h : (w.alloc (.cells old t)).setRow w.heap.size xs.toArray = w3) : Row w3 w.heap.size t xs ∧ Below w.heap.size w w3 := by
  subst h
  exact ⟨setRow_heap _ _ _ _ _ _ (heap_alloc_new w _), below_setRow ((Below.refl _ _).alloc (Nat.le_refl _) _) (Nat.le_refl _) _⟩
theorem range_of_row {w : World} {g : Nat} {t : TypeId} {A B C : List Value} (h : Row w g t (A ++ (B ++ C))) : w.rangeAt g A.length B := by
  intro j v hj
  have hl : j < B.length := (List.getElem?_eq_some_iff.1 hj).1
  rw [h.cell, List.getElem?_append_right (by omega), show A.length + j - A.length = j by omega, List.getElem?_append_left hl, hj]
theorem grown_of_below {w w' : World} (h : Below w.heap.size w w') (row : Option Nat) : w.grownBy w' row := ⟨h.os, h.tape, h.output, h.size, fun k hk _ => h.block k hk⟩
theorem below_of_grown {w w' : World} (h : w.grownBy w' none) : Below w.heap.size w w' := ⟨h.os, h.tape, h.output, h.size, fun k hk => h.block k hk (by simp)⟩
theorem grown_trans {a b c : World} {row : Option Nat} (h : a.grownBy b row) (k : b.grownBy c row) : a.grownBy c row :=
  ⟨k.os.trans h.os, k.tape.trans h.tape, k.output.trans h.output, Nat.le_trans h.size k.size, fun i hi hr => (k.block i (Nat.lt_of_lt_of_le hi h.size) hr).trans (h.block i hi hr)⟩
theorem grown_refl (w : World) (row : Option Nat) : w.grownBy w row := ⟨rfl, rfl, rfl, Nat.le_refl _, fun _ _ _ => rfl⟩
theorem grown_setRow (w : World) (g : Nat) (cs : Array Value) : w.grownBy (w.setRow g cs) (some g) :=
  ⟨rfl, rfl, rfl, by simp [World.setRow], fun k _ hr => setRow_other w g k cs (fun e => hr (by rw [e]))⟩
theorem grown_setCell (w : World) (g i : Nat) (v : Value) : w.grownBy (w.setCell ⟨g, i, none⟩ v) (some g) :=
  ⟨rfl, rfl, rfl, by simp [World.setCell], fun k _ hr => Below.heap_setCell _ _ _ _ (fun e => hr (by rw [e]))⟩
theorem Row.setRow {w : World} {g t : Nat} {xs : List Value} (h : Row w g t xs) (ys : List Value) : Row (w.setRow g ys.toArray) g t ys :=
  setRow_heap w g _ _ t _ h
theorem Row.grown {w w' : World} {g k t : Nat} {xs : List Value} (h : Row w g t xs) (hg : w.grownBy w' (some k)) (hne : g ≠ k) : Row w' g t xs := by
  have hl := h.lt
  unfold Row at h ⊢
  rw [hg.block g hl (fun e => hne (Option.some.inj e))]; exact h
/-- A slice that lies elsewhere reads as it did. -/
theorem Sl.apart {w w' : World} {A : Option Addr} {g c : Nat} {xs : List Value} (h : Sl w A c xs) (hg : w.grownBy w' (some g)) (hne : 0 < xs.length → ∀ a, A = some a → a.block ≠ g) : Sl w' A c xs := by
  refine ⟨?_, h.room, h.bare⟩
  rcases h.rd with hn | ⟨b, o, hA, hlt, hc⟩
  · exact .inl hn
  · subst hA
    refine .inr ⟨b, o, rfl, Nat.lt_of_lt_of_le hlt hg.size, fun i hi => ?_⟩
    rw [World.cell?_of_block (w := w) (hg.block b hlt (fun e => hne (by omega) _ rfl (Option.some.inj e)))]
    exact hc i hi
theorem Sl.block_lt {w : World} {A : Option Addr} {c : Nat} {xs : List Value} (h : Sl w A c xs) (hx : 0 < xs.length) {a : Addr} (ha : A = some a) : a.block < w.heap.size := by
  obtain ⟨b, o, hA, hlt, _⟩ := h.rd.get hx
  rw [ha] at hA; cases hA; exact hlt
/-- A slice of the call's own lies in a block of its own. -/
theorem own_apart {w : World} {base t n c g : Nat} {A : Option Addr} {xs : List Value} (h : w.ownsRow base t 1 (.slice A n c) n xs) (hg : g < base) (a : Addr) (ha : A = some a) : a.block ≠ g := by
  subst ha
  rcases h.2 with ⟨h1, _⟩ | ⟨g', cap', cur, hv, hbg, _⟩
  · cases h1
  · cases hv
    show g' ≠ g
    omega
theorem own_grown {w w' : World} {base t n g : Nat} {v : Value} {xs : List Value} (h : w.ownsRow base t 1 v n xs) (hg : w.grownBy w' (some g)) (hlt : g < base) : w'.ownsRow base t 1 v n xs := by
  refine ⟨h.1, ?_⟩
  rcases h.2 with hn | ⟨g', cap, cur, rfl, hbg, hcur, rest⟩
  · exact .inl hn
  · exact .inr ⟨g', cap, cur, rfl, hbg, (hg.block g' (Array.getElem?_eq_some_iff.1 hcur).1 (fun e => by have := Option.some.inj e; omega)).trans hcur, rest⟩
/-- The beginning of what a slice holds. -/
theorem Sl.pre {w : World} {A : Option Addr} {c : Nat} {xs ys : List Value} (h : Sl w A c (xs ++ ys)) : Sl w A c xs := by
  refine ⟨?_, by have := h.room; rw [List.length_append] at this; omega, h.bare⟩
  by_cases h0 : xs = []
  · exact .inl h0
  · have hx : 0 < xs.length := List.length_pos_iff.2 h0
    rcases h.rd with hn | ⟨b, o, hA, hlt, hc⟩
    · exact absurd (List.append_eq_nil_iff.1 hn).1 h0
    · refine .inr ⟨b, o, hA, hlt, fun i hi => ?_⟩
      rw [hc i (by rw [List.length_append]; omega), List.getElem?_append_left hi]
theorem Sl.from {w : World} {b o c k : Nat} {xs : List Value} (h : Sl w (some ⟨b, o, none⟩) c xs) (hk : k ≤ xs.length) {A2 : Addr} (hA : A2 = if c = k then ⟨b, o, none⟩ else ⟨b, o + k, none⟩) : Sl w (some A2) (c - k) (xs.drop k) := by
  subst hA
  split
  · have := h.room
    have e : xs.drop k = [] := List.drop_of_length_le (by omega)
    rw [e]
    exact ⟨.inl rfl, by simp, fun h => by cases h⟩
  · exact h.cut hk
theorem from_block {b o c k : Nat} {A2 : Addr} (hA : A2 = if c = k then ⟨b, o, none⟩ else ⟨b, o + k, none⟩) : A2.block = b := by
  subst hA; split <;> rfl
theorem Rd.block {w : World} {g : Nat} {t : TypeId} {fr : Nat × Nat} {xs : List Value} (h : w.heap[g]? = some (.cells xs.toArray t fr)) : Rd w (some ⟨g, 0, none⟩) xs :=
  .inr ⟨g, 0, rfl, (Array.getElem?_eq_some_iff.1 h).1, fun i _ => by rw [Nat.zero_add, cell_of_row w g i _ t fr h]; simp⟩
theorem Sl.take {w : World} {A : Option Addr} {c k : Nat} {xs : List Value} (h : Sl w A c xs) : Sl w A c (xs.take k) := by
  have e : xs = xs.take k ++ xs.drop k := (List.take_append_drop k xs).symm
  rw [e] at h
  exact h.pre
/-- A slice's part 'b[i:j]': nil let in. -/
theorem cut_run (A : Option Addr) (c : Nat) (l : List UInt8) (w0 : World) (h : Sl w0 A c (byts l)) (i j : Nat) (hi : i ≤ j) (hj : j ≤ l.length) :
    ∃ A' : Option Addr, (∀ w, (Instr.sliceAt 28 (.slice A l.length c) (some (.int .i64 i)) (some (.int .i64 j)) none).run Tryd.prog w = .ok (.slice A' (j - i) (c - i)) w) ∧
      (∀ w, j = l.length → (Instr.sliceAt 28 (.slice A l.length c) (some (.int .i64 i)) none none).run Tryd.prog w = .ok (.slice A' (j - i) (c - i)) w) ∧
      Sl w0 A' (c - i) (byts ((l.drop i).take (j - i))) := by
  have hr := h.room
  rw [length_byts] at hr
  cases A with
  | none =>
    have hc := h.bare rfl
    subst hc
    have hl : l.length = 0 := by omega
    obtain rfl : l = [] := List.eq_nil_of_length_eq_zero hl
    have ej : j = 0 := by simpa using hj
    have ei : i = 0 := by omega
    subst ej ei
    clear hr hl hi hj
    refine ⟨none, fun w => ?_, fun w hx => ?_, ?_⟩
    · clear h; go_simp
    · clear h hx; go_simp
    · exact h
  | some a =>
    refine ⟨some (if c = i then a else a.add i), fun w => ?_, fun w he => ?_, ?_⟩
    · have h1 : (i : Int) ≤ (j : Int) := by omega
      have h2 : (j : Int) ≤ (c : Int) := by omega
      clear h hi hj hr
      go_simp
      split <;> rfl
    · have h3 : (i : Int) ≤ (l.length : Int) := by omega
      have h2 : (l.length : Int) ≤ (c : Int) := by omega
      clear h hi hj hr
      subst he
      generalize l.length = n at *
      go_simp
      split <;> rfl
    · have eb : byts ((l.drop i).take (j - i)) = ((byts l).drop i).take (j - i) := by unfold byts; rw [List.map_take, List.map_drop]
      rw [eb]
      by_cases h0 : 0 < l.length
      · obtain ⟨b, o, he, _⟩ := h.rd.get (i := 0) (by rw [length_byts]; exact h0)
        cases he
        rw [Addr.add_lit]
        exact (h.from (by rw [length_byts]; omega) rfl).take
      · obtain rfl : l = [] := List.eq_nil_of_length_eq_zero (by omega)
        exact ⟨.inl (by simp [byts]), by simp [byts], fun h => by cases h⟩
theorem index_bytes (A : Option Addr) (b o n c k : Nat) (hA : A = some ⟨b, o, none⟩) (hk : k < n) (w : World) :
    (Instr.indexAt 28 (.slice A n c) (.int .i64 k)).run Tryd.prog w = .ok (.pointer (some ⟨b, o + k, none⟩)) w := by
  subst hA
  have h : (k : Int) < (n : Int) := by omega
  go_simp
/-- A slice below a bound reads as it did, where nothing below that bound has turned. -/
theorem Sl.under {w w' : World} {A : Option Addr} {c B : Nat} {xs : List Value} (h : Sl w A c xs) (hb : Below B w w') (hlt : 0 < xs.length → ∀ a, A = some a → a.block < B) : Sl w' A c xs := by
  refine ⟨?_, h.room, h.bare⟩
  rcases h.rd with hn | ⟨b, o, hA, hl, hc⟩
  · exact .inl hn
  · by_cases h0 : 0 < xs.length
    · subst hA
      refine .inr ⟨b, o, rfl, Nat.lt_of_lt_of_le hl hb.size, fun i hi => ?_⟩
      rw [hb.cell (p := ⟨b, o + i, none⟩) (hlt h0 ⟨b, o, none⟩ rfl)]; exact hc i hi
    · exact .inl (List.eq_nil_of_length_eq_zero (by omega))
theorem index_own (A : Option Addr) (g n c j : Nat) (hA : A = some ⟨g, 0, none⟩) (hj : j < n) (w : World) :
    (Instr.indexAt 28 (.slice A n c) (.int .i64 j)).run Tryd.prog w = .ok (.pointer (some ⟨g, j, none⟩)) w := by
  subst hA
  have h : (j : Int) < (n : Int) := by omega
  go_simp
theorem u8_next (x : UInt8) : ∃ y : UInt8, IntKind.u8.wrap ((x.toNat : Int) + 1) = (y.toNat : Int) := by
  refine ⟨UInt8.ofNat (x.toNat + 1), ?_⟩
  rw [UInt8.toNat_ofNat', IntKind.wrap_u8]; omega
theorem byts_set (ys : List UInt8) (j : Nat) (y : UInt8) : (byts ys).set j (.int .u8 (y.toNat : Int)) = byts (ys.set j y) := by
  unfold byts; rw [List.map_set]
theorem row_range {w : World} {g : Nat} {t : TypeId} {xs : List Value} (h : Row w g t xs) : w.rangeAt g 0 xs := by
  have := range_of_row (A := []) (C := []) (by rw [List.append_nil]; exact h : Row w g t ([] ++ (xs ++ [])))
  exact this
/-- Two new rows, each written whole. -/
theorem store2 {w w4 : World} {A B : Array Value} {t u : TypeId} {X Y : List Value} (h : ((((w.alloc (.cells A t)).alloc (.cells B u)).setRow w.heap.size X.toArray).setRow (w.heap.size + 1) Y.toArray) = w4) :
    Row w4 w.heap.size t X ∧ Row w4 (w.heap.size + 1) u Y ∧ Below w.heap.size w w4 := by
  subst h
  have h1 : (((w.alloc (.cells A t)).alloc (.cells B u)).setRow w.heap.size X.toArray).heap[w.heap.size + 1]? = some (.cells B u) := Eq.trans (setRow_other _ _ _ _ (by omega)) (heap_alloc2_new w _ _)
  have h0 : Row (((w.alloc (.cells A t)).alloc (.cells B u)).setRow w.heap.size X.toArray) w.heap.size t X := setRow_heap _ _ _ _ _ _ (heap_alloc2_old w _ _)
  refine ⟨?_, setRow_heap _ _ _ _ _ _ h1, below_setRow (below_setRow (((Below.refl _ w).alloc (Nat.le_refl _) _).alloc (by rw [World.size_alloc]; omega) _) (Nat.le_refl _) _) (by omega) _⟩
  unfold Row at h0 ⊢
  rw [setRow_other _ _ _ _ (by omega)]; exact h0
theorem second_new (w : World) (A B : Array Value) (t u : TypeId) (cs : Array Value) : (((w.alloc (.cells A t)).alloc (.cells B u)).setRow w.heap.size cs).heap[w.heap.size + 1]? = some (.cells B u) :=
  Eq.trans (setRow_other _ _ _ _ (by omega)) (heap_alloc2_new w _ _)
theorem Sl.hpos {w : World} {A : Option Addr} {c : Nat} {xs : List Value} (h : Sl w A c xs) (h0 : 0 < xs.length) : ∃ ad, A = some ad ∧ ∀ j v, xs[j]? = some v → w.cell? (ad.add j) = some v := by
  obtain ⟨b, o, rfl, _, _⟩ := h.rd.get h0
  exact ⟨_, rfl, h.rd.at_add⟩
theorem below_two (w : World) (X Y : Obj) : Below w.heap.size w ((w.alloc X).alloc Y) := ((Below.refl _ w).alloc (Nat.le_refl _) _).alloc (by rw [World.size_alloc]; omega) _
theorem three_later {w w3 : World} {X Y Z : Obj} (hb : Below (((w.alloc X).alloc Y).alloc Z).heap.size (((w.alloc X).alloc Y).alloc Z) w3) :
    w3.heap[w.heap.size]? = some X ∧ w3.heap[w.heap.size + 1]? = some Y ∧ Below w.heap.size w w3 ∧ w.heap.size + 3 ≤ w3.heap.size := by
  have s2 : ((w.alloc X).alloc Y).heap.size = w.heap.size + 2 := by rw [World.size_alloc, World.size_alloc]
  have s3 : (((w.alloc X).alloc Y).alloc Z).heap.size = w.heap.size + 3 := by rw [World.size_alloc, s2]
  rw [s3] at hb
  refine ⟨?_, ?_, ((below_two w X Y).alloc (by rw [s2]; omega) Z).trans (hb.mono (by omega)), by have := hb.size; omega⟩
  · rw [hb.block _ (by omega), heap_alloc_old _ _ (by omega), heap_alloc2_old]
  · rw [hb.block _ (by omega), heap_alloc_old _ _ (by omega), heap_alloc2_new]
/-- Bytes, bit by bit. -/
theorem byte_xor (a b : UInt8) : bits .xor .u8 (a.toNat : Int) (b.toNat : Int) = ((a ^^^ b).toNat : Int) := by
  show IntKind.u8.wrap ((BitVec.ofInt 8 (a.toNat : Int) ^^^ BitVec.ofInt 8 (b.toNat : Int)).toNat : Int) = _
  have e : ∀ c : UInt8, BitVec.ofInt 8 (c.toNat : Int) = c.toBitVec := fun c => by show BitVec.ofInt 8 (c.toBitVec.toNat : Int) = c.toBitVec; simp
  rw [e, e, ← UInt8.toBitVec_xor, IntKind.wrap_u8]
  have := (a ^^^ b).toNat_lt
  show ((a ^^^ b).toNat : Int) % 256 = _
  omega
theorem sl_lit (w : World) (l : List UInt8) (C : Array Value) (fr : Nat × Nat) (hC : C = (byts l).toArray) (n : Nat) (hn : l.length = n) : Sl (w.alloc (.cells C 5 fr)) (some ⟨w.heap.size, 0, none⟩) n (byts l) := by
  subst hC hn
  exact ⟨Rd.block (Go.heap_alloc_new w _), by simp [length_byts], fun h => by cases h⟩
theorem below_three (w : World) (X Y Z : Obj) : Below w.heap.size w (((w.alloc X).alloc Y).alloc Z) := (below_two w X Y).alloc (by rw [World.size_alloc, World.size_alloc]; omega) Z
/-- One step of a region that lays one new block. -/
theorem step_alloc {P : Program} {w : World} {ops : Array Oper} {o : Oper} {a : Act} {K : Act → World → Prop} {Q : Exit → Act → World → Prop} {E : Prop} (dst : Option Tmp) (hdst : o.dst = dst) (hgd : Region.wanted o (yielded ops a.tmps) = true)
    (v : Value) (ob : Obj) (hrun : (execOp a.eval o).run P w = .ok (.value v) (w.alloc ob))
    (h : ∀ w', w' = w.alloc ob → Below w.heap.size w w' → K (a.put dst v) w') : if Region.wanted o (yielded ops a.tmps) = true then Oper.wp P o a w K Q else E := by
  subst hdst
  rw [if_pos hgd]
  unfold Oper.wp
  rw [hrun]
  exact h _ rfl ((Below.refl _ w).alloc (Nat.le_refl _) ob)
theorem sl_lt {w : World} {b o c : Nat} {xs : List Value} (h : Sl w (some ⟨b, o, none⟩) c xs) (hx : 0 < xs.length) : b < w.heap.size := by
  obtain ⟨b', o', he, hlt, _⟩ := h.rd.get hx
  cases he
  exact hlt
theorem own_set {w : World} {base t g n cap : Nat} {xs : List Value} (h : w.ownsRow base t 1 (.slice (some ⟨g, 0, none⟩) n cap) n xs) (i : Nat) (v : Value) :
    (w.setCell ⟨g, i, none⟩ v).ownsRow base t 1 (.slice (some ⟨g, 0, none⟩) n cap) n (xs.set i v) := by
  refine ⟨by rw [List.length_set]; exact h.1, ?_⟩
  rcases h.2 with ⟨h1, _⟩ | ⟨g', cap', cur, hv, hbg, hg, hnc, hcm, hcs, htake⟩
  · cases h1
  injection hv with e1 e2 e3
  injection e1 with e1
  injection e1 with e1
  subst e1 e3
  refine .inr ⟨g, cap, cur.setIfInBounds i v, rfl, hbg, heap_setCell_same w g i cur t v hg, hnc, hcm, by rw [Array.size_setIfInBounds]; exact hcs, ?_⟩
  rw [Array.toList_setIfInBounds, List.take_set, htake]
theorem size_tag : (Tryd.prog.info? 23).map (·.size) = some 32 := by kernel_rfl
/-- 'append' onto a slice of the call's own that has an array: it has one behind it, too. -/
theorem wpList_append_arr {P : Program} {w : World} {ops : Array Oper} {rest : List Oper} {o : Oper} {a : Act} {Q : Exit → Act → World → Prop} (hgd : o.guard = none) (s x : Operand) (t : TypeId)
    (ho : o.op = .call { callee := .builtin .append, args := #[s, x], argTypes := #[t, t] })
    (base : Nat) (e : TypeId) (i : TypeInfo) (z : Value) (bytes : Nat) (ht : P.underlying t = some (.slice e)) (hi : P.info? e = some i) (hz : i.zero = some z)
    (hsize : i.size = 1) (hby : i.bytes = bytes) (hzs : z.cells.size = 1)
    (g0 c0 n : Nat) (xs : List Value) (hs : a.eval s = .slice (some ⟨g0, 0, none⟩) n c0) (hown : w.ownsRow base e 1 (.slice (some ⟨g0, 0, none⟩) n c0) n xs)
    (A : Option Addr) (m c : Nat) (news : List Value) (hx : a.eval x = .slice A m c) (hm : m = news.length) (hsl : Sl w A c news) (h1 : ∀ u ∈ news, u.oneCell' = true)
    (h63 : n + m ≤ maxLen) (hbytes : (n + m) * bytes ≤ 140737488355328) (hbase : base ≤ w.heap.size)
    (h : ∀ g' c' w', w'.ownsRow base e 1 (.slice (some ⟨g', 0, none⟩) (n + m) c') (n + m) (xs ++ news) → w.grownBy w' (some g0) → wpList P ops Q rest (a.put o.dst (.slice (some ⟨g', 0, none⟩) (n + m) c')) w') : wpList P ops Q (o :: rest) a w := by
  subst hm
  cases A with
  | none =>
    have hc := hsl.bare rfl
    have hl := hsl.room
    obtain rfl : news = [] := List.eq_nil_of_length_eq_zero (by omega)
    subst hc
    refine wpList_append_own_none hgd s x t ho base e i 1 ht hi _ n xs hs hown hx ?_
    exact h g0 c0 w (by simpa using hown) (World.grownBy.refl w _)
  | some ad =>
    refine wpList_append_own w hgd s x t ho base e i z 1 bytes ht hi hz hsize hby hzs (by omega) _ n xs hs hown ad news.length c news hx (by omega) hsl.rd.at_add h1 h63 hbytes hbase fun v' w' h2 h3 h4 => ?_
    rcases h2.2 with ⟨h5, _⟩ | ⟨g', cap', cur, hv, hr⟩
    · exact absurd (h4.1 h5).1 (fun h => by cases h)
    · subst hv
      exact h g' cap' w' h2 h3
theorem bit_byte (y : UInt8) (k : Nat) : bits .xor .u8 (y.toNat : Int) (2 ^ k % 256) = ((y ^^^ UInt8.ofNat (2 ^ k)).toNat : Int) := by
  rw [← byte_xor, UInt8.toNat_ofNat']
  congr 1
theorem byts_zeros (n : Nat) : byts (List.replicate n 0) = List.replicate n (.int .u8 0) := by
  unfold byts
  rw [List.map_replicate]; rfl

/-- A row written whole where it stands. -/
theorem row_set {w w4 : World} {g t : Nat} {old xs : List Value} (h0 : Row w g t old) (h : w.setRow g xs.toArray = w4) : Row w4 g t xs ∧ w.grownBy w4 (some g) := by
  subst h
  exact ⟨h0.setRow _, grown_setRow _ _ _⟩
/-- Two new rows, the second one written whole. -/
theorem row_new_set2 {w w4 : World} {old1 : List Value} {old2 : Array Value} {t u : TypeId} {xs : List Value} (h : ((w.alloc (.cells old1.toArray t)).alloc (.cells old2 u)).setRow (w.heap.size + 1) xs.toArray = w4) :
    Row w4 w.heap.size t old1 ∧ Row w4 (w.heap.size + 1) u xs ∧ Below w.heap.size w w4 := by
  subst h
  have h0 : Row ((w.alloc (.cells old1.toArray t)).alloc (.cells old2 u)) w.heap.size t old1 := heap_alloc2_old w _ _
  refine ⟨?_, setRow_heap _ _ _ _ _ _ (heap_alloc2_new w _ _), below_setRow (((Below.refl _ w).alloc (Nat.le_refl _) _).alloc (by rw [World.size_alloc]; omega) _) (by omega) _⟩
  exact h0.grown (grown_setRow _ _ _) (by omega)
/-- A row of the call's own as a slice. -/
theorem own_of_row {w : World} {g t base : Nat} {xs : List Value} (h : Row w g t xs) (hb : base ≤ g) (hm : xs.length ≤ maxLen) : w.ownsRow base t 1 (.slice (some ⟨g, 0, none⟩) xs.length xs.length) xs.length xs :=
  ⟨by rw [Nat.mul_one], .inr ⟨g, xs.length, xs.toArray, rfl, hb, h, Nat.le_refl _, hm, by rw [List.size_toArray, Nat.mul_one], by rw [Nat.mul_one]; exact List.take_length⟩⟩
/-- Results: an array that lies in memory, and a slot. -/
theorem results_row_tmp {P : Program} {fn : Func} {p u : Tmp} {ty : TypeId} (h : fn.results = #[.cell p ty, .tmp u]) (tmps : Array Value) (w : World) (g : Nat) (t : TypeId) (cs : Array Value) (fr : Nat × Nat) (d : TypeDesc)
    (hp : tmps.getD p undef = .pointer (some ⟨g, 0, none⟩)) (hg : w.heap[g]? = some (.cells cs t fr))
    (hu : P.underlying ty = some d) (hd : (match d with | .struct _ | .array _ _ => true | _ => false) = true) (hi : (P.info? ty).map (·.size) = some cs.size) (v : Value) (hv : tmps.getD u undef = v) :
    (results fn tmps).run P w = .ok (.tuple #[.agg cs, v]) w := by
  rw [results_cell_tmp h, hp, hv]
  simp [asAddr, Result.andThen, run_loadVar_row w g t ty cs fr d hg hu hd hi]
theorem Sl.range {w : World} {b o c : Nat} {xs : List Value} (h : Sl w (some ⟨b, o, none⟩) c xs) : w.rangeAt b o xs := by
  intro j v hj
  have hl : j < xs.length := (List.getElem?_eq_some_iff.1 hj).1
  obtain ⟨b', o', he, _, hc⟩ := h.rd.get hl
  cases he
  rw [hc, hj]
/-- A slice as an array that it is long enough for. -/
theorem run_arrayAt {P : Program} (arr e : TypeId) (n : Nat) (hu : P.underlying arr = some (.array n e)) (A : Option Addr) (m c : Nat) (h : n ≤ m) (w : World) :
    (Instr.arrayAt arr (.slice A m c)).run P w = .ok (.pointer A) w := by
  unfold Instr.arrayAt
  simp only [Sem.run_bind, run_underlying hu, Result.andThen_ok]
  rw [if_neg (by omega)]
  rfl
section
variable {P : Program} {w : World} {ops : Array Oper} {o : Oper} {a : Act} {K : Act → World → Prop} {Q : Exit → Act → World → Prop} {E : Prop}
theorem put_none (l : List Value) (d : List Deferred) (v : Value) : ({ tmps := l.toArray, defers := d } : Act).put none v = { tmps := l.toArray, defers := d } := rfl
theorem step_load_mid (dst : Option Tmp) (hdst : o.dst = dst) (hgd : Region.wanted o (yielded ops a.tmps) = true) (ty : TypeId) (x : Operand) (ho : o.op = .load ty x)
    (b off : Nat) (hx : a.eval x = .pointer (some ⟨b, off, none⟩)) (cs : List Value) (d : TypeDesc) (hc : w.rangeAt b off cs)
    (hu : P.underlying ty = some d) (hd : d.isRow = true) (hi : (P.info? ty).map (·.size) = some cs.length)
    (h : K (a.put dst (.agg cs.toArray)) w) : if Region.wanted o (yielded ops a.tmps) = true then Oper.wp P o a w K Q else E := by
  subst hdst; rw [if_pos hgd]; exact wp_load_mid ty x ho b off hx cs d hc hu hd hi h
theorem run_load_op (ty : TypeId) (x : Operand) (ho : o.op = .load ty x)
    (b off : Nat) (hx : a.eval x = .pointer (some ⟨b, off, none⟩)) (cs : List Value) (d : TypeDesc) (hc : w.rangeAt b off cs)
    (hu : P.underlying ty = some d) (hd : d.isRow = true) (hi : (P.info? ty).map (·.size) = some cs.length) : (execOp a.eval o).run P w = .ok (.value (.agg cs.toArray)) w := by
  unfold execOp
  simp only [ho, hx, Instr.loadAt, Instr.sureAddr, Sem.run_bind, Sem.run_pure, Result.andThen_ok, run_loadVar_mid w b off ty cs d hc hu hd hi]
theorem run_store_row (ty : TypeId) (g off : Nat) (t : TypeId) (cur cs : List Value) (hr : Row w g t cur) (hfit : off + cs.length ≤ cur.length) (hi : (P.info? ty).map (·.size) = some cs.length) (h1 : ∀ v ∈ cs, v.oneCell' = true) :
    (Instr.storeAt ty (.pointer (some ⟨g, off, none⟩)) (.agg cs.toArray)).run P w = .ok () (w.setRow g (splice cur off cs).toArray) := by
  have hst := run_storeCells_at P g off t cs 0 cur.toArray w hr (by simpa using hfit) h1
  cases hq : P.info? ty with
  | none => simp [hq] at hi
  | some i =>
    have hs : i.size = cs.length := by simpa [hq] using hi
    simp only [Nat.add_zero] at hst
    simp [Instr.storeAt, Instr.sureAddr, storeVar, sizeOf, typeInfo, hq, Value.cells, hs, hst, splice]
theorem step_store_row (dst : Option Tmp) (hdst : o.dst = dst) (hgd : Region.wanted o (yielded ops a.tmps) = true) (ty : TypeId) (x y : Operand) (ho : o.op = .store ty x y)
    (g off : Nat) (t : TypeId) (cur cs : List Value) (hx : a.eval x = .pointer (some ⟨g, off, none⟩)) (hy : a.eval y = .agg cs.toArray) (hr : Row w g t cur) (hfit : off + cs.length ≤ cur.length) (hi : (P.info? ty).map (·.size) = some cs.length) (h1 : ∀ v ∈ cs, v.oneCell' = true)
    (h : ∀ w', Row w' g t (splice cur off cs) → w.grownBy w' (some g) → K (a.put dst undef) w') : if Region.wanted o (yielded ops a.tmps) = true then Oper.wp P o a w K Q else E := by
  subst hdst
  rw [if_pos hgd]
  unfold Oper.wp execOp
  simp only [ho, hx, hy, run_store_row ty g off t cur cs hr hfit hi h1, Sem.run_bind, Sem.run_pure, Result.andThen_ok]
  exact h _ (hr.setRow _) (grown_setRow _ _ _)
theorem step_copy_row (dst : Option Tmp) (hdst : o.dst = dst) (hgd : Region.wanted o (yielded ops a.tmps) = true) (d s : Operand) (dT sT : TypeId)
    (ho : o.op = .call { callee := .builtin .copy, args := #[d, s], argTypes := #[dT, sT] }) (elem : TypeId) (hu : P.underlying dT = some (.slice elem)) (hsz : (P.info? elem).map (·.size) = some 1)
    (g off dLen dCap : Nat) (ad : Addr) (sLen sCap : Nat) (hd : a.eval d = .slice (some ⟨g, off, none⟩) dLen dCap) (hs : a.eval s = .slice (some ad) sLen sCap)
    (t : TypeId) (cur : List Value) (hg : Row w g t cur) (cs : List Value) (n : Nat) (hl : cs.length = n) (hn : n = Nat.min sLen dLen)
    (hsrc : ∀ j v, cs[j]? = some v → w.cell? (ad.add j) = some v) (hfit : off + cs.length ≤ cur.length) (h1 : ∀ v ∈ cs, v.oneCell' = true)
    (h : ∀ w', Row w' g t (splice cur off cs) → w.grownBy w' (some g) → K (a.put dst (goInt n)) w') : if Region.wanted o (yielded ops a.tmps) = true then Oper.wp P o a w K Q else E := by
  subst hl hdst
  rw [if_pos hgd]
  have hrun := run_copy_row (P := P) w dT sT o.type elem g off dLen dCap ad sLen sCap cur.toArray t cs hu hsz hg hn hsrc (by simpa using hfit) h1
  unfold Oper.wp
  simp [execOp, ho, resolve, invoke, builtin, hd, hs, hrun, Result.andThen]
  have hR := hg.setRow (splice cur off cs)
  have hG := grown_setRow w g (splice cur off cs).toArray
  simp only [splice] at hR hG h
  exact h _ hR hG
/-- The like of 'step_append_sl', its slot a parameter. -/
theorem step_append_at (dst : Option Tmp) (hdst : o.dst = dst) (hgd : Region.wanted o (yielded ops a.tmps) = true) (s x : Operand) (t : TypeId)
    (ho : o.op = .call { callee := .builtin .append, args := #[s, x], argTypes := #[t, t] })
    (base : Nat) (e : TypeId) (i : TypeInfo) (z : Value) (bytes : Nat) (ht : P.underlying t = some (.slice e)) (hi : P.info? e = some i) (hz : i.zero = some z)
    (hsize : i.size = 1) (hby : i.bytes = bytes) (hzs : z.cells.size = 1)
    (v : Value) (n : Nat) (xs : List Value) (hs : a.eval s = v) (hown : w.ownsRow base e 1 v n xs)
    (A : Option Addr) (m c : Nat) (news : List Value) (hx : a.eval x = .slice A m c) (hm : m = news.length) (hsl : Sl w A c news) (h1 : ∀ u ∈ news, u.oneCell' = true)
    (h63 : n + m ≤ maxLen) (hbytes : (n + m) * bytes ≤ 140737488355328) (W0 : World) (hb0 : base = W0.heap.size) (hbel : Below W0.heap.size W0 w)
    (h : ∀ v' w', w'.ownsRow base e 1 v' (n + m) (xs ++ news) → w.grownBy w' v.ownBlock → Below W0.heap.size W0 w' → K (a.put dst v') w') :
    if Region.wanted o (yielded ops a.tmps) = true then Oper.wp P o a w K Q else E := by
  subst hdst
  exact step_append_sl hgd s x t ho base e i z bytes ht hi hz hsize hby hzs v n xs hs hown A m c news hx hm hsl h1 h63 hbytes W0 hb0 hbel h
theorem run_build_op (ty : TypeId) (ho : o.op = .build ty #[]) (v : Value) (hv : (Instr.build ty #[]).run P w = .ok v w) : (execOp a.eval o).run P w = .ok (.value v) w := by
  unfold execOp
  simp only [ho, Sem.run_bind, Sem.run_pure, Result.andThen_ok, List.map_toArray, List.map_nil, hv]
end
section
variable {P : Program} {md : Region.Mode} {ops : Array Oper} {Q : Exit → Act → World → Prop} {S : World → Prop} {fuel : Nat} {listed : Array Bool} {a : Act} {w : World}
/-- An operation of a region whose guard is shut comes to nothing. -/
theorem rskip (i : Nat) (o : Oper) (d : Option Tmp) (hi : ops[i]? = some o) (hd : o.dst = d) (hs : Region.noSelect ops = true) (hf : Region.free md ops listed i = true) (hr : (Region.ready md ops listed).contains i = true)
    (hQ : ∀ c a w, Q (.panic c) (a.put d undef) w → Q (.panic c) a w) (hw : Region.wanted o (yielded ops a.tmps) = false) (hS : S w)
    (h : wpAnyH P md ops Q S fuel (listed.setIfInBounds i true) (a.put d undef) w) : wpAnyH P md ops Q S (fuel + 1) listed a w := by
  subst hd
  exact wpAnyH_take hi hs hf hr hQ (Or.inr ⟨hw, rfl⟩) hS h
end
end Go.Proofs.YtlocgfekgbdlmaaDoor

/- STRINGS OF BYTES: a slice of bytes turned into a string. No Go function is spoken of here. -/
namespace Go.Proofs.YtlocgfekgbdlmaaDoor
open Go Go.RowKit

def bstr (l : List UInt8) : ByteArray := ⟨l.toArray⟩
theorem foldl_push (l : List UInt8) (s : ByteArray) : (l.map fun b => (b.toNat : Int)).foldl (fun r n => r.push (UInt8.ofNat n.toNat)) s = ⟨s.data ++ l.toArray⟩ := by
  induction l generalizing s with
  | nil => simp
  | cons b l ih =>
    rw [List.map_cons, List.foldl_cons, ih]
    simp [ByteArray.push]
/-- Bytes turned into a string. -/
theorem conv_bytes {w : World} {A : Option Addr} {c : Nat} {l : List UInt8} (h : Sl w A c (byts l)) (n : Nat) (hn : n = l.length) :
    (convert 28 9 (.slice A n c)).run Tryd.prog w = .ok (.string (bstr l)) w := by
  subst hn
  rw [run_convert_bytes_string w _ _ 5 A l.length c Tryd.underlying28 Tryd.underlying5 Tryd.underlying9]
  cases A with
  | none =>
    have hc := h.bare rfl
    have hr := h.room
    rw [length_byts] at hr
    obtain rfl : l = [] := List.eq_nil_of_length_eq_zero (by omega)
    rfl
  | some ad =>
    have e : byts l = (l.map fun b => (b.toNat : Int)).map (Value.int .u8) := by unfold byts; simp
    have hld : (loadCells ad l.length).run Tryd.prog w = .ok ((l.map fun b => (b.toNat : Int)).map (Value.int .u8)).toArray w := by
      have := run_loadCells_list (P := Tryd.prog) w ad (byts l) h.rd.at_add
      rw [length_byts, e] at this
      exact this
    rw [run_bytesToString w ad l.length c _ hld, foldl_push]
    simp [bstr]
theorem sl_of_own {w : World} {base t n g cap : Nat} {xs : List Value} (h : w.ownsRow base t 1 (.slice (some ⟨g, 0, none⟩) n cap) n xs) : Sl w (some ⟨g, 0, none⟩) cap xs := by
  obtain ⟨A3, c3, he, _, h3⟩ := Sl.of_own h
  injection he with e1 e2 e3
  subst e1 e3
  exact h3
theorem bstr_inj {a b : List UInt8} (h : bstr a = bstr b) : a = b := by
  unfold bstr at h
  injection h with h
  injection h
/-- In every later world these bytes are turned into the same string. -/
theorem conv_later {w : World} {A : Option Addr} {c : Nat} {l : List UInt8} (h : Sl w A c (byts l)) (n : Nat) (hn : n = l.length) :
    ∀ w' : World, Below w.heap.size w w' → (convert 28 9 (.slice A n c)).run Tryd.prog w' = .ok (.string (bstr l)) w' :=
  fun _ hb => conv_bytes (h.later (Nat.le_refl _) hb) n hn
/-- A string's byte. -/
theorem index_bstr (l : List UInt8) (k : Nat) (hk : k < l.length) (w : World) : (Instr.index 9 (.string (bstr l)) (.int .i64 (k : Int))).run Tryd.prog w = .ok (.int .u8 ((l.getD k 0).toNat : Int)) w := by
  have hs : (k : Int) < ((bstr l).size : Int) := by unfold bstr; simp [ByteArray.size]; omega
  obtain ⟨S, hS⟩ : ∃ S, S = bstr l := ⟨_, rfl⟩
  have hz : k < S.size := by rw [hS]; unfold bstr; simpa [ByteArray.size] using hk
  have hg : S[k] = l[k] := by subst hS; rfl
  have HG := Lib.hid hg
  rw [← hS] at hs ⊢
  clear hS hg
  go_simp
  rw [HG.out]
theorem bstr_toList (l : List UInt8) : (bstr l).toList = l := by rw [ByteArray.toList_eq]; rfl
/-- Two strings held against each other, as the walk spells it. -/
theorem bstr_beq (l k : List UInt8) : ((bstr l).toList == (bstr k).toList) = decide (l = k) := by
  rw [bstr_toList, bstr_toList]
  by_cases h : l = k
  · subst h; simp
  · rw [decide_eq_false h, beq_eq_false_iff_ne]; exact h
end Go.Proofs.YtlocgfekgbdlmaaDoor

/- A STRING OF BYTES turned into a slice of bytes. No Go function is spoken of here. -/
namespace Go.Proofs.YtlocgfekgbdlmaaDoor
open Go Go.RowKit

theorem size_bstr (l : List UInt8) : (bstr l).size = l.length := by unfold bstr; simp [ByteArray.size]
theorem bytesRow_list (l : List UInt8) (cap : Nat) : bytesRow (bstr l) cap = (byts l ++ List.replicate (cap - l.length) (Value.int .u8 0)).toArray := by
  unfold bytesRow byts
  rw [size_bstr]
  apply Array.ext'
  simp [bstr]
theorem conv_string (w : World) (l : List UInt8) : ∃ c w', (convert 9 28 (.string (bstr l))).run Tryd.prog w = .ok (.slice (some ⟨w.heap.size, 0, none⟩) l.length c) w' ∧ Sl w' (some ⟨w.heap.size, 0, none⟩) c (byts l) ∧ Below w.heap.size w w' := by
  have h := run_bytes_of_string (P := Tryd.prog) w 9 28 5 (bstr l) Tryd.underlying9 Tryd.underlying28 Tryd.underlying5
  rw [size_bstr] at h
  refine ⟨_, _, h, ⟨?_, by rw [length_byts]; exact grownCap_ge w l.length 0 5, fun h => by cases h⟩, ((Below.refl _ w).drew).alloc (Nat.le_refl _) _⟩
  refine .inr ⟨w.heap.size, 0, rfl, by rw [World.size_alloc]; show w.heap.size < w.heap.size + 1; omega, fun i hi => ?_⟩
  rw [Nat.zero_add, cell_of_row _ w.heap.size i _ _ _ (Go.heap_alloc_new w.drew _), bytesRow_list]
  rw [List.getElem?_toArray, List.getElem?_append_left hi]
/-- The same as one step of a region that draws its order. -/
theorem step_conv_string {w : World} {ops : Array Oper} {o : Oper} {a : Act} {K : Act → World → Prop} {Q : Exit → Act → World → Prop} {E : Prop} (dst : Option Tmp) (hdst : o.dst = dst) (hgd : Region.wanted o (yielded ops a.tmps) = true) (x : Operand)
    (ho : o.op = .convert 9 28 x) (l : List UInt8) (hx : a.eval x = .string (bstr l))
    (h : ∀ A c w', Sl w' A c (byts l) → Below w.heap.size w w' → K (a.put dst (.slice A l.length c)) w') : if Region.wanted o (yielded ops a.tmps) = true then Oper.wp Tryd.prog o a w K Q else E := by
  subst hdst
  rw [if_pos hgd]
  obtain ⟨c, w', hrun, hs, hb⟩ := conv_string w l
  unfold Oper.wp execOp
  simp only [ho, hx, hrun, Sem.run_bind, Sem.run_pure, Result.andThen_ok]
  exact h _ _ _ hs hb
/-- The same outside of a region that draws. -/
theorem wpList_conv_string {w : World} {ops : Array Oper} {rest : List Oper} {o : Oper} {a : Act} {Q : Exit → Act → World → Prop} (hgd : o.guard = none) (x : Operand)
    (ho : o.op = .convert 9 28 x) (l : List UInt8) (hx : a.eval x = .string (bstr l))
    (h : ∀ A c w', Sl w' A c (byts l) → Below w.heap.size w w' → wpList Tryd.prog ops Q rest (a.put o.dst (.slice A l.length c)) w') : wpList Tryd.prog ops Q (o :: rest) a w := by
  refine wpList_plain hgd fun _ hK => ?_
  obtain ⟨c, w', hrun, hs, hb⟩ := conv_string w l
  unfold Oper.wp execOp
  simp only [ho, hx, hrun, Sem.run_bind, Sem.run_pure, Result.andThen_ok]
  exact hK _ _ (h _ _ _ hs hb)
end Go.Proofs.YtlocgfekgbdlmaaDoor

/- SLICES OF STRINGS on memory. No Go function is spoken of here. -/
namespace Go.Proofs.YtlocgfekgbdlmaaDoor
open Go Go.RowKit

def strsV (ss : List (List UInt8)) : List Value := ss.map fun l => .string (bstr l)
theorem length_strsV (ss : List (List UInt8)) : (strsV ss).length = ss.length := by unfold strsV; simp
theorem get_strsV (ss : List (List UInt8)) (i : Nat) (h : i < ss.length) : (strsV ss)[i]? = some (.string (bstr (ss.getD i []))) := by unfold strsV; simp [h]
theorem strsV_append (ss qs : List (List UInt8)) : strsV (ss ++ qs) = strsV ss ++ strsV qs := by unfold strsV; simp
theorem strsV_one (ss : List (List UInt8)) : ∀ v ∈ strsV ss, v.oneCell' = true := by
  intro v hv
  obtain ⟨_, _, rfl⟩ := List.mem_map.1 hv
  rfl
theorem strsV_drop (ss : List (List UInt8)) (k : Nat) : strsV (ss.drop k) = (strsV ss).drop k := by unfold strsV; rw [List.map_drop]
theorem strsV_take (ss : List (List UInt8)) (k : Nat) : strsV (ss.take k) = (strsV ss).take k := by unfold strsV; rw [List.map_take]
theorem index_strs (A : Option Addr) (b o n c k : Nat) (hA : A = some ⟨b, o, none⟩) (hk : k < n) (w : World) :
    (Instr.indexAt 39 (.slice A n c) (.int .i64 k)).run Tryd.prog w = .ok (.pointer (some ⟨b, o + k, none⟩)) w := by
  subst hA
  have h : (k : Int) < (n : Int) := by omega
  go_simp
theorem infoStr : (Tryd.prog.info? 9).map (fun i => (i.zero, i.size, i.bytes)) = some (some (.string ByteArray.empty), 1, 16) := by kernel_rfl
/-- How many bytes, and items, they are. -/
def sumS (ss : List (List UInt8)) : Nat := (ss.map fun l => l.length + 1).sum
theorem sumS_succ (ss : List (List UInt8)) (k : Nat) (h : k < ss.length) : sumS (ss.take (k + 1)) = sumS (ss.take k) + ((ss.getD k []).length + 1) := by
  unfold sumS
  rw [List.take_add_one, List.map_append, List.sum_append]
  simp [h]
theorem sumS_le (ss : List (List UInt8)) (k : Nat) : sumS (ss.take k) ≤ sumS ss := by
  have h : sumS ss = sumS (ss.take k) + sumS (ss.drop k) := by
    have e : ss = ss.take k ++ ss.drop k := (List.take_append_drop k ss).symm
    conv => lhs; rw [e]
    unfold sumS
    rw [List.map_append, List.sum_append]
  omega
theorem sumS_len (ss : List (List UInt8)) : ss.length ≤ sumS ss := by
  unfold sumS
  induction ss with
  | nil => simp
  | cons l ss ih => simp only [List.map_cons, List.sum_cons, List.length_cons]; omega
theorem sumS_mem (ss : List (List UInt8)) (l : List UInt8) (h : l ∈ ss) : l.length + 1 ≤ sumS ss := by
  unfold sumS
  induction ss with
  | nil => cases h
  | cons q ss ih =>
    simp only [List.map_cons, List.sum_cons]
    rcases List.mem_cons.1 h with rfl | h
    · omega
    · have := ih h; omega
/-- One string of a slice of strings. -/
theorem strs_cell {w : World} {b o c : Nat} {ss : List (List UInt8)} (h : Sl w (some ⟨b, o, none⟩) c (strsV ss)) (k : Nat) (hk : k < ss.length) : w.cell? ⟨b, o + k, none⟩ = some (.string (bstr (ss.getD k []))) := by
  obtain ⟨b', o', hA, _, hc⟩ := h.rd.get (i := k) (by rw [length_strsV]; exact hk)
  cases hA
  rw [hc, get_strsV _ _ hk]
end Go.Proofs.YtlocgfekgbdlmaaDoor

/- AN ARGUMENT THAT IS A SLICE OF STRINGS, opened, its strings' sizes out of the row's reach. -/
namespace Go.Proofs.YtlocgfekgbdlmaaDoor
open Go.ChangeShapes Go.WideShapes Go.ChangeAt Go.RowKit

theorem bstr_data (s : ByteArray) : bstr s.data.toList = s := by obtain ⟨⟨l⟩⟩ := s; rfl
theorem str_le {l : List UInt8} (h : (⟨l.toArray⟩ : ByteArray).size ≤ maxLen) : l.length ≤ 9223372036854775807 := by
  unfold maxLen at h
  simpa [ByteArray.size] using h
theorem cells_str : Tryd.prog.cellsOf 9 = 1 := by kernel_rfl
theorem weights_strs {H : Type} {P : Program} {e : TypeId} (ss : List ByteArray) (s : ByteArray) (h : s ∈ ss) : s.data.toList.length ∈ DataW.weightsAll P e (strs ss : List (DataW H)) := by
  induction ss with
  | nil => cases h
  | cons q ss ih =>
    show _ ∈ DataW.weights P e (.lit (.string q.data.toList)) ++ DataW.weightsAll P e (strs ss)
    rcases List.mem_cons.1 h with rfl | h
    · exact List.mem_append_left _ (by simp [DataW.weights])
    · exact List.mem_append_right _ (ih h)
/-- An argument that is a slice of strings. -/
theorem open_strSlice {H : Type} {enc : TypeId × Value → H} {W : World} {held : Bool} {b1 : Nat} {a : Option Addr} {len cap : Nat} {d : DataW H} {p : List MemPlace} {ts : List TypeId} {ds : List (DataW H)}
    (h : DataW.Trod enc Tryd.prog W b1 (fun _ => true) held 39 (.slice a len cap) d p) (hsz : (DataW.weightsEach Tryd.prog ts ds).all (· ≤ reachBytes) = true) {j : Nat} (ht : ts[j]? = some 39) (hd : ds[j]? = some d) :
    ∃ ss : List (List UInt8), len = ss.length ∧ Sl W a cap (strsV ss) ∧ ss.length ≤ 9223372036854775807 ∧ ∀ l ∈ ss, l.length ≤ 140737488351232 := by
  obtain ⟨fuel, hf⟩ := h
  rcases open_strings Tryd.underlying39 Tryd.underlying9 cells_str hf with ⟨hcs, _⟩ | ⟨x, l, c, bs, hcs, _, hl, hm, hz, hx, hcell, _⟩
  · simp [Value.cells] at hcs
    obtain ⟨rfl, rfl, rfl⟩ := hcs
    exact ⟨[], rfl, ⟨.inl rfl, Nat.le_refl _, fun _ => rfl⟩, by simp, fun l hl => by cases hl⟩
  · simp [Value.cells] at hcs
    obtain ⟨rfl, rfl, rfl⟩ := hcs
    simp only [Prod.mk.injEq] at hx
    obtain ⟨rfl, _⟩ := hx
    have hbl : bs.length = cap := by simpa using hz
    unfold maxLen at hm
    have hlen : ((bs.take len).map fun s => s.data.toList).length = len := by simp; omega
    have hsv : strsV ((bs.take len).map fun s => s.data.toList) = (bs.take len).map Value.string := by
      unfold strsV
      rw [List.map_map]
      exact List.map_congr_left fun s _ => by show Value.string (bstr s.data.toList) = _; rw [bstr_data]
    refine ⟨(bs.take len).map fun s => s.data.toList, hlen.symm, ⟨?_, by rw [length_strsV, hlen]; exact hl, fun h => by cases h⟩, by rw [hlen]; omega, fun q hq => ?_⟩
    · by_cases h0 : len = 0
      · subst h0; exact .inl rfl
      · obtain ⟨b, off, spot⟩ := x
        have hc0 := hcell 0 (by omega)
        have hspot : spot = none := by simpa [Addr.add] using World.cell?_spot hc0
        subst hspot
        refine .inr ⟨b, off, rfl, ?_, fun i hi => ?_⟩
        · have := World.block_lt_of_cell? W _ hc0
          rw [Addr.add_lit] at this; exact this
        · rw [length_strsV, hlen] at hi
          have hci := hcell i (by omega)
          rw [Addr.add_lit] at hci
          rw [hci, hsv]
          simp [hi, show i < bs.length by omega]
    · obtain ⟨s, hs, rfl⟩ := List.mem_map.1 hq
      have hw := weights_strs (H := H) (P := Tryd.prog) (e := 9) _ _ hs
      have h1 : s.data.toList.length ≤ reachBytes := of_decide_eq_true (List.all_eq_true.1 hsz _ (DataW.weights_mem_each ht hd s.data.toList.length (by
        simp only [DataW.weights, Tryd.underlying39]
        exact List.mem_cons_of_mem _ (List.mem_append_left _ hw))))
      unfold reachBytes at h1
      exact h1
end Go.Proofs.YtlocgfekgbdlmaaDoor

/- LAYER 1: words as bytes: package word's calls, and the document's. -/
namespace Go.Proofs.YtlocgfekgbdlmaaDoor
open Go.RowKit

theorem infoByte : (Tryd.prog.info? 5).map (fun i => (i.zero, i.size, i.bytes)) = some (some (.int .u8 0), 1, 1) := by kernel_rfl
/-- A word's four bytes, the highest first. -/
def bytesL (x : BitVec 32) : List UInt8 := [UInt8.ofNat (x.toNat / 16777216), UInt8.ofNat (x.toNat / 65536), UInt8.ofNat (x.toNat / 256), UInt8.ofNat x.toNat]
theorem byte_of (n : Nat) : ((UInt8.ofNat n).toNat : Int) = (n : Int) % 256 := by
  rw [UInt8.toNat_ofNat']; omega
theorem byts_word (x : BitVec 32) : byts (bytesL x) = [.int .u8 (u (x >>> 24) % 256), .int .u8 (u (x >>> 16) % 256), .int .u8 (u (x >>> 8) % 256), .int .u8 (u x % 256)] := by
  unfold byts bytesL
  simp only [List.map_cons, List.map_nil, byte_of]
  rw [← u_shr24, ← u_shr16, ← u_shr8]
  unfold u
  simp only [Int.natCast_ediv]
  rfl
theorem rbytes_any (x : BitVec 32) (w : World) :
    Calls Tryd.prog 37 #[.int .u32 (u x)] w (GaveBytes (bytesL x) w) := by
  have hb := u_bd x
  go_enter Tryd.func37, Tryd.ntmps37
  go_wp2
  go_ret
  refine ⟨_, rfl, ?_, (Below.refl _ _).alloc (Nat.le_refl _) _⟩
  rw [byts_word]
  have e1 : (u (x >>> 16)).tmod 256 % (256 : Int) = u (x >>> 16) % (256 : Int) := by rw [Int.tmod_eq_emod_of_nonneg (u_bd _).1]; omega
  have e2 : (u (x >>> 8)).tmod 256 % (256 : Int) = u (x >>> 8) % (256 : Int) := by rw [Int.tmod_eq_emod_of_nonneg (u_bd _).1]; omega
  rw [e1, e2]
  exact World.ownsRow_lit w #[_, _, _, _] 4 (Nat.le_refl _) (by unfold maxLen; omega) rfl
theorem put_any (A : Option Addr) (c : Nat) (l : List UInt8) (x : BitVec 32) (w : World) (hl : Sl w A c (byts l)) (hn : l.length ≤ 1000000) :
    Calls Tryd.prog 30 #[.slice A l.length c, .int .u32 (u x)] w (GaveBytes (l ++ bytesL x) w) := by
  obtain ⟨i0, hi, hz0, hz1, hz2⟩ := info_parts infoByte
  have hm : i0.bytes * (l.length + 4) ≤ 281474976710656 := by rw [hz2]; omega
  have hm2 : l.length + 4 ≤ maxLen := by unfold maxLen; omega
  have hm3 : 0 + l.length ≤ maxLen := by omega
  have hby := Lib.hid (byts_word x)
  have hb := u_bd x
  go_enter Tryd.func30, Tryd.ntmps30
  go_wp2_with (first
    | (at_make; refine wpList_make_own _ rfl _ _ 28 rfl w.heap.size 5 i0 _ 1 Tryd.underlying28 hi hz0 hz1 _ _ _ (l.length + 4) rfl rfl (by go_num) hm hm2 (Nat.le_refl _) ?_; intro w1 hown1 hg1; have hbel1 : Below w.heap.size w w1 := (Below.refl _ _).grown hg1 (Nat.le_refl _) (fun _ h => by cases h))
    | (at_builtin; refine wpList_append_sl rfl (.tmp 10) (.tmp 11) 28 rfl w.heap.size 5 i0 _ 1 Tryd.underlying28 hi hz0 hz1 hz2 rfl _ 0 [] rfl hown1 A l.length c (byts l) rfl (length_byts l).symm (hl.later (Nat.le_refl _) hbel1) (byts_one l) hm3 (by omega) hbel1.size ?_; intro v2 w2 hown2 hg2; have hbel2 : Below w.heap.size w w2 := hbel1.grown hg2 hbel1.size (fun k hk => (hown1.lt k hk).1))
    | (at_builtin; refine wpList_append_own _ rfl (.tmp 13) (.tmp 25) 28 rfl w.heap.size 5 i0 _ 1 1 Tryd.underlying28 hi hz0 hz1 hz2 rfl (by omega) v2 (0 + l.length) ([] ++ byts l) rfl (hown2.alloc _) ⟨w2.heap.size, 0, none⟩ 4 4 (byts (bytesL x)) rfl (length_byts _) (by rw [hby.out]; exact cells_new _ _ _) (byts_one _) (by rw [Nat.zero_add]; exact hm2) (by omega) (by rw [World.size_alloc]; have := hbel2.size; omega) ?_; intro v3 w3 hown3 hg3 _; have hbel3 : Below w.heap.size w w3 := (hbel2.alloc hbel2.size _).grown hg3 (by rw [World.size_alloc]; have := hbel2.size; omega) (fun k hk => (hown2.lt k hk).1)))
  go_ret
  refine ⟨v3, rfl, ?_, hbel3⟩
  rw [byts_append, List.length_append, show (bytesL x).length = 4 from rfl]
  simpa using hown3
theorem put_at (A : Option Addr) (n c : Nat) (l : List UInt8) (x : BitVec 32) (w : World) (hn : n = l.length) (hl : Sl w A c (byts l)) (hm : l.length ≤ 1000000) :
    Calls Tryd.prog 30 #[.slice A n c, .int .u32 (u x)] w (GaveBytes (l ++ bytesL x) w) := by
  subst hn
  exact put_any A c l x w hl hm
theorem sizeByte : (Tryd.prog.info? 5).map (·.size) = some 1 := by kernel_rfl
/-- The four bytes of a word that are laid out where there may be fewer. -/
theorem four_at (l : List UInt8) (i : Nat) (h : i < 4) : (splice [Value.int .u8 0, .int .u8 0, .int .u8 0, .int .u8 0] 0 (byts (l.take 4)))[i]? = some (.int .u8 ((l.getD i 0).toNat : Int)) := by
  unfold splice
  rw [List.take_zero, List.nil_append, Nat.zero_add, length_byts]
  by_cases hi : i < l.length
  · rw [List.getElem?_append_left (by rw [length_byts, List.length_take]; omega), get_byts _ _ (by rw [List.length_take]; omega)]
    simp [h]
  · rw [List.getElem?_append_right (by rw [length_byts, List.length_take]; omega), length_byts, List.length_take, show min 4 l.length = l.length by omega, List.getElem?_drop, show l.length + (i - l.length) = i by omega]
    rw [show l.getD i 0 = 0 by simp [show l.length ≤ i by omega]]
    match i, h with
    | 0, _ => rfl
    | 1, _ => rfl
    | 2, _ => rfl
    | 3, _ => rfl
/-- The first four bytes as a number. -/
def getV (l : List UInt8) : Int := (((l.getD 0 0).toNat * 256 + (l.getD 1 0).toNat) * 256 + (l.getD 2 0).toNat) * 256 + (l.getD 3 0).toNat
theorem getV_eq (l : List UInt8) : getV l = ((l.getD 0 0).toNat : Int) * 16777216 + ((l.getD 1 0).toNat : Int) * 65536 + ((l.getD 2 0).toNat : Int) * 256 + ((l.getD 3 0).toNat : Int) := by
  unfold getV; omega
theorem wraps32 : ∀ n : Int, 0 ≤ n → n < 2 ^ 32 → IntKind.u32.wrap n = n := by
  intro n h0 h1
  rw [IntKind.wrap_u32]
  have : (2 : Int) ^ 32 = 4294967296 := by decide
  omega
theorem or4 (b0 b1 b2 b3 : Int) (d0 : 0 ≤ b0 ∧ b0 < 256) (d1 : 0 ≤ b1 ∧ b1 < 256) (d2 : 0 ≤ b2 ∧ b2 < 256) (d3 : 0 ≤ b3 ∧ b3 < 256) :
    bits .or .u32 (bits .or .u32 (bits .or .u32 (b0 * 16777216) (b1 * 65536)) (b2 * 256)) b3 = b0 * 16777216 + b1 * 65536 + b2 * 256 + b3 := by
  have p32 : (2 : Int) ^ 32 = 4294967296 := by decide
  have p24 : (2 : Int) ^ 24 = 16777216 := by decide
  have p16 : (2 : Int) ^ 16 = 65536 := by decide
  have p8 : (2 : Int) ^ 8 = 256 := by decide
  rw [bits_join .u32 32 (by decide) wraps32 24 (b0 * 16777216) (b1 * 65536) (by omega) (by omega) (by omega) (by omega) (by omega) (by omega),
    bits_join .u32 32 (by decide) wraps32 16 (b0 * 16777216 + b1 * 65536) (b2 * 256) (by omega) (by omega) (by omega) (by omega) (by omega) (by omega),
    bits_join .u32 32 (by decide) wraps32 8 (b0 * 16777216 + b1 * 65536 + b2 * 256) b3 (by omega) (by omega) (by omega) (by omega) (by omega) (by omega)]
theorem get_any (A : Option Addr) (c : Nat) (l : List UInt8) (w : World) (hl : Sl w A c (byts l)) (hn : l.length ≤ 1000000) :
    Calls Tryd.prog 57 #[.slice A l.length c] w fun e w' => e = .returned (.int .u32 (getV l)) ∧ Below w.heap.size w w' := by
  have hlen : (byts (l.take 4)).length = l.length.min 4 := by rw [length_byts, List.length_take, Nat.min_comm]
  have hpos : 0 < (byts (l.take 4)).length → ∃ ad, A = some ad ∧ ∀ j v, (byts (l.take 4))[j]? = some v → (w.alloc (.cells #[.int .u8 0, .int .u8 0, .int .u8 0, .int .u8 0] 86)).cell? (ad.add j) = some v := by
    intro h
    have hp : 0 < (byts l).length := by rw [length_byts] at h ⊢; rw [List.length_take] at h; omega
    obtain ⟨b, o, rfl, hb, _⟩ := hl.rd.get hp
    refine ⟨_, rfl, fun j v hj => ?_⟩
    have hj' : (byts l)[j]? = some v := by
      have e : byts (l.take 4) = (byts l).take 4 := by unfold byts; rw [List.map_take]
      rw [e, List.getElem?_take] at hj
      split at hj
      · exact hj
      · cases hj
    rw [World.cell?_alloc_lt _ _ _ (by rw [Addr.add_lit]; exact hb)]
    exact hl.rd.at_add j v hj'
  have hfit : 0 + (byts (l.take 4)).length ≤ [Value.int .u8 0, .int .u8 0, .int .u8 0, .int .u8 0].length := by rw [length_byts, List.length_take]; simp only [List.length_cons, List.length_nil]; omega
  obtain ⟨cs, hcs⟩ : ∃ cs, cs = byts (l.take 4) := ⟨_, rfl⟩
  have hcs1 : ∀ v ∈ cs, v.oneCell' = true := by rw [hcs]; exact byts_one _
  have hat : ∀ i, i < 4 → (splice [Value.int .u8 0, .int .u8 0, .int .u8 0, .int .u8 0] 0 cs)[i]? = some (.int .u8 ((l.getD i 0).toNat : Int)) := by rw [hcs]; exact four_at l
  rw [← hcs] at hlen hpos hfit
  clear hcs hl
  have d0 := byte_bd (l.getD 0 0)
  have d1 := byte_bd (l.getD 1 0)
  have d2 := byte_bd (l.getD 2 0)
  have d3 := byte_bd (l.getD 3 0)
  have a0 := hat 0 (by omega)
  have a1 := hat 1 (by omega)
  have a2 := hat 2 (by omega)
  have a3 := hat 3 (by omega)
  have HV := Lib.hid (getV_eq l)
  generalize ((l.getD 0 0).toNat : Int) = b0 at *
  generalize ((l.getD 1 0).toNat : Int) = b1 at *
  generalize ((l.getD 2 0).toNat : Int) = b2 at *
  generalize ((l.getD 3 0).toNat : Int) = b3 at *
  have A0 := Lib.hid a0
  have A1 := Lib.hid a1
  have A2 := Lib.hid a2
  have A3 := Lib.hid a3
  have HPOS := Lib.hid hpos
  clear hat a0 a1 a2 a3 hpos
  go_enter Tryd.func57, Tryd.ntmps57
  go_wp2_with ((with_reducible refine wpList_copy_splice rfl (.tmp 4) (.tmp 5) 28 28 rfl 5 Tryd.underlying28 sizeByte _ _ _ _ _ _ rfl rfl w.heap.size 0 [.int .u8 0, .int .u8 0, .int .u8 0, .int .u8 0] _ (heap_alloc_new w _) cs hlen (fun h => ⟨rfl, HPOS.out h⟩) hfit hcs1 w.heap.size w ((Below.refl _ _).alloc (Nat.le_refl _) _) (Nat.le_refl _) ?_); intro w2 HG2 hB2; have c0 := (Row.cell (HG2.out : Row w2 w.heap.size 86 _) 0).trans A0.out; have c1 := (Row.cell (HG2.out : Row w2 w.heap.size 86 _) 1).trans A1.out; have c2 := (Row.cell (HG2.out : Row w2 w.heap.size 86 _) 2).trans A2.out; have c3 := (Row.cell (HG2.out : Row w2 w.heap.size 86 _) 3).trans A3.out)
  go_ret
  refine ⟨?_, hB2⟩
  rw [HV.out, ← or4 b0 b1 b2 b3 d0 d1 d2 d3]
  rfl
theorem get_at (A : Option Addr) (n c : Nat) (l : List UInt8) (w : World) (hl : Sl w A c (byts l)) (hn : n = l.length) (h : l.length ≤ 1000000) :
    Calls Tryd.prog 57 #[.slice A n c] w fun e w' => e = .returned (.int .u32 (getV l)) ∧ Below w.heap.size w w' := by
  subst hn; exact get_any A c l w hl h
/-- The document's: one byte after the other. -/
def getK (l : List UInt8) : Nat → Int
  | 0 => 0
  | k + 1 => getK l k * 256 + ((l.getD k 0).toNat : Int)
theorem getK_bd (l : List UInt8) (k : Nat) (h : k ≤ 3) : 0 ≤ getK l k ∧ getK l k < 16777216 := by
  have b0 := byte_bd (l.getD 0 0)
  have b1 := byte_bd (l.getD 1 0)
  have b2 := byte_bd (l.getD 2 0)
  match k, h with
  | 0, _ => simp only [getK]; omega
  | 1, _ => simp only [getK]; omega
  | 2, _ => simp only [getK]; omega
  | 3, _ => simp only [getK]; omega
theorem rget_any (A : Option Addr) (c : Nat) (l : List UInt8) (w : World) (hl : Sl w A c (byts l)) :
    Calls Tryd.prog 50 #[.slice A l.length c] w fun e w' => e = .returned (.int .u32 (getV l)) ∧ w = w' := by
  go_enter Tryd.func50, Tryd.ntmps50
  go_wp2
  go_loop [3, 4] (fun x i => ∃ k : Nat, k ≤ 4 ∧ i = .int .i64 k ∧ x = .int .u32 (getK l k)) (fun _ i => 4 - (intOf i).toNat)
  case atStart => exact ⟨0, by omega, rfl, rfl⟩
  case round =>
    obtain ⟨k, hk, rfl, rfl⟩ := hrel
    by_cases hlt : k < 4
    · have hb := getK_bd l k (by omega)
      have hd := byte_bd (l.getD k 0)
      have E := Lib.hid (show getK l (k + 1) = getK l k * 256 + ((l.getD k 0).toNat : Int) from rfl)
      generalize getK l k = x at *
      by_cases hlt2 : k < l.length
      · obtain ⟨b, o, rfl, _, hc⟩ := hl.rd.get (i := k) (by rw [length_byts]; exact hlt2)
        rw [get_byts l k hlt2] at hc
        generalize ((l.getD k 0).toNat : Int) = y at *
        go_wp2
        go_round
        case rel => exact ⟨k + 1, by omega, by go_num, by rw [E.out]⟩
        case measure => simp [intOf]; omega
      · have e0 : ((l.getD k 0).toNat : Int) = 0 := by simp [show l.length ≤ k by omega]
        rw [e0] at E
        clear e0 hd
        go_wp2
        go_round
        case rel => exact ⟨k + 1, by omega, by go_num, by rw [E.out]; simp⟩
        case measure => simp [intOf]; omega
    · obtain rfl : k = 4 := by omega
      go_wp2
      go_ret
      exact ⟨by simp [getK, getV], rfl⟩
end Go.Proofs.YtlocgfekgbdlmaaDoor
