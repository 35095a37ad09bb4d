/- LAYER 1: words as bytes: package word's calls, and the document's. -/
import Derived.Test.YtbngnmhbnhpbeaaDoorG1
namespace Go.Proofs.YtbngnmhbnhpbeaaDoor
open Go.RowKit

theorem infoByte : (Tryd.prog.info? 5).map (fun i => (i.zero, i.size, i.bytes)) = some (some (.int .u8 0), 1, 1) := by kernel_rfl
/-- A word's four bytes, the highest first. -/
def bytesL (x : BitVec 32) : List UInt8 := [UInt8.ofNat (x.toNat / 16777216), UInt8.ofNat (x.toNat / 65536), UInt8.ofNat (x.toNat / 256), UInt8.ofNat x.toNat]
theorem byte_of (n : Nat) : ((UInt8.ofNat n).toNat : Int) = (n : Int) % 256 := by
  rw [UInt8.toNat_ofNat']; omega
theorem byts_word (x : BitVec 32) : byts (bytesL x) = [.int .u8 (u (x >>> 24) % 256), .int .u8 (u (x >>> 16) % 256), .int .u8 (u (x >>> 8) % 256), .int .u8 (u x % 256)] := by
  unfold byts bytesL
  simp only [List.map_cons, List.map_nil, byte_of]
  rw [← u_shr24, ← u_shr16, ← u_shr8]
  unfold u
  simp only [Int.natCast_ediv]
  rfl
theorem sizeByte : (Tryd.prog.info? 5).map (·.size) = some 1 := by kernel_rfl
/-- The four bytes of a word that are laid out where there may be fewer. -/
theorem four_at (l : List UInt8) (i : Nat) (h : i < 4) : (splice [Value.int .u8 0, .int .u8 0, .int .u8 0, .int .u8 0] 0 (byts (l.take 4)))[i]? = some (.int .u8 ((l.getD i 0).toNat : Int)) := by
  unfold splice
  rw [List.take_zero, List.nil_append, Nat.zero_add, length_byts]
  by_cases hi : i < l.length
  · rw [List.getElem?_append_left (by rw [length_byts, List.length_take]; omega), get_byts _ _ (by rw [List.length_take]; omega)]
    simp [h]
  · rw [List.getElem?_append_right (by rw [length_byts, List.length_take]; omega), length_byts, List.length_take, show min 4 l.length = l.length by omega, List.getElem?_drop, show l.length + (i - l.length) = i by omega]
    rw [show l.getD i 0 = 0 by simp [show l.length ≤ i by omega]]
    match i, h with
    | 0, _ => rfl
    | 1, _ => rfl
    | 2, _ => rfl
    | 3, _ => rfl
/-- The first four bytes as a number. -/
def getV (l : List UInt8) : Int := (((l.getD 0 0).toNat * 256 + (l.getD 1 0).toNat) * 256 + (l.getD 2 0).toNat) * 256 + (l.getD 3 0).toNat
theorem getV_eq (l : List UInt8) : getV l = ((l.getD 0 0).toNat : Int) * 16777216 + ((l.getD 1 0).toNat : Int) * 65536 + ((l.getD 2 0).toNat : Int) * 256 + ((l.getD 3 0).toNat : Int) := by
  unfold getV; omega
theorem wraps32 : ∀ n : Int, 0 ≤ n → n < 2 ^ 32 → IntKind.u32.wrap n = n := by
  intro n h0 h1
  rw [IntKind.wrap_u32]
  have : (2 : Int) ^ 32 = 4294967296 := by decide
  omega
theorem or4 (b0 b1 b2 b3 : Int) (d0 : 0 ≤ b0 ∧ b0 < 256) (d1 : 0 ≤ b1 ∧ b1 < 256) (d2 : 0 ≤ b2 ∧ b2 < 256) (d3 : 0 ≤ b3 ∧ b3 < 256) :
    bits .or .u32 (bits .or .u32 (bits .or .u32 (b0 * 16777216) (b1 * 65536)) (b2 * 256)) b3 = b0 * 16777216 + b1 * 65536 + b2 * 256 + b3 := by
  have p32 : (2 : Int) ^ 32 = 4294967296 := by decide
  have p24 : (2 : Int) ^ 24 = 16777216 := by decide
  have p16 : (2 : Int) ^ 16 = 65536 := by decide
  have p8 : (2 : Int) ^ 8 = 256 := by decide
  rw [bits_join .u32 32 (by decide) wraps32 24 (b0 * 16777216) (b1 * 65536) (by omega) (by omega) (by omega) (by omega) (by omega) (by omega),
    bits_join .u32 32 (by decide) wraps32 16 (b0 * 16777216 + b1 * 65536) (b2 * 256) (by omega) (by omega) (by omega) (by omega) (by omega) (by omega),
    bits_join .u32 32 (by decide) wraps32 8 (b0 * 16777216 + b1 * 65536 + b2 * 256) b3 (by omega) (by omega) (by omega) (by omega) (by omega) (by omega)]
/-- The document's: one byte after the other. -/
def getK (l : List UInt8) : Nat → Int
  | 0 => 0
  | k + 1 => getK l k * 256 + ((l.getD k 0).toNat : Int)
theorem getK_bd (l : List UInt8) (k : Nat) (h : k ≤ 3) : 0 ≤ getK l k ∧ getK l k < 16777216 := by
  have b0 := byte_bd (l.getD 0 0)
  have b1 := byte_bd (l.getD 1 0)
  have b2 := byte_bd (l.getD 2 0)
  match k, h with
  | 0, _ => simp only [getK]; omega
  | 1, _ => simp only [getK]; omega
  | 2, _ => simp only [getK]; omega
  | 3, _ => simp only [getK]; omega
end Go.Proofs.YtbngnmhbnhpbeaaDoor
