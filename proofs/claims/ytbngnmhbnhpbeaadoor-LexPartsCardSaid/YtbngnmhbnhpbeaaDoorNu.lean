/- What the library's readers of numerals come to, whatever the base and the bits (layers 12, 15). -/
import Derived.Test.YtbngnmhbnhpbeaaDoorEn
namespace Go.Proofs.YtbngnmhbnhpbeaaDoor
set_option maxRecDepth 100000
open Go Go.RowKit

/-- A sign's number as a digit, whatever the base; 255: it is none. -/
def dvL (x : Nat) : Nat := if 48 ≤ x ∧ x ≤ 57 then x - 48 else if 97 ≤ (x ||| 32) ∧ (x ||| 32) ≤ 122 then (x ||| 32) - 87 else 255
def errV (k : Nat) : Value := if k = 0 then .nilIface else .iface 63 (.int .i64 (k : Int))
theorem or32 (x : Nat) (hx : x < 256) : bits .or .u8 (x : Int) 32 = ((x ||| 32 : Nat) : Int) := by
  show IntKind.u8.wrap ((BitVec.ofInt 8 (x : Int) ||| BitVec.ofInt 8 32).toNat : Int) = _
  rw [BitVec.ofInt_natCast, BitVec.toNat_or, BitVec.toNat_ofNat, Nat.mod_eq_of_lt (by omega), show (BitVec.ofInt 8 32).toNat = 32 by decide, IntKind.wrap_u8]
  have : x ||| 32 < 2 ^ 8 := Nat.or_lt_two_pow (by omega) (by omega)
  omega
theorem byte_cell {w : World} {b o c : Nat} {l : List UInt8} (h : Sl w (some ⟨b, o, none⟩) c (byts l)) (k : Nat) (hk : k < l.length) : w.cell? ⟨b, o + k, none⟩ = some (.int .u8 ((l.getD k 0).toNat : Int)) := by
  obtain ⟨b', o', hA, _, hc⟩ := h.rd.get (i := k) (by rw [length_byts]; exact hk)
  cases hA
  rw [hc, get_byts _ _ hk]
theorem low_any (x : Nat) (hx : x < 256) (w : World) : Calls Tryd.prog 44 #[.int .u8 (x : Int)] w fun e w' => e = .returned (.int .u8 ((x ||| 32 : Nat) : Int)) ∧ w = w' := by
  refine (Tryd.internal_strconv_lower (x : Int) w).mono ?_
  rintro e w' ⟨rfl, rfl⟩
  exact ⟨by rw [or32 x hx], rfl⟩
theorem u64_eq {a b : Int} (h : a = b) : Value.int .u64 a = .int .u64 b := by rw [h]
/-- The number, and whatever error. -/
def GavePu (n : Nat) (w : World) (e : Ending) (w' : World) : Prop := ∃ v, e = .returned (.tuple #[.int .u64 (n : Int), v]) ∧ Below w.heap.size w w'
def GaveAny (w : World) (e : Ending) (w' : World) : Prop := ∃ v, e = .returned v ∧ Below w.heap.size w w'
end Go.Proofs.YtbngnmhbnhpbeaaDoor
