/- LAYER 1: package word's tables, read. -/
import Derived.Test.YtflapjnjmolhfaaDoorTab
import Derived.Test.YtflapjnjmolhfaaDoorW1
import Derived.Test.YtflapjnjmolhfaaDoorM
namespace Go.Proofs.YtflapjnjmolhfaaDoor
open Go.RowKit

/-- The table of the cube roots lies in memory as the program's text has it. -/
structure Cube (w : World) : Prop where
  at_ : ∀ i, i < 64 → w.cell? ⟨0, i, none⟩ = some (.int .u32 (cubeT.getD i 0))
theorem Cube.size {w : World} (h : Cube w) : 0 < w.heap.size :=
  World.block_lt_of_cell? w ⟨0, 0, none⟩ (h.at_ 0 (by decide))
theorem Cube.later {w w' : World} {B : Nat} (h : Cube w) (hb : Below B w w') (hB : w.heap.size ≤ B) : Cube w' :=
  ⟨fun i hi => by rw [hb.cell (p := ⟨0, i, none⟩) (Nat.lt_of_lt_of_le h.size hB)]; exact h.at_ i hi⟩
def primeV (i : Int) : Int := if 0 ≤ i ∧ i < 64 then cubeT.getD i.toNat 0 else 0
theorem prime_any (i : Int) (w : World) (hT : Cube w) (hi : -9223372036854775808 ≤ i ∧ i ≤ 9223372036854775807) :
    Calls Tryd.prog 17 #[.int .i64 i] w fun e w' => e = .returned (.int .u32 (primeV i)) ∧ w = w' := by
  by_cases h : 0 ≤ i ∧ i < 64
  · obtain ⟨h0, h1⟩ := h
    obtain ⟨n, rfl⟩ := Int.eq_ofNat_of_zero_le h0
    have e : primeV (n : Int) = cubeT.getD n 0 := by unfold primeV; rw [if_pos ⟨h0, h1⟩, Int.toNat_natCast]
    rw [e]
    have c := hT.at_ n (by omega)
    generalize cubeT.getD n 0 = C at *
    clear e hT
    go_enter Tryd.func17, Tryd.ntmps17
    go_wp2
    go_ret
    exact ⟨rfl, rfl⟩
  · have e : primeV i = 0 := by unfold primeV; rw [if_neg h]
    rw [e]
    clear e
    by_cases h1 : i < 0
    · go_enter Tryd.func17, Tryd.ntmps17
      go_wp2
      go_ret
      exact ⟨rfl, rfl⟩
    · have h2 : 64 ≤ i := by omega
      go_enter Tryd.func17, Tryd.ntmps17
      go_wp2
      go_ret
      exact ⟨rfl, rfl⟩
def startV : Value := .agg (squareT.map (Value.int .u32)).toArray
end Go.Proofs.YtflapjnjmolhfaaDoor
