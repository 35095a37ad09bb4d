/- LAYER 1: package word's tables, read. -/
import Derived.Test.YtefbopgbikmohaaDoorTab
import Derived.Test.YtefbopgbikmohaaDoorW1
import Derived.Test.YtefbopgbikmohaaDoorM
namespace Go.Proofs.YtefbopgbikmohaaDoor
open Go.RowKit

/-- The table of the cube roots lies in memory as the program's text has it. -/
structure Cube (w : World) : Prop where
  at_ : ∀ i, i < 64 → w.cell? ⟨1, i, none⟩ = some (.int .u32 (cubeT.getD i 0))
theorem Cube.size {w : World} (h : Cube w) : 1 < w.heap.size :=
  World.block_lt_of_cell? w ⟨1, 0, none⟩ (h.at_ 0 (by decide))
theorem Cube.later {w w' : World} {B : Nat} (h : Cube w) (hb : Below B w w') (hB : w.heap.size ≤ B) : Cube w' :=
  ⟨fun i hi => by rw [hb.cell (p := ⟨1, i, none⟩) (Nat.lt_of_lt_of_le h.size hB)]; exact h.at_ i hi⟩
/-- The table of the square roots lies in memory as the program's text has it. -/
structure Square (w : World) : Prop where
  at_ : ∀ i, i < 8 → w.cell? ⟨0, i, none⟩ = some (.int .u32 (squareT.getD i 0))
theorem Square.size {w : World} (h : Square w) : 0 < w.heap.size :=
  World.block_lt_of_cell? w ⟨0, 0, none⟩ (h.at_ 0 (by decide))
theorem Square.later {w w' : World} {B : Nat} (h : Square w) (hb : Below B w w') (hB : w.heap.size ≤ B) : Square w' :=
  ⟨fun i hi => by rw [hb.cell (p := ⟨0, i, none⟩) (Nat.lt_of_lt_of_le h.size hB)]; exact h.at_ i hi⟩
/-- The two tables of package word lie in memory as the program's text has them. -/
structure Tabs (w : World) : Prop where
  cu : Cube w
  sq : Square w
theorem Tabs.later {w w' : World} {B : Nat} (h : Tabs w) (hb : Below B w w') (hB : w.heap.size ≤ B) : Tabs w' := ⟨h.cu.later hb hB, h.sq.later hb hB⟩
def primeV (i : Int) : Int := if 0 ≤ i ∧ i < 64 then cubeT.getD i.toNat 0 else 0
theorem prime_any (i : Int) (w : World) (hT : Cube w) (hi : -9223372036854775808 ≤ i ∧ i ≤ 9223372036854775807) :
    Calls Tryd.prog 42 #[.int .i64 i] w fun e w' => e = .returned (.int .u32 (primeV i)) ∧ w = w' := by
  by_cases h : 0 ≤ i ∧ i < 64
  · obtain ⟨h0, h1⟩ := h
    obtain ⟨n, rfl⟩ := Int.eq_ofNat_of_zero_le h0
    have e : primeV (n : Int) = cubeT.getD n 0 := by unfold primeV; rw [if_pos ⟨h0, h1⟩, Int.toNat_natCast]
    rw [e]
    have c := hT.at_ n (by omega)
    generalize cubeT.getD n 0 = C at *
    clear e hT
    go_enter Tryd.func42, Tryd.ntmps42
    go_wp2
    go_ret
    exact ⟨rfl, rfl⟩
  · have e : primeV i = 0 := by unfold primeV; rw [if_neg h]
    rw [e]
    clear e
    by_cases h1 : i < 0
    · go_enter Tryd.func42, Tryd.ntmps42
      go_wp2
      go_ret
      exact ⟨rfl, rfl⟩
    · have h2 : 64 ≤ i := by omega
      go_enter Tryd.func42, Tryd.ntmps42
      go_wp2
      go_ret
      exact ⟨rfl, rfl⟩
def startV : Value := .agg (squareT.map (Value.int .u32)).toArray
theorem start_any (w : World) (hT : Square w) :
    Calls Tryd.prog 38 #[] w fun e w' => e = .returned startV ∧ Below w.heap.size w w' := by
  have c0 : w.cell? ⟨0, 0, none⟩ = some (.int .u32 1779033703) := hT.at_ 0 (by decide)
  have c1 : w.cell? ⟨0, 1, none⟩ = some (.int .u32 3144134277) := hT.at_ 1 (by decide)
  have c2 : w.cell? ⟨0, 2, none⟩ = some (.int .u32 1013904242) := hT.at_ 2 (by decide)
  have c3 : w.cell? ⟨0, 3, none⟩ = some (.int .u32 2773480762) := hT.at_ 3 (by decide)
  have c4 : w.cell? ⟨0, 4, none⟩ = some (.int .u32 1359893119) := hT.at_ 4 (by decide)
  have c5 : w.cell? ⟨0, 5, none⟩ = some (.int .u32 2600822924) := hT.at_ 5 (by decide)
  have c6 : w.cell? ⟨0, 6, none⟩ = some (.int .u32 528734635) := hT.at_ 6 (by decide)
  have c7 : w.cell? ⟨0, 7, none⟩ = some (.int .u32 1541459225) := hT.at_ 7 (by decide)
  have hs := hT.size
  clear hT
  go_enter Tryd.func38, Tryd.ntmps38
  go_wp2
  go_returns
  refine ⟨rfl, ?_⟩
  go_grown
end Go.Proofs.YtefbopgbikmohaaDoor
