/- LAYER 1: package word's tables, read. -/
import Derived.Test.YtildfmadggmdaaaDoorP1
import Derived.Test.YtildfmadggmdaaaDoorM
namespace Go.Proofs.YtildfmadggmdaaaDoor
open Go.RowKit

/-- The two tables of package word lie in memory as the program's text has them. -/
structure Tabs (w : World) : Prop where
  cube : ∀ i, i < 64 → w.cell? ⟨0, i, none⟩ = some (.int .u32 (cubeT.getD i 0))
  square : ∀ i, i < 8 → w.cell? ⟨1, i, none⟩ = some (.int .u32 (squareT.getD i 0))
theorem Tabs.size {w : World} (h : Tabs w) : 0 < w.heap.size ∧ 1 < w.heap.size := by
  have h1 : (⟨0, 0, none⟩ : Addr).block < w.heap.size := World.block_lt_of_cell? w _ (h.cube 0 (by decide))
  have h2 : (⟨1, 0, none⟩ : Addr).block < w.heap.size := World.block_lt_of_cell? w _ (h.square 0 (by decide))
  exact ⟨h1, h2⟩
theorem Tabs.later {w w' : World} {B : Nat} (h : Tabs w) (hb : Below B w w') (hB : w.heap.size ≤ B) : Tabs w' :=
  ⟨fun i hi => by rw [hb.cell (p := ⟨0, i, none⟩) (Nat.lt_of_lt_of_le h.size.1 hB)]; exact h.cube i hi,
   fun i hi => by rw [hb.cell (p := ⟨1, i, none⟩) (Nat.lt_of_lt_of_le h.size.2 hB)]; exact h.square i hi⟩
def primeV (i : Int) : Int := if 0 ≤ i ∧ i < 64 then cubeT.getD i.toNat 0 else 0
theorem prime_any (i : Int) (w : World) (hT : Tabs w) (hi : -9223372036854775808 ≤ i ∧ i ≤ 9223372036854775807) :
    Calls Tryd.prog 7 #[.int .i64 i] w fun e w' => e = .returned (.int .u32 (primeV i)) ∧ w = w' := by
  by_cases h : 0 ≤ i ∧ i < 64
  · obtain ⟨h0, h1⟩ := h
    obtain ⟨n, rfl⟩ := Int.eq_ofNat_of_zero_le h0
    have e : primeV (n : Int) = cubeT.getD n 0 := by unfold primeV; rw [if_pos ⟨h0, h1⟩, Int.toNat_natCast]
    rw [e]
    have c := hT.cube n (by omega)
    generalize cubeT.getD n 0 = C at *
    clear e hT
    go_enter Tryd.func7, Tryd.ntmps7
    go_wp2
    go_ret
    exact ⟨rfl, rfl⟩
  · have e : primeV i = 0 := by unfold primeV; rw [if_neg h]
    rw [e]
    clear e
    by_cases h1 : i < 0
    · go_enter Tryd.func7, Tryd.ntmps7
      go_wp2
      go_ret
      exact ⟨rfl, rfl⟩
    · have h2 : 64 ≤ i := by omega
      go_enter Tryd.func7, Tryd.ntmps7
      go_wp2
      go_ret
      exact ⟨rfl, rfl⟩
def startV : Value := .agg (squareT.map (Value.int .u32)).toArray
theorem start_any (w : World) (hT : Tabs w) :
    Calls Tryd.prog 9 #[] w fun e w' => e = .returned startV ∧ Below w.heap.size w w' := by
  have c0 : w.cell? ⟨1, 0, none⟩ = some (.int .u32 1779033703) := hT.square 0 (by decide)
  have c1 : w.cell? ⟨1, 1, none⟩ = some (.int .u32 3144134277) := hT.square 1 (by decide)
  have c2 : w.cell? ⟨1, 2, none⟩ = some (.int .u32 1013904242) := hT.square 2 (by decide)
  have c3 : w.cell? ⟨1, 3, none⟩ = some (.int .u32 2773480762) := hT.square 3 (by decide)
  have c4 : w.cell? ⟨1, 4, none⟩ = some (.int .u32 1359893119) := hT.square 4 (by decide)
  have c5 : w.cell? ⟨1, 5, none⟩ = some (.int .u32 2600822924) := hT.square 5 (by decide)
  have c6 : w.cell? ⟨1, 6, none⟩ = some (.int .u32 528734635) := hT.square 6 (by decide)
  have c7 : w.cell? ⟨1, 7, none⟩ = some (.int .u32 1541459225) := hT.square 7 (by decide)
  have hs := hT.size.2
  clear hT
  go_enter Tryd.func9, Tryd.ntmps9
  go_wp2
  go_returns
  refine ⟨rfl, ?_⟩
  go_grown
theorem alive_any (w : World) (hT : Tabs w) :
    Calls Tryd.prog 6 #[] w fun e w' => e = .returned (.bool true) ∧ Below w.heap.size w w' := by
  have e0 : primeV 0 = 1116352408 := rfl
  have i0 : ∀ w : World, (Instr.index 25 startV (.int .i64 0)).run Tryd.prog w = .ok (.int .u32 1779033703) w := fun _ => by kernel_rfl
  go_enter Tryd.func6, Tryd.ntmps6
  go_wp2_with (first | (go_at_call 7; refine (prime_any _ _ hT (by omega)).mono ?_; rintro e w' ⟨rfl, rfl⟩) | (go_at_call 9; refine (start_any _ hT).mono ?_; rintro e w1 ⟨rfl, hbel⟩))
  go_ret
  exact ⟨rfl, hbel⟩
end Go.Proofs.YtildfmadggmdaaaDoor
