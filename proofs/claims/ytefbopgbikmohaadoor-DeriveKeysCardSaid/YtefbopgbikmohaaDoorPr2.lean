/- LAYER 2: the document's list of the numbers of the primes' roots. -/
import Derived.Test.YtefbopgbikmohaaDoorTab
import Derived.Test.YtefbopgbikmohaaDoorM
namespace Go.Proofs.YtefbopgbikmohaaDoor
open Go.RowKit

def tabs32 (xs : List Int) : List Value := xs.map (Value.int .u32)
set_option maxRecDepth 100000 in
theorem rprimes_any (w : World) :
    Calls Tryd.prog 36 #[] w fun e w' => e = .returned (.slice (some ⟨w.heap.size, 0, none⟩) 64 64) ∧ Row w' w.heap.size 40 (tabs32 cubeT) ∧ Below w.heap.size w w' := by
  go_enter Tryd.func36, Tryd.ntmps36
  go_wp2
  go_ret
  refine ⟨rfl, heap_alloc_new w _, (Below.refl _ _).alloc (Nat.le_refl _) _⟩
theorem get_tabs32 (xs : List Int) (i : Nat) (h : i < xs.length) : (tabs32 xs)[i]? = some (.int .u32 (xs.getD i 0)) := by
  unfold tabs32; simp [h]
theorem length_cubeT : cubeT.length = 64 := rfl
theorem Row.cube {w : World} {g : Nat} {t : TypeId} (h : Row w g t (tabs32 cubeT)) (i : Nat) (hi : i < 64) : w.cell? ⟨g, i, none⟩ = some (.int .u32 (cubeT.getD i 0)) := by
  rw [h.cell, get_tabs32 _ _ (by rw [length_cubeT]; exact hi)]
end Go.Proofs.YtefbopgbikmohaaDoor
