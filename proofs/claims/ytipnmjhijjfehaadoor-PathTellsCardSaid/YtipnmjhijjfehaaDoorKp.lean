/- LAYER 14's cards: what the library's listed variables hold; a world for the witness. -/
import Derived.Test.YtipnmjhijjfehaaDoorK
import Derived.Test.YtipnmjhijjfehaaDoorCards
import Derived.Test.YtipnmjhijjfehaaDoorTie
import Derived.Test.YtipnmjhijjfehaaDoorPq
import Derived.Shelf.Vars
namespace Go.Proofs.YtipnmjhijjfehaaDoor
open Go Go.ChangeShapes Go.WideShapes Go.ChangeAt Go.RowKit
set_option maxRecDepth 100000

/-- What the listed variables hold, as far as package path comes to them. -/
theorem env_of {W : World} (_ : laidMet Tryd.prog Rows.pathTellsRow.laid W) (h : W.ShapedOpen Tryd.prog) : EnvP W :=
  Go.Proofs.cell_of_shapedOpen_int (zero := #[.int .i64 0]) (t := 3) h (of_decide_eq_true (by kernel_rfl)) (by kernel_rfl) rfl (by kernel_rfl) (by kernel_rfl) Tryd.underlying3
/-! One start that fits: the library's tables as their initialisers lay them. -/
def setCells14 (cs : List Value) : Obj → Obj
  | .cells _ t frozen => .cells cs.toArray t frozen
  | o => o
def accept14 : List Int := [128, 191, 160, 191, 128, 159, 144, 191, 128, 143] ++ List.replicate 22 0
noncomputable def libWorld (os : Os) : World :=
  let w0 := World.holding Tryd.prog os ⟨#[], #[], []⟩
  { w0 with heap := (w0.heap.modify 2 (setCells14 (accept14.map (Value.int .u8)))).modify 1 (setCells14 (Go.Pinned.utf8FirstZ.map fun n : Nat => Value.int .u8 (n : Int))) }
theorem lib_met (os : Os) (args : Array Value) : laidMet Tryd.prog Rows.pathTellsRow.laid ((libWorld os).forCall (fun _ _ => 0) ⟨#[], args, []⟩).memory :=
  laidMet_of_run' 8 (by kernel_rfl) (by kernel_rfl)
end Go.Proofs.YtipnmjhijjfehaaDoor
