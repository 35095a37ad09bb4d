/- LAYER 1: package word's tables, read. -/
import Derived.Test.YtbngnmhbnhpbeaaDoorTab
import Derived.Test.YtbngnmhbnhpbeaaDoorW1
import Derived.Test.YtbngnmhbnhpbeaaDoorM
namespace Go.Proofs.YtbngnmhbnhpbeaaDoor
open Go.RowKit

def primeV (i : Int) : Int := if 0 ≤ i ∧ i < 64 then cubeT.getD i.toNat 0 else 0
def startV : Value := .agg (squareT.map (Value.int .u32)).toArray
end Go.Proofs.YtbngnmhbnhpbeaaDoor
