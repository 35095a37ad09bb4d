/- LAYER 1: package word's tables, read. -/
import Derived.Test.YtpmibdgghojgaaaDoorTab
import Derived.Test.YtpmibdgghojgaaaDoorW1
import Derived.Test.YtpmibdgghojgaaaDoorM
namespace Go.Proofs.YtpmibdgghojgaaaDoor
open Go.RowKit

def primeV (i : Int) : Int := if 0 ≤ i ∧ i < 64 then cubeT.getD i.toNat 0 else 0
def startV : Value := .agg (squareT.map (Value.int .u32)).toArray
end Go.Proofs.YtpmibdgghojgaaaDoor
