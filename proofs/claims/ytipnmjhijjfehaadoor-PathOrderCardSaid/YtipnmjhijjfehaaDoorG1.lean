/- LAYER 1: package word's tables, read. -/
import Derived.Test.YtipnmjhijjfehaaDoorTab
import Derived.Test.YtipnmjhijjfehaaDoorW1
import Derived.Test.YtipnmjhijjfehaaDoorM
namespace Go.Proofs.YtipnmjhijjfehaaDoor
open Go.RowKit

def primeV (i : Int) : Int := if 0 ≤ i ∧ i < 64 then cubeT.getD i.toNat 0 else 0
def startV : Value := .agg (squareT.map (Value.int .u32)).toArray
end Go.Proofs.YtipnmjhijjfehaaDoor
