/- LAYER 1: package word's tables, read. -/
import Derived.Test.YtgdfahmhjjcpoaaTab
import Derived.Test.YtgdfahmhjjcpoaaW1
import Derived.Test.YtgdfahmhjjcpoaaM
namespace Go.Proofs.Ytgdfahmhjjcpoaa
open Go.RowKit

def primeV (i : Int) : Int := if 0 ≤ i ∧ i < 64 then cubeT.getD i.toNat 0 else 0
def startV : Value := .agg (squareT.map (Value.int .u32)).toArray
end Go.Proofs.Ytgdfahmhjjcpoaa
