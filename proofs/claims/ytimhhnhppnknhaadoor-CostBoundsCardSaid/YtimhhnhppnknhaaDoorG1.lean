/- LAYER 1: package word's tables, read. -/
import Derived.Test.YtimhhnhppnknhaaDoorTab
import Derived.Test.YtimhhnhppnknhaaDoorW1
import Derived.Test.YtimhhnhppnknhaaDoorM
namespace Go.Proofs.YtimhhnhppnknhaaDoor
open Go.RowKit

def primeV (i : Int) : Int := if 0 ≤ i ∧ i < 64 then cubeT.getD i.toNat 0 else 0
def startV : Value := .agg (squareT.map (Value.int .u32)).toArray
end Go.Proofs.YtimhhnhppnknhaaDoor
