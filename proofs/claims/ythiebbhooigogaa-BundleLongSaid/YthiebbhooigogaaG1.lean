/- LAYER 1: package word's tables, read. -/
import Derived.Test.YthiebbhooigogaaTab
import Derived.Test.YthiebbhooigogaaW1
import Derived.Test.YthiebbhooigogaaM
namespace Go.Proofs.Ythiebbhooigogaa
open Go.RowKit

def primeV (i : Int) : Int := if 0 ≤ i ∧ i < 64 then cubeT.getD i.toNat 0 else 0
def startV : Value := .agg (squareT.map (Value.int .u32)).toArray
end Go.Proofs.Ythiebbhooigogaa
