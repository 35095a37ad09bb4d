/- LAYER 10: what Encode and Check answer: lists alone. -/
import Derived.Test.YthiebbhooigogaaPl
namespace Go.Proofs.Ythiebbhooigogaa
open Go Go.RowKit

def errT (t : Tok) : Int := if checkT t then 0 else 1
def encT (t : Tok) : List UInt8 := if checkT t then bytesT t else []
end Go.Proofs.Ythiebbhooigogaa
