/- LAYER 1's DOCUMENT (chittyref01): roots by trying, over digits of 16 bits, walked. -/
import Derived.Test.YtefbopgbikmohaaDoorN1
import Derived.Test.YtefbopgbikmohaaDoorM
namespace Go.Proofs.YtefbopgbikmohaaDoor
open Go.RowKit

def digitsL (x : Int) : List Int := [x % 65536, x / 65536 % 65536, x / 65536 / 65536]
/-- Which of two numbers is above, from digit k down: k is one more than the digit. -/
def aboveL (a b : List Int) : Nat → Bool
  | 0 => false
  | k + 1 => if a.getD k 0 ≠ b.getD k 0 then decide (b.getD k 0 < a.getD k 0) else aboveL a b k
theorem aboveL_succ (a b : List Int) (k : Nat) : aboveL a b (k + 1) = if a.getD k 0 ≠ b.getD k 0 then decide (b.getD k 0 < a.getD k 0) else aboveL a b k := rfl
end Go.Proofs.YtefbopgbikmohaaDoor
