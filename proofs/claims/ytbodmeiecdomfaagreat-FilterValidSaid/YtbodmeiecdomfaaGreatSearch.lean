/-
  sort.Search; Solve, of curve and of the reference.
-/
import Derived.Test.YtbodmeiecdomfaaGreatRefValid
import Derived.Shelf.Abstract
namespace Go.Proofs.YtbodmeiecdomfaaGreat
open Go.RowKit
variable {w : World}

/-- what Solve returns -/
def slv (r : Bool) (c : List Int) (y : Int) : Nat := if r && decide (sol c y ≤ 65535) then sol c y else 0
def slk (r : Bool) (c : List Int) (y : Int) : Bool := r && decide (sol c y ≤ 65535)
end Go.Proofs.YtbodmeiecdomfaaGreat
