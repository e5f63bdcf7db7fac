/-
  The reference's Solve.
-/
import Derived.Test.YtgdcjpnmalnmbaaSearch
namespace Go.Proofs.Ytgdcjpnmalnmbaa
open Go.RowKit
variable {w : World}

end Go.Proofs.Ytgdcjpnmalnmbaa
