/-
  Blend and the function of a mode, of pixel and of the reference (contracts).
-/
import Derived.Test.YtfncldaodbfakaaGreatNum
import Derived.Shelf.Abstract
namespace Go.Proofs.YtfncldaodbfakaaGreat
open Go.RowKit

end Go.Proofs.YtfncldaodbfakaaGreat
