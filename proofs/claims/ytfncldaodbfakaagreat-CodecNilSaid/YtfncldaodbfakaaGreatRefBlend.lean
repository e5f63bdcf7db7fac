/-
  The reference's Blend (contract).
-/
import Derived.Test.YtfncldaodbfakaaGreatBlend
namespace Go.Proofs.YtfncldaodbfakaaGreat
open Go.RowKit

end Go.Proofs.YtfncldaodbfakaaGreat
