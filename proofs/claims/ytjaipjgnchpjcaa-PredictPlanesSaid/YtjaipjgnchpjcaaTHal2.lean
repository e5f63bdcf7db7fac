/-
  Halve of tile (contract).
-/
import Derived.Test.YtjaipjgnchpjcaaTHalve
import Derived.Test.YtjaipjgnchpjcaaTRef0
namespace Go.Proofs.Ytjaipjgnchpjcaa.T
open Go.RowKit Go.Shelf
variable {W w w' : World} {L : List (Nat × Obj)}

/-- the pixels of a square of four tiles -/
def sqG (a b c d : Nat → Px) : Nat → Px := app 128 (app 64 a b) (app 64 c d)
end Go.Proofs.Ytjaipjgnchpjcaa.T
