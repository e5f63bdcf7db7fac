/-
  Halve of tile (contract).
-/
import Derived.Test.YtjaipjgnchpjcaaTSq
namespace Go.Proofs.Ytjaipjgnchpjcaa.T
open Go.RowKit Go.Shelf
variable {W w w' : World} {L : List (Nat × Obj)}

/-- the four pixels of a square that make the pixel number i -/
def four (G : Nat → Px) (i : Nat) : Nat → Px := fun j => G (num (2 * (i % 8) + j % 2) (2 * (i / 8) + j / 2))
end Go.Proofs.Ytjaipjgnchpjcaa.T
