/-
  Flip and Turn of tile (contracts).
-/
import Derived.Test.YtjaipjgnchpjcaaTMask
namespace Go.Proofs.Ytjaipjgnchpjcaa.T
open Go.RowKit Go.Shelf
variable {W w w' : World} {L : List (Nat × Obj)}

def flipI (i : Nat) : Nat := 8 * (i / 8) + (7 - i % 8)
def turnI (i : Nat) : Nat := 8 * (7 - i % 8) + i / 8
theorem flipI_lt {i : Nat} (h : i < 64) : flipI i < 64 := by unfold flipI; omega
theorem turnI_lt {i : Nat} (h : i < 64) : turnI i < 64 := by unfold turnI; omega
theorem flipI_xy {i : Nat} (_h : i < 64) : ((flipI i : Nat) : Int) % 8 = 7 - (i : Int) % 8 ∧ ((flipI i : Nat) : Int) / 8 = (i : Int) / 8 := by unfold flipI; omega
theorem turnI_xy {i : Nat} (_h : i < 64) : ((turnI i : Nat) : Int) % 8 = (i : Int) / 8 ∧ ((turnI i : Nat) : Int) / 8 = 7 - (i : Int) % 8 := by unfold turnI; omega

end Go.Proofs.Ytjaipjgnchpjcaa.T
