/-
  DERIVED. GIVEN WITH THE SEED: THE CARDS: each row of YtfclbfliebdopaaDoorRows.lean that lists a variable, with what it lists TIED to the program's text (the seventh form; the later family's looks); each row that meets fmt, with fmt's text TOLD by the authors' own Lean function (tested against real Go, not proved from fmt's source: count such statements apart). THE CARD IS WHAT COUNTS. Prove the row's statement (the work); the ties are given (YtfclbfliebdopaaDoorTie.lean); close each card by the builder's one call (the guide's Derived/Test/ToyasCard.lean, 'card_holds'). Laid BY PROGRAM, IN A SANDBOX (cutbox-door.mjs). By AI agents, Wed Nov 11 2026. No macro, syntax, notation, axiom, sorry.
-/
import Derived.Test.YtfclbfliebdopaaDoorRows
import GoSem.ClaimSeven
namespace Go.Proofs.YtfclbfliebdopaaDoor
namespace Rows

/-- THE TIED CARD OF 'gouachelaw04.PixelNames'. -/
def pixelNamesCard : Claim7 := { stood := { row := pixelNamesRow, standIns := [], harness := (true, "ebe446f26d128af7dca80091499f2d18bc665e65f080e2f3aa45dffc157b9d97"), looks := false }, kinds := [], alts := [], laidByText := true, laidKinds := [.data], laidTests := true, laidLooks := .later }
def PixelNamesCardSaid : Prop := Claim7.holds Tryd.pinned (.plain (OpenSpec.ofChange pixelNamesSpec)) pixelNamesCard

/-- THE SECOND FORM's CARD OF 'gouachelaw04.PixelNames'. -/
def pixelNamesUptoCard : Claim7 := { stood := { row := pixelNamesUptoRow, standIns := [], harness := (true, "ebe446f26d128af7dca80091499f2d18bc665e65f080e2f3aa45dffc157b9d97"), looks := false }, kinds := [], alts := [], laidByText := true, laidKinds := [.data], laidTests := true, laidLooks := .later }
def PixelNamesUptoCardSaid : Prop := Claim7.holds Tryd.pinned (.plain (OpenSpec.upto pixelNamesSpec)) pixelNamesUptoCard
end Rows
end Go.Proofs.YtfclbfliebdopaaDoor
