/-
  DERIVED. GIVEN WITH THE SEED: THE CARDS: each row of YtligojllbnahcaaDoorRows.lean that lists a variable, with what it lists TIED to the program's text (the seventh form; the later family's looks); each row that meets fmt, with fmt's text TOLD by the authors' own Lean function (tested against real Go, not proved from fmt's source: count such statements apart). THE CARD IS WHAT COUNTS. Prove the row's statement (the work); the ties are given (YtligojllbnahcaaDoorTie.lean); close each card by the builder's one call (the guide's Derived/Test/ToyasCard.lean, 'card_holds'). Laid BY PROGRAM, IN A SANDBOX (cutbox-door.mjs). By AI agents, Wed Nov 11 2026. No macro, syntax, notation, axiom, sorry.
-/
import Derived.Test.YtligojllbnahcaaDoorRows
import GoSem.ClaimSeven
namespace Go.Proofs.YtligojllbnahcaaDoor
namespace Rows

/-- THE TIED CARD OF 'gouachelaw07.TileBytes'. -/
def tileBytesCard : Claim7 := { stood := { row := tileBytesRow, standIns := [], harness := (true, "f795b83ca4f232b2a77ff23f81c664e56224021d4c5dc33b383df6de5105d135"), looks := false }, kinds := [], alts := [], laidByText := true, laidKinds := [.data], laidTests := true, laidLooks := .later }
def TileBytesCardSaid : Prop := Claim7.holds Tryd.pinned (.plain (OpenSpec.ofChange tileBytesSpec)) tileBytesCard

/-- THE TIED CARD OF 'gouachelaw07.TileKeys'. -/
def tileKeysCard : Claim7 := { stood := { row := tileKeysRow, standIns := [], harness := (true, "f795b83ca4f232b2a77ff23f81c664e56224021d4c5dc33b383df6de5105d135"), looks := false }, kinds := [], alts := [], laidByText := true, laidKinds := [.data], laidTests := true, laidLooks := .later }
def TileKeysCardSaid : Prop := Claim7.holds Tryd.pinned (.plain (OpenSpec.ofChange tileKeysSpec)) tileKeysCard

/-- THE SECOND FORM's CARD OF 'gouachelaw07.TileBytes'. -/
def tileBytesUptoCard : Claim7 := { stood := { row := tileBytesUptoRow, standIns := [], harness := (true, "f795b83ca4f232b2a77ff23f81c664e56224021d4c5dc33b383df6de5105d135"), looks := false }, kinds := [], alts := [], laidByText := true, laidKinds := [.data], laidTests := true, laidLooks := .later }
def TileBytesUptoCardSaid : Prop := Claim7.holds Tryd.pinned (.plain (OpenSpec.upto tileBytesSpec)) tileBytesUptoCard

/-- THE SECOND FORM's CARD OF 'gouachelaw07.TileKeys'. -/
def tileKeysUptoCard : Claim7 := { stood := { row := tileKeysUptoRow, standIns := [], harness := (true, "f795b83ca4f232b2a77ff23f81c664e56224021d4c5dc33b383df6de5105d135"), looks := false }, kinds := [], alts := [], laidByText := true, laidKinds := [.data], laidTests := true, laidLooks := .later }
def TileKeysUptoCardSaid : Prop := Claim7.holds Tryd.pinned (.plain (OpenSpec.upto tileKeysSpec)) tileKeysUptoCard
end Rows
end Go.Proofs.YtligojllbnahcaaDoor
