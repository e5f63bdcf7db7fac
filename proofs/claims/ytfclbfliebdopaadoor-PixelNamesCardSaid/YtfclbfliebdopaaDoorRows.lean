/-
  NARROWER THAN 'FOR EVERY INPUT', by the rows' own cells (each row's printed sentence says how): PixelNames: laid.
  DERIVED. THE GIVEN ROWS OF THIS SEAT. 1 by the template 'for every input the law returns true; each argument reads behind the call as it read before'; 0 by the template 'total and deterministic' (their statements: YtfclbfliebdopaaDoorTotals.lean).
  GIVEN WITH THE SEED: the statements are not yours to turn. If you find one false, say at which input.
  Laid BY PROGRAM, IN A SANDBOX (cutbox-rows.mjs): the forced cells as the released guide's own fill.sh prints them over the translation 390038dc7e35ac59… (all of the seat's roots in one cut). By AI agents, Wed Nov 11 2026. No macro, syntax, notation, axiom, sorry.
-/
import Derived.Test.YtfclbfliebdopaaDoorChecked
import GoSem.Claim
import GoSem.ClaimJoined
import GoSem.ClaimMapViews
import Derived.JoinedTies
import Derived.KernelRfl
namespace Go.Proofs.YtfclbfliebdopaaDoor
/- THE CELL 'sum', in the pinned program and in every row, IS THE sha256 OF THE DUMP (.gsa) THAT YtfclbfliebdopaaDoorProg.lean LOADS. Nothing in Lean hashes anything: it is a label: what it is worth is what the hold of that sum in a sandbox is worth. -/
noncomputable def Tryd.pinned : Pinned := { name := "ytfclbfliebdopaadoor", sum := "390038dc7e35ac59aabc767998a2966eac7e49b18a3d4d972e6672e57dda2044", checked := Tryd.checked }
namespace Rows
def none {H : Type} : Left H := { results := [], args := [] }

/- WHAT THE LISTED PACKAGE-LEVEL VARIABLES READ AS WHEN THE CALL BEGINS. Each datum BY PROGRAM (the guide's laid-datum.mjs) off the statement by which the dump's own 'gosem.cut.vars' lays the variable. In a bare row this is a premise. The card (YtfclbfliebdopaaDoorCards.lean) ties it to the program's text. -/
def laid_gouache_pixel_names {H : Type} : DataW H := .agg [.lit (.string [110, 111, 114, 109, 97, 108]), .lit (.string [109, 117, 108, 116, 105, 112, 108, 121]), .lit (.string [115, 99, 114, 101, 101, 110]), .lit (.string [111, 118, 101, 114, 108, 97, 121]), .lit (.string [100, 97, 114, 107, 101, 110]), .lit (.string [108, 105, 103, 104, 116, 101, 110]), .lit (.string [100, 111, 100, 103, 101]), .lit (.string [98, 117, 114, 110]), .lit (.string [104, 97, 114, 100, 108, 105, 103, 104, 116]), .lit (.string [115, 111, 102, 116, 108, 105, 103, 104, 116]), .lit (.string [100, 105, 102, 102, 101, 114, 101, 110, 99, 101]), .lit (.string [101, 120, 99, 108, 117, 115, 105, 111, 110]), .lit (.string [97, 100, 100]), .lit (.string [115, 117, 98, 116, 114, 97, 99, 116]), .lit (.string [97, 118, 101, 114, 97, 103, 101]), .lit (.string [110, 101, 103, 97, 116, 105, 111, 110])]

/-- 'gouachelaw04.PixelNames': WHATEVER THE INPUT: true; the input reads as it did. -/
def pixelNamesSpec : ChangeSpec := { name := "pixelNames", fn := fun _ => fun
  | [d1, d2] => { results := [.lit (.bool true)], args := [d1, d2] }
  | _ => none }
def pixelNamesRow : OpenClaim := { program := "ytfclbfliebdopaadoor", sum := "390038dc7e35ac59aabc767998a2966eac7e49b18a3d4d972e6672e57dda2044", func := "gouache/gouachelaw04.PixelNames", spec := "pixelNames", unfollowed := true, recurses := true, named := ["gouache/pixel.names"], apart := false, laid := [("gouache/pixel.names", laid_gouache_pixel_names)] }
def PixelNamesSaid : Prop := pixelNamesRow.holds Tryd.pinned (OpenSpec.ofChange pixelNamesSpec)

/-- ITS FALSE NEIGHBOUR: 'it returns false'. Refute it at one input. -/
def pixelNamesWrong : ChangeSpec := { name := "pixelNames", fn := fun _ => fun
  | [d1, d2] => { results := [.lit (.bool false)], args := [d1, d2] }
  | _ => none }
def PixelNamesWrongFalsely : Prop := pixelNamesRow.holds Tryd.pinned (OpenSpec.ofChange pixelNamesWrong)

/- THE SECOND FORM. 'bulk': how many values and letters a reading holds, each counted each time it is reached (what is shared counts as often as it is met; a slice's spare places count too). A statement '..UptoSaid' is the law's where the arguments, and the package variables that the reading takes, are together of bulk at most 1048576: NARROWER than '..Said'. Prove '..Said' where nothing that the law and all that it calls make is longer than what came in: it says more and counts as full. Else prove '..UptoSaid'. A law counts once. -/
mutual
def uptoBulk {H : Type} : DataW H → Nat
  | .lit (.string bytes) => bytes.length + 1
  | .lit _ => 1
  | .nil => 1
  | .ptr d => uptoBulk d + 1
  | .slice elems spare => uptoBulkAll elems + uptoBulkAll spare + 1
  | .agg parts => uptoBulkAll parts + 1
  | .iface _ d => uptoBulk d + 1
  | .map entries => uptoBulkEntries entries + 1
  | .held _ => 1
def uptoBulkAll {H : Type} : List (DataW H) → Nat
  | [] => 0
  | d :: r => uptoBulk d + uptoBulkAll r
def uptoBulkEntries {H : Type} : List (Lit × DataW H) → Nat
  | [] => 0
  | x :: r => uptoBulkEntry x + uptoBulkEntries r
def uptoBulkEntry {H : Type} : Lit × DataW H → Nat
  | (.string bytes, d) => bytes.length + uptoBulk d + 1
  | (_, d) => uptoBulk d + 1
 end
def uptoSmall : (H : Type) → List (DataW H) → Bool := fun _ ds => decide (uptoBulkAll ds ≤ 1048576)
def OpenSpec.upto (s : _root_.Go.ChangeSpec) : _root_.Go.OpenSpec := { _root_.Go.OpenSpec.ofChange s with cond := some uptoSmall }

/-- 'gouachelaw04.PixelNames', WHERE WHAT IT READS IS OF BULK AT MOST 1048576: true; the input reads as it did. -/
def pixelNamesUptoRow : OpenClaim := { program := "ytfclbfliebdopaadoor", sum := "390038dc7e35ac59aabc767998a2966eac7e49b18a3d4d972e6672e57dda2044", func := "gouache/gouachelaw04.PixelNames", spec := "pixelNames", unfollowed := true, recurses := true, named := ["gouache/pixel.names"], apart := false, laid := [("gouache/pixel.names", laid_gouache_pixel_names)], narrowed := true }
def PixelNamesUptoSaid : Prop := pixelNamesUptoRow.holds Tryd.pinned (OpenSpec.upto pixelNamesSpec)

end Rows
end Go.Proofs.YtfclbfliebdopaaDoor
