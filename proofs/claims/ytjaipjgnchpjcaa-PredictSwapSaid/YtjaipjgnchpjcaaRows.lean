/-
  No cell of these rows narrows 'for every input' (looked for: loops, veiled, ifaces, maps, wideKeys, modest, calm, conditions, laid).
  DERIVED. THE GIVEN ROWS OF THIS SEAT. 7 by the template 'for every input the law returns true; each argument reads behind the call as it read before'; 0 by the template 'total and deterministic' (their statements: YtjaipjgnchpjcaaTotals.lean).
  GIVEN WITH THE SEED: the statements are not yours to turn. If you find one false, say at which input.
  Laid BY PROGRAM, IN A SANDBOX (cutbox-rows.mjs): the forced cells as the released guide's own fill.sh prints them over the translation 9abae782fd7d5e95… (all of the seat's roots in one cut). By AI agents, Wed Nov 11 2026. No macro, syntax, notation, axiom, sorry.
-/
import Derived.Test.YtjaipjgnchpjcaaChecked
import GoSem.Claim
import GoSem.ClaimJoined
import GoSem.ClaimMapViews
import Derived.JoinedTies
import Derived.KernelRfl
namespace Go.Proofs.Ytjaipjgnchpjcaa
/- THE CELL 'sum', in the pinned program and in every row, IS THE sha256 OF THE DUMP (.gsa) THAT YtjaipjgnchpjcaaProg.lean LOADS. Nothing in Lean hashes anything: it is a label: what it is worth is what the hold of that sum in a sandbox is worth. -/
noncomputable def Try.pinned : Pinned := { name := "ytjaipjgnchpjcaa", sum := "9abae782fd7d5e952173351eaa7cc0beaeab6a957d877f8e6bfad032ae2446ad", checked := Try.checked }
namespace Rows
def none {H : Type} : Left H := { results := [], args := [] }

/-- 'gouachelaw10.PredictRoundTrip': WHATEVER THE INPUT: true; the input reads as it did. -/
def predictRoundTripSpec : ChangeSpec := { name := "predictRoundTrip", fn := fun _ => fun
  | [d1, d2] => { results := [.lit (.bool true)], args := [d1, d2] }
  | _ => none }
def predictRoundTripRow : OpenClaim := { program := "ytjaipjgnchpjcaa", sum := "9abae782fd7d5e952173351eaa7cc0beaeab6a957d877f8e6bfad032ae2446ad", func := "gouache/gouachelaw10.PredictRoundTrip", spec := "predictRoundTrip", unfollowed := true, recurses := true, apart := false }
def PredictRoundTripSaid : Prop := predictRoundTripRow.holds Try.pinned (OpenSpec.ofChange predictRoundTripSpec)

/-- ITS FALSE NEIGHBOUR: 'it returns false'. Refute it at one input. -/
def predictRoundTripWrong : ChangeSpec := { name := "predictRoundTrip", fn := fun _ => fun
  | [d1, d2] => { results := [.lit (.bool false)], args := [d1, d2] }
  | _ => none }
def PredictRoundTripWrongFalsely : Prop := predictRoundTripRow.holds Try.pinned (OpenSpec.ofChange predictRoundTripWrong)

/-- 'gouachelaw10.PredictSwap': WHATEVER THE INPUT: true; the input reads as it did. -/
def predictSwapSpec : ChangeSpec := { name := "predictSwap", fn := fun _ => fun
  | [d1, d2, d3] => { results := [.lit (.bool true)], args := [d1, d2, d3] }
  | _ => none }
def predictSwapRow : OpenClaim := { program := "ytjaipjgnchpjcaa", sum := "9abae782fd7d5e952173351eaa7cc0beaeab6a957d877f8e6bfad032ae2446ad", func := "gouache/gouachelaw10.PredictSwap", spec := "predictSwap", unfollowed := true, recurses := true, apart := false }
def PredictSwapSaid : Prop := predictSwapRow.holds Try.pinned (OpenSpec.ofChange predictSwapSpec)

/-- ITS FALSE NEIGHBOUR: 'it returns false'. Refute it at one input. -/
def predictSwapWrong : ChangeSpec := { name := "predictSwap", fn := fun _ => fun
  | [d1, d2, d3] => { results := [.lit (.bool false)], args := [d1, d2, d3] }
  | _ => none }
def PredictSwapWrongFalsely : Prop := predictSwapRow.holds Try.pinned (OpenSpec.ofChange predictSwapWrong)

/-- 'gouachelaw10.PredictCost': WHATEVER THE INPUT: true; the input reads as it did. -/
def predictCostSpec : ChangeSpec := { name := "predictCost", fn := fun _ => fun
  | [d1, d2] => { results := [.lit (.bool true)], args := [d1, d2] }
  | _ => none }
def predictCostRow : OpenClaim := { program := "ytjaipjgnchpjcaa", sum := "9abae782fd7d5e952173351eaa7cc0beaeab6a957d877f8e6bfad032ae2446ad", func := "gouache/gouachelaw10.PredictCost", spec := "predictCost", unfollowed := true, recurses := true, apart := false }
def PredictCostSaid : Prop := predictCostRow.holds Try.pinned (OpenSpec.ofChange predictCostSpec)

/-- ITS FALSE NEIGHBOUR: 'it returns false'. Refute it at one input. -/
def predictCostWrong : ChangeSpec := { name := "predictCost", fn := fun _ => fun
  | [d1, d2] => { results := [.lit (.bool false)], args := [d1, d2] }
  | _ => none }
def PredictCostWrongFalsely : Prop := predictCostRow.holds Try.pinned (OpenSpec.ofChange predictCostWrong)

/-- 'gouachelaw10.PredictSolid': WHATEVER THE INPUT: true; the input reads as it did. -/
def predictSolidSpec : ChangeSpec := { name := "predictSolid", fn := fun _ => fun
  | [d] => { results := [.lit (.bool true)], args := [d] }
  | _ => none }
def predictSolidRow : OpenClaim := { program := "ytjaipjgnchpjcaa", sum := "9abae782fd7d5e952173351eaa7cc0beaeab6a957d877f8e6bfad032ae2446ad", func := "gouache/gouachelaw10.PredictSolid", spec := "predictSolid", unfollowed := true, recurses := true, apart := false }
def PredictSolidSaid : Prop := predictSolidRow.holds Try.pinned (OpenSpec.ofChange predictSolidSpec)

/-- ITS FALSE NEIGHBOUR: 'it returns false'. Refute it at one input. -/
def predictSolidWrong : ChangeSpec := { name := "predictSolid", fn := fun _ => fun
  | [d] => { results := [.lit (.bool false)], args := [d] }
  | _ => none }
def PredictSolidWrongFalsely : Prop := predictSolidRow.holds Try.pinned (OpenSpec.ofChange predictSolidWrong)

/-- 'gouachelaw10.PredictCausal': WHATEVER THE INPUT: true; the input reads as it did. -/
def predictCausalSpec : ChangeSpec := { name := "predictCausal", fn := fun _ => fun
  | [d1, d2, d3] => { results := [.lit (.bool true)], args := [d1, d2, d3] }
  | _ => none }
def predictCausalRow : OpenClaim := { program := "ytjaipjgnchpjcaa", sum := "9abae782fd7d5e952173351eaa7cc0beaeab6a957d877f8e6bfad032ae2446ad", func := "gouache/gouachelaw10.PredictCausal", spec := "predictCausal", unfollowed := true, recurses := true, apart := false }
def PredictCausalSaid : Prop := predictCausalRow.holds Try.pinned (OpenSpec.ofChange predictCausalSpec)

/-- ITS FALSE NEIGHBOUR: 'it returns false'. Refute it at one input. -/
def predictCausalWrong : ChangeSpec := { name := "predictCausal", fn := fun _ => fun
  | [d1, d2, d3] => { results := [.lit (.bool false)], args := [d1, d2, d3] }
  | _ => none }
def PredictCausalWrongFalsely : Prop := predictCausalRow.holds Try.pinned (OpenSpec.ofChange predictCausalWrong)

/-- 'gouachelaw10.PredictPlanes': WHATEVER THE INPUT: true; the input reads as it did. -/
def predictPlanesSpec : ChangeSpec := { name := "predictPlanes", fn := fun _ => fun
  | [d1, d2] => { results := [.lit (.bool true)], args := [d1, d2] }
  | _ => none }
def predictPlanesRow : OpenClaim := { program := "ytjaipjgnchpjcaa", sum := "9abae782fd7d5e952173351eaa7cc0beaeab6a957d877f8e6bfad032ae2446ad", func := "gouache/gouachelaw10.PredictPlanes", spec := "predictPlanes", unfollowed := true, recurses := true, apart := false }
def PredictPlanesSaid : Prop := predictPlanesRow.holds Try.pinned (OpenSpec.ofChange predictPlanesSpec)

/-- ITS FALSE NEIGHBOUR: 'it returns false'. Refute it at one input. -/
def predictPlanesWrong : ChangeSpec := { name := "predictPlanes", fn := fun _ => fun
  | [d1, d2] => { results := [.lit (.bool false)], args := [d1, d2] }
  | _ => none }
def PredictPlanesWrongFalsely : Prop := predictPlanesRow.holds Try.pinned (OpenSpec.ofChange predictPlanesWrong)

/-- 'gouachelaw10.PredictGradient': WHATEVER THE INPUT: true; the input reads as it did. -/
def predictGradientSpec : ChangeSpec := { name := "predictGradient", fn := fun _ => fun
  | [d1, d2, d3] => { results := [.lit (.bool true)], args := [d1, d2, d3] }
  | _ => none }
def predictGradientRow : OpenClaim := { program := "ytjaipjgnchpjcaa", sum := "9abae782fd7d5e952173351eaa7cc0beaeab6a957d877f8e6bfad032ae2446ad", func := "gouache/gouachelaw10.PredictGradient", spec := "predictGradient", unfollowed := true, recurses := true, apart := false }
def PredictGradientSaid : Prop := predictGradientRow.holds Try.pinned (OpenSpec.ofChange predictGradientSpec)

/-- ITS FALSE NEIGHBOUR: 'it returns false'. Refute it at one input. -/
def predictGradientWrong : ChangeSpec := { name := "predictGradient", fn := fun _ => fun
  | [d1, d2, d3] => { results := [.lit (.bool false)], args := [d1, d2, d3] }
  | _ => none }
def PredictGradientWrongFalsely : Prop := predictGradientRow.holds Try.pinned (OpenSpec.ofChange predictGradientWrong)

/- THE SECOND FORM. 'bulk': how many values and letters a reading holds, each counted each time it is reached (what is shared counts as often as it is met; a slice's spare places count too). A statement '..UptoSaid' is the law's where the arguments, and the package variables that the reading takes, are together of bulk at most 1048576: NARROWER than '..Said'. Prove '..Said' where nothing that the law and all that it calls make is longer than what came in: it says more and counts as full. Else prove '..UptoSaid'. A law counts once. -/
mutual
def uptoBulk {H : Type} : DataW H → Nat
  | .lit (.string bytes) => bytes.length + 1
  | .lit _ => 1
  | .nil => 1
  | .ptr d => uptoBulk d + 1
  | .slice elems spare => uptoBulkAll elems + uptoBulkAll spare + 1
  | .agg parts => uptoBulkAll parts + 1
  | .iface _ d => uptoBulk d + 1
  | .map entries => uptoBulkEntries entries + 1
  | .held _ => 1
def uptoBulkAll {H : Type} : List (DataW H) → Nat
  | [] => 0
  | d :: r => uptoBulk d + uptoBulkAll r
def uptoBulkEntries {H : Type} : List (Lit × DataW H) → Nat
  | [] => 0
  | x :: r => uptoBulkEntry x + uptoBulkEntries r
def uptoBulkEntry {H : Type} : Lit × DataW H → Nat
  | (.string bytes, d) => bytes.length + uptoBulk d + 1
  | (_, d) => uptoBulk d + 1
 end
def uptoSmall : (H : Type) → List (DataW H) → Bool := fun _ ds => decide (uptoBulkAll ds ≤ 1048576)
def OpenSpec.upto (s : _root_.Go.ChangeSpec) : _root_.Go.OpenSpec := { _root_.Go.OpenSpec.ofChange s with cond := some uptoSmall }

/-- 'gouachelaw10.PredictRoundTrip', WHERE WHAT IT READS IS OF BULK AT MOST 1048576: true; the input reads as it did. -/
def predictRoundTripUptoRow : OpenClaim := { program := "ytjaipjgnchpjcaa", sum := "9abae782fd7d5e952173351eaa7cc0beaeab6a957d877f8e6bfad032ae2446ad", func := "gouache/gouachelaw10.PredictRoundTrip", spec := "predictRoundTrip", unfollowed := true, recurses := true, apart := false, narrowed := true }
def PredictRoundTripUptoSaid : Prop := predictRoundTripUptoRow.holds Try.pinned (OpenSpec.upto predictRoundTripSpec)

/-- 'gouachelaw10.PredictSwap', WHERE WHAT IT READS IS OF BULK AT MOST 1048576: true; the input reads as it did. -/
def predictSwapUptoRow : OpenClaim := { program := "ytjaipjgnchpjcaa", sum := "9abae782fd7d5e952173351eaa7cc0beaeab6a957d877f8e6bfad032ae2446ad", func := "gouache/gouachelaw10.PredictSwap", spec := "predictSwap", unfollowed := true, recurses := true, apart := false, narrowed := true }
def PredictSwapUptoSaid : Prop := predictSwapUptoRow.holds Try.pinned (OpenSpec.upto predictSwapSpec)

/-- 'gouachelaw10.PredictCost', WHERE WHAT IT READS IS OF BULK AT MOST 1048576: true; the input reads as it did. -/
def predictCostUptoRow : OpenClaim := { program := "ytjaipjgnchpjcaa", sum := "9abae782fd7d5e952173351eaa7cc0beaeab6a957d877f8e6bfad032ae2446ad", func := "gouache/gouachelaw10.PredictCost", spec := "predictCost", unfollowed := true, recurses := true, apart := false, narrowed := true }
def PredictCostUptoSaid : Prop := predictCostUptoRow.holds Try.pinned (OpenSpec.upto predictCostSpec)

/-- 'gouachelaw10.PredictSolid', WHERE WHAT IT READS IS OF BULK AT MOST 1048576: true; the input reads as it did. -/
def predictSolidUptoRow : OpenClaim := { program := "ytjaipjgnchpjcaa", sum := "9abae782fd7d5e952173351eaa7cc0beaeab6a957d877f8e6bfad032ae2446ad", func := "gouache/gouachelaw10.PredictSolid", spec := "predictSolid", unfollowed := true, recurses := true, apart := false, narrowed := true }
def PredictSolidUptoSaid : Prop := predictSolidUptoRow.holds Try.pinned (OpenSpec.upto predictSolidSpec)

/-- 'gouachelaw10.PredictCausal', WHERE WHAT IT READS IS OF BULK AT MOST 1048576: true; the input reads as it did. -/
def predictCausalUptoRow : OpenClaim := { program := "ytjaipjgnchpjcaa", sum := "9abae782fd7d5e952173351eaa7cc0beaeab6a957d877f8e6bfad032ae2446ad", func := "gouache/gouachelaw10.PredictCausal", spec := "predictCausal", unfollowed := true, recurses := true, apart := false, narrowed := true }
def PredictCausalUptoSaid : Prop := predictCausalUptoRow.holds Try.pinned (OpenSpec.upto predictCausalSpec)

/-- 'gouachelaw10.PredictPlanes', WHERE WHAT IT READS IS OF BULK AT MOST 1048576: true; the input reads as it did. -/
def predictPlanesUptoRow : OpenClaim := { program := "ytjaipjgnchpjcaa", sum := "9abae782fd7d5e952173351eaa7cc0beaeab6a957d877f8e6bfad032ae2446ad", func := "gouache/gouachelaw10.PredictPlanes", spec := "predictPlanes", unfollowed := true, recurses := true, apart := false, narrowed := true }
def PredictPlanesUptoSaid : Prop := predictPlanesUptoRow.holds Try.pinned (OpenSpec.upto predictPlanesSpec)

/-- 'gouachelaw10.PredictGradient', WHERE WHAT IT READS IS OF BULK AT MOST 1048576: true; the input reads as it did. -/
def predictGradientUptoRow : OpenClaim := { program := "ytjaipjgnchpjcaa", sum := "9abae782fd7d5e952173351eaa7cc0beaeab6a957d877f8e6bfad032ae2446ad", func := "gouache/gouachelaw10.PredictGradient", spec := "predictGradient", unfollowed := true, recurses := true, apart := false, narrowed := true }
def PredictGradientUptoSaid : Prop := predictGradientUptoRow.holds Try.pinned (OpenSpec.upto predictGradientSpec)

end Rows
end Go.Proofs.Ytjaipjgnchpjcaa
