/-
  No cell of these rows narrows 'for every input' (looked for: loops, veiled, ifaces, maps, wideKeys, modest, calm, conditions, laid).
  DERIVED. THE GIVEN ROWS OF THIS SEAT. 10 by the template 'for every input the law returns true; each argument reads behind the call as it read before'; 0 by the template 'total and deterministic' (their statements: YtgipfcpkphmbpaaTotals.lean).
  GIVEN WITH THE SEED: the statements are not yours to turn. If you find one false, say at which input.
  Laid BY PROGRAM, IN A SANDBOX (cutbox-rows.mjs): the forced cells as the released guide's own fill.sh prints them over the translation f6f1d74ea2641f49… (all of the seat's roots in one cut). By AI agents, Wed Nov 11 2026. No macro, syntax, notation, axiom, sorry.
-/
import Derived.Test.YtgipfcpkphmbpaaChecked
import GoSem.Claim
import GoSem.ClaimJoined
import GoSem.ClaimMapViews
import Derived.JoinedTies
import Derived.KernelRfl
namespace Go.Proofs.Ytgipfcpkphmbpaa
/- THE CELL 'sum', in the pinned program and in every row, IS THE sha256 OF THE DUMP (.gsa) THAT YtgipfcpkphmbpaaProg.lean LOADS. Nothing in Lean hashes anything: it is a label: what it is worth is what the hold of that sum in a sandbox is worth. -/
noncomputable def Try.pinned : Pinned := { name := "ytgipfcpkphmbpaa", sum := "f6f1d74ea2641f490237b3b516e14b0d6347bf11ce18041c281701772a7abd5f", checked := Try.checked }
namespace Rows
def none {H : Type} : Left H := { results := [], args := [] }

/-- 'gouachelaw09.AffineBuilds': WHATEVER THE INPUT: true; the input reads as it did. -/
def affineBuildsSpec : ChangeSpec := { name := "affineBuilds", fn := fun _ => fun
  | [d1, d2, d3] => { results := [.lit (.bool true)], args := [d1, d2, d3] }
  | _ => none }
def affineBuildsRow : OpenClaim := { program := "ytgipfcpkphmbpaa", sum := "f6f1d74ea2641f490237b3b516e14b0d6347bf11ce18041c281701772a7abd5f", func := "gouache/gouachelaw09.AffineBuilds", spec := "affineBuilds", unfollowed := true, recurses := true, apart := false }
def AffineBuildsSaid : Prop := affineBuildsRow.holds Try.pinned (OpenSpec.ofChange affineBuildsSpec)

/-- ITS FALSE NEIGHBOUR: 'it returns false'. Refute it at one input. -/
def affineBuildsWrong : ChangeSpec := { name := "affineBuilds", fn := fun _ => fun
  | [d1, d2, d3] => { results := [.lit (.bool false)], args := [d1, d2, d3] }
  | _ => none }
def AffineBuildsWrongFalsely : Prop := affineBuildsRow.holds Try.pinned (OpenSpec.ofChange affineBuildsWrong)

/-- 'gouachelaw09.AffineComposes': WHATEVER THE INPUT: true; the input reads as it did. -/
def affineComposesSpec : ChangeSpec := { name := "affineComposes", fn := fun _ => fun
  | [d1, d2, d3] => { results := [.lit (.bool true)], args := [d1, d2, d3] }
  | _ => none }
def affineComposesRow : OpenClaim := { program := "ytgipfcpkphmbpaa", sum := "f6f1d74ea2641f490237b3b516e14b0d6347bf11ce18041c281701772a7abd5f", func := "gouache/gouachelaw09.AffineComposes", spec := "affineComposes", unfollowed := true, recurses := true, apart := false }
def AffineComposesSaid : Prop := affineComposesRow.holds Try.pinned (OpenSpec.ofChange affineComposesSpec)

/-- ITS FALSE NEIGHBOUR: 'it returns false'. Refute it at one input. -/
def affineComposesWrong : ChangeSpec := { name := "affineComposes", fn := fun _ => fun
  | [d1, d2, d3] => { results := [.lit (.bool false)], args := [d1, d2, d3] }
  | _ => none }
def AffineComposesWrongFalsely : Prop := affineComposesRow.holds Try.pinned (OpenSpec.ofChange affineComposesWrong)

/-- 'gouachelaw09.AffineSamples': WHATEVER THE INPUT: true; the input reads as it did. -/
def affineSamplesSpec : ChangeSpec := { name := "affineSamples", fn := fun _ => fun
  | [d1, d2] => { results := [.lit (.bool true)], args := [d1, d2] }
  | _ => none }
def affineSamplesRow : OpenClaim := { program := "ytgipfcpkphmbpaa", sum := "f6f1d74ea2641f490237b3b516e14b0d6347bf11ce18041c281701772a7abd5f", func := "gouache/gouachelaw09.AffineSamples", spec := "affineSamples", unfollowed := true, recurses := true, apart := false }
def AffineSamplesSaid : Prop := affineSamplesRow.holds Try.pinned (OpenSpec.ofChange affineSamplesSpec)

/-- ITS FALSE NEIGHBOUR: 'it returns false'. Refute it at one input. -/
def affineSamplesWrong : ChangeSpec := { name := "affineSamples", fn := fun _ => fun
  | [d1, d2] => { results := [.lit (.bool false)], args := [d1, d2] }
  | _ => none }
def AffineSamplesWrongFalsely : Prop := affineSamplesRow.holds Try.pinned (OpenSpec.ofChange affineSamplesWrong)

/-- 'gouachelaw09.AffineInverts': WHATEVER THE INPUT: true; the input reads as it did. -/
def affineInvertsSpec : ChangeSpec := { name := "affineInverts", fn := fun _ => fun
  | [d] => { results := [.lit (.bool true)], args := [d] }
  | _ => none }
def affineInvertsRow : OpenClaim := { program := "ytgipfcpkphmbpaa", sum := "f6f1d74ea2641f490237b3b516e14b0d6347bf11ce18041c281701772a7abd5f", func := "gouache/gouachelaw09.AffineInverts", spec := "affineInverts", unfollowed := true, recurses := true, apart := false }
def AffineInvertsSaid : Prop := affineInvertsRow.holds Try.pinned (OpenSpec.ofChange affineInvertsSpec)

/-- ITS FALSE NEIGHBOUR: 'it returns false'. Refute it at one input. -/
def affineInvertsWrong : ChangeSpec := { name := "affineInverts", fn := fun _ => fun
  | [d] => { results := [.lit (.bool false)], args := [d] }
  | _ => none }
def AffineInvertsWrongFalsely : Prop := affineInvertsRow.holds Try.pinned (OpenSpec.ofChange affineInvertsWrong)

/-- 'gouachelaw09.AffineAssociates': WHATEVER THE INPUT: true; the input reads as it did. -/
def affineAssociatesSpec : ChangeSpec := { name := "affineAssociates", fn := fun _ => fun
  | [d] => { results := [.lit (.bool true)], args := [d] }
  | _ => none }
def affineAssociatesRow : OpenClaim := { program := "ytgipfcpkphmbpaa", sum := "f6f1d74ea2641f490237b3b516e14b0d6347bf11ce18041c281701772a7abd5f", func := "gouache/gouachelaw09.AffineAssociates", spec := "affineAssociates", unfollowed := true, recurses := true, apart := false }
def AffineAssociatesSaid : Prop := affineAssociatesRow.holds Try.pinned (OpenSpec.ofChange affineAssociatesSpec)

/-- ITS FALSE NEIGHBOUR: 'it returns false'. Refute it at one input. -/
def affineAssociatesWrong : ChangeSpec := { name := "affineAssociates", fn := fun _ => fun
  | [d] => { results := [.lit (.bool false)], args := [d] }
  | _ => none }
def AffineAssociatesWrongFalsely : Prop := affineAssociatesRow.holds Try.pinned (OpenSpec.ofChange affineAssociatesWrong)

/-- 'gouachelaw09.AffinePreimages': WHATEVER THE INPUT: true; the input reads as it did. -/
def affinePreimagesSpec : ChangeSpec := { name := "affinePreimages", fn := fun _ => fun
  | [d1, d2] => { results := [.lit (.bool true)], args := [d1, d2] }
  | _ => none }
def affinePreimagesRow : OpenClaim := { program := "ytgipfcpkphmbpaa", sum := "f6f1d74ea2641f490237b3b516e14b0d6347bf11ce18041c281701772a7abd5f", func := "gouache/gouachelaw09.AffinePreimages", spec := "affinePreimages", unfollowed := true, recurses := true, apart := false }
def AffinePreimagesSaid : Prop := affinePreimagesRow.holds Try.pinned (OpenSpec.ofChange affinePreimagesSpec)

/-- ITS FALSE NEIGHBOUR: 'it returns false'. Refute it at one input. -/
def affinePreimagesWrong : ChangeSpec := { name := "affinePreimages", fn := fun _ => fun
  | [d1, d2] => { results := [.lit (.bool false)], args := [d1, d2] }
  | _ => none }
def AffinePreimagesWrongFalsely : Prop := affinePreimagesRow.holds Try.pinned (OpenSpec.ofChange affinePreimagesWrong)

/-- 'gouachelaw09.AffineNeeds': WHATEVER THE INPUT: true; the input reads as it did. -/
def affineNeedsSpec : ChangeSpec := { name := "affineNeeds", fn := fun _ => fun
  | [d1, d2] => { results := [.lit (.bool true)], args := [d1, d2] }
  | _ => none }
def affineNeedsRow : OpenClaim := { program := "ytgipfcpkphmbpaa", sum := "f6f1d74ea2641f490237b3b516e14b0d6347bf11ce18041c281701772a7abd5f", func := "gouache/gouachelaw09.AffineNeeds", spec := "affineNeeds", unfollowed := true, recurses := true, apart := false }
def AffineNeedsSaid : Prop := affineNeedsRow.holds Try.pinned (OpenSpec.ofChange affineNeedsSpec)

/-- ITS FALSE NEIGHBOUR: 'it returns false'. Refute it at one input. -/
def affineNeedsWrong : ChangeSpec := { name := "affineNeeds", fn := fun _ => fun
  | [d1, d2] => { results := [.lit (.bool false)], args := [d1, d2] }
  | _ => none }
def AffineNeedsWrongFalsely : Prop := affineNeedsRow.holds Try.pinned (OpenSpec.ofChange affineNeedsWrong)

/-- 'gouachelaw09.AffineBounds': WHATEVER THE INPUT: true; the input reads as it did. -/
def affineBoundsSpec : ChangeSpec := { name := "affineBounds", fn := fun _ => fun
  | [d1, d2, d3] => { results := [.lit (.bool true)], args := [d1, d2, d3] }
  | _ => none }
def affineBoundsRow : OpenClaim := { program := "ytgipfcpkphmbpaa", sum := "f6f1d74ea2641f490237b3b516e14b0d6347bf11ce18041c281701772a7abd5f", func := "gouache/gouachelaw09.AffineBounds", spec := "affineBounds", unfollowed := true, recurses := true, apart := false }
def AffineBoundsSaid : Prop := affineBoundsRow.holds Try.pinned (OpenSpec.ofChange affineBoundsSpec)

/-- ITS FALSE NEIGHBOUR: 'it returns false'. Refute it at one input. -/
def affineBoundsWrong : ChangeSpec := { name := "affineBounds", fn := fun _ => fun
  | [d1, d2, d3] => { results := [.lit (.bool false)], args := [d1, d2, d3] }
  | _ => none }
def AffineBoundsWrongFalsely : Prop := affineBoundsRow.holds Try.pinned (OpenSpec.ofChange affineBoundsWrong)

/-- 'gouachelaw09.AffineShifts': WHATEVER THE INPUT: true; the input reads as it did. -/
def affineShiftsSpec : ChangeSpec := { name := "affineShifts", fn := fun _ => fun
  | [d1, d2] => { results := [.lit (.bool true)], args := [d1, d2] }
  | _ => none }
def affineShiftsRow : OpenClaim := { program := "ytgipfcpkphmbpaa", sum := "f6f1d74ea2641f490237b3b516e14b0d6347bf11ce18041c281701772a7abd5f", func := "gouache/gouachelaw09.AffineShifts", spec := "affineShifts", unfollowed := true, recurses := true, apart := false }
def AffineShiftsSaid : Prop := affineShiftsRow.holds Try.pinned (OpenSpec.ofChange affineShiftsSpec)

/-- ITS FALSE NEIGHBOUR: 'it returns false'. Refute it at one input. -/
def affineShiftsWrong : ChangeSpec := { name := "affineShifts", fn := fun _ => fun
  | [d1, d2] => { results := [.lit (.bool false)], args := [d1, d2] }
  | _ => none }
def AffineShiftsWrongFalsely : Prop := affineShiftsRow.holds Try.pinned (OpenSpec.ofChange affineShiftsWrong)

/-- 'gouachelaw09.AffineLimits': WHATEVER THE INPUT: true; the input reads as it did. -/
def affineLimitsSpec : ChangeSpec := { name := "affineLimits", fn := fun _ => fun
  | [d1, d2] => { results := [.lit (.bool true)], args := [d1, d2] }
  | _ => none }
def affineLimitsRow : OpenClaim := { program := "ytgipfcpkphmbpaa", sum := "f6f1d74ea2641f490237b3b516e14b0d6347bf11ce18041c281701772a7abd5f", func := "gouache/gouachelaw09.AffineLimits", spec := "affineLimits", unfollowed := true, recurses := true, apart := false }
def AffineLimitsSaid : Prop := affineLimitsRow.holds Try.pinned (OpenSpec.ofChange affineLimitsSpec)

/-- ITS FALSE NEIGHBOUR: 'it returns false'. Refute it at one input. -/
def affineLimitsWrong : ChangeSpec := { name := "affineLimits", fn := fun _ => fun
  | [d1, d2] => { results := [.lit (.bool false)], args := [d1, d2] }
  | _ => none }
def AffineLimitsWrongFalsely : Prop := affineLimitsRow.holds Try.pinned (OpenSpec.ofChange affineLimitsWrong)

/- THE SECOND FORM. 'bulk': how many values and letters a reading holds, each counted each time it is reached (what is shared counts as often as it is met; a slice's spare places count too). A statement '..UptoSaid' is the law's where the arguments, and the package variables that the reading takes, are together of bulk at most 1048576: NARROWER than '..Said'. Prove '..Said' where nothing that the law and all that it calls make is longer than what came in: it says more and counts as full. Else prove '..UptoSaid'. A law counts once. -/
mutual
def uptoBulk {H : Type} : DataW H → Nat
  | .lit (.string bytes) => bytes.length + 1
  | .lit _ => 1
  | .nil => 1
  | .ptr d => uptoBulk d + 1
  | .slice elems spare => uptoBulkAll elems + uptoBulkAll spare + 1
  | .agg parts => uptoBulkAll parts + 1
  | .iface _ d => uptoBulk d + 1
  | .map entries => uptoBulkEntries entries + 1
  | .held _ => 1
def uptoBulkAll {H : Type} : List (DataW H) → Nat
  | [] => 0
  | d :: r => uptoBulk d + uptoBulkAll r
def uptoBulkEntries {H : Type} : List (Lit × DataW H) → Nat
  | [] => 0
  | x :: r => uptoBulkEntry x + uptoBulkEntries r
def uptoBulkEntry {H : Type} : Lit × DataW H → Nat
  | (.string bytes, d) => bytes.length + uptoBulk d + 1
  | (_, d) => uptoBulk d + 1
 end
def uptoSmall : (H : Type) → List (DataW H) → Bool := fun _ ds => decide (uptoBulkAll ds ≤ 1048576)
def OpenSpec.upto (s : _root_.Go.ChangeSpec) : _root_.Go.OpenSpec := { _root_.Go.OpenSpec.ofChange s with cond := some uptoSmall }

/-- 'gouachelaw09.AffineBuilds', WHERE WHAT IT READS IS OF BULK AT MOST 1048576: true; the input reads as it did. -/
def affineBuildsUptoRow : OpenClaim := { program := "ytgipfcpkphmbpaa", sum := "f6f1d74ea2641f490237b3b516e14b0d6347bf11ce18041c281701772a7abd5f", func := "gouache/gouachelaw09.AffineBuilds", spec := "affineBuilds", unfollowed := true, recurses := true, apart := false, narrowed := true }
def AffineBuildsUptoSaid : Prop := affineBuildsUptoRow.holds Try.pinned (OpenSpec.upto affineBuildsSpec)

/-- 'gouachelaw09.AffineComposes', WHERE WHAT IT READS IS OF BULK AT MOST 1048576: true; the input reads as it did. -/
def affineComposesUptoRow : OpenClaim := { program := "ytgipfcpkphmbpaa", sum := "f6f1d74ea2641f490237b3b516e14b0d6347bf11ce18041c281701772a7abd5f", func := "gouache/gouachelaw09.AffineComposes", spec := "affineComposes", unfollowed := true, recurses := true, apart := false, narrowed := true }
def AffineComposesUptoSaid : Prop := affineComposesUptoRow.holds Try.pinned (OpenSpec.upto affineComposesSpec)

/-- 'gouachelaw09.AffineSamples', WHERE WHAT IT READS IS OF BULK AT MOST 1048576: true; the input reads as it did. -/
def affineSamplesUptoRow : OpenClaim := { program := "ytgipfcpkphmbpaa", sum := "f6f1d74ea2641f490237b3b516e14b0d6347bf11ce18041c281701772a7abd5f", func := "gouache/gouachelaw09.AffineSamples", spec := "affineSamples", unfollowed := true, recurses := true, apart := false, narrowed := true }
def AffineSamplesUptoSaid : Prop := affineSamplesUptoRow.holds Try.pinned (OpenSpec.upto affineSamplesSpec)

/-- 'gouachelaw09.AffineInverts', WHERE WHAT IT READS IS OF BULK AT MOST 1048576: true; the input reads as it did. -/
def affineInvertsUptoRow : OpenClaim := { program := "ytgipfcpkphmbpaa", sum := "f6f1d74ea2641f490237b3b516e14b0d6347bf11ce18041c281701772a7abd5f", func := "gouache/gouachelaw09.AffineInverts", spec := "affineInverts", unfollowed := true, recurses := true, apart := false, narrowed := true }
def AffineInvertsUptoSaid : Prop := affineInvertsUptoRow.holds Try.pinned (OpenSpec.upto affineInvertsSpec)

/-- 'gouachelaw09.AffineAssociates', WHERE WHAT IT READS IS OF BULK AT MOST 1048576: true; the input reads as it did. -/
def affineAssociatesUptoRow : OpenClaim := { program := "ytgipfcpkphmbpaa", sum := "f6f1d74ea2641f490237b3b516e14b0d6347bf11ce18041c281701772a7abd5f", func := "gouache/gouachelaw09.AffineAssociates", spec := "affineAssociates", unfollowed := true, recurses := true, apart := false, narrowed := true }
def AffineAssociatesUptoSaid : Prop := affineAssociatesUptoRow.holds Try.pinned (OpenSpec.upto affineAssociatesSpec)

/-- 'gouachelaw09.AffinePreimages', WHERE WHAT IT READS IS OF BULK AT MOST 1048576: true; the input reads as it did. -/
def affinePreimagesUptoRow : OpenClaim := { program := "ytgipfcpkphmbpaa", sum := "f6f1d74ea2641f490237b3b516e14b0d6347bf11ce18041c281701772a7abd5f", func := "gouache/gouachelaw09.AffinePreimages", spec := "affinePreimages", unfollowed := true, recurses := true, apart := false, narrowed := true }
def AffinePreimagesUptoSaid : Prop := affinePreimagesUptoRow.holds Try.pinned (OpenSpec.upto affinePreimagesSpec)

/-- 'gouachelaw09.AffineNeeds', WHERE WHAT IT READS IS OF BULK AT MOST 1048576: true; the input reads as it did. -/
def affineNeedsUptoRow : OpenClaim := { program := "ytgipfcpkphmbpaa", sum := "f6f1d74ea2641f490237b3b516e14b0d6347bf11ce18041c281701772a7abd5f", func := "gouache/gouachelaw09.AffineNeeds", spec := "affineNeeds", unfollowed := true, recurses := true, apart := false, narrowed := true }
def AffineNeedsUptoSaid : Prop := affineNeedsUptoRow.holds Try.pinned (OpenSpec.upto affineNeedsSpec)

/-- 'gouachelaw09.AffineBounds', WHERE WHAT IT READS IS OF BULK AT MOST 1048576: true; the input reads as it did. -/
def affineBoundsUptoRow : OpenClaim := { program := "ytgipfcpkphmbpaa", sum := "f6f1d74ea2641f490237b3b516e14b0d6347bf11ce18041c281701772a7abd5f", func := "gouache/gouachelaw09.AffineBounds", spec := "affineBounds", unfollowed := true, recurses := true, apart := false, narrowed := true }
def AffineBoundsUptoSaid : Prop := affineBoundsUptoRow.holds Try.pinned (OpenSpec.upto affineBoundsSpec)

/-- 'gouachelaw09.AffineShifts', WHERE WHAT IT READS IS OF BULK AT MOST 1048576: true; the input reads as it did. -/
def affineShiftsUptoRow : OpenClaim := { program := "ytgipfcpkphmbpaa", sum := "f6f1d74ea2641f490237b3b516e14b0d6347bf11ce18041c281701772a7abd5f", func := "gouache/gouachelaw09.AffineShifts", spec := "affineShifts", unfollowed := true, recurses := true, apart := false, narrowed := true }
def AffineShiftsUptoSaid : Prop := affineShiftsUptoRow.holds Try.pinned (OpenSpec.upto affineShiftsSpec)

/-- 'gouachelaw09.AffineLimits', WHERE WHAT IT READS IS OF BULK AT MOST 1048576: true; the input reads as it did. -/
def affineLimitsUptoRow : OpenClaim := { program := "ytgipfcpkphmbpaa", sum := "f6f1d74ea2641f490237b3b516e14b0d6347bf11ce18041c281701772a7abd5f", func := "gouache/gouachelaw09.AffineLimits", spec := "affineLimits", unfollowed := true, recurses := true, apart := false, narrowed := true }
def AffineLimitsUptoSaid : Prop := affineLimitsUptoRow.holds Try.pinned (OpenSpec.upto affineLimitsSpec)

end Rows
end Go.Proofs.Ytgipfcpkphmbpaa
