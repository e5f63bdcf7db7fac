/-
  No cell of these rows narrows 'for every input' (looked for: loops, veiled, ifaces, maps, wideKeys, modest, calm, conditions, laid).
  DERIVED. THE GIVEN ROWS OF THIS SEAT. 9 by the template 'for every input the law returns true; each argument reads behind the call as it read before'; 0 by the template 'total and deterministic' (their statements: YtfclbfliebdopaaTotals.lean).
  GIVEN WITH THE SEED: the statements are not yours to turn. If you find one false, say at which input.
  Laid BY PROGRAM, IN A SANDBOX (cutbox-rows.mjs): the forced cells as the released guide's own fill.sh prints them over the translation 2b0c0a3b318f9d9b… (all of the seat's roots in one cut). By AI agents, Wed Nov 11 2026. No macro, syntax, notation, axiom, sorry.
-/
import Derived.Test.YtfclbfliebdopaaChecked
import GoSem.Claim
import GoSem.ClaimJoined
import GoSem.ClaimMapViews
import Derived.JoinedTies
import Derived.KernelRfl
namespace Go.Proofs.Ytfclbfliebdopaa
/- THE CELL 'sum', in the pinned program and in every row, IS THE sha256 OF THE DUMP (.gsa) THAT YtfclbfliebdopaaProg.lean LOADS. Nothing in Lean hashes anything: it is a label: what it is worth is what the hold of that sum in a sandbox is worth. -/
noncomputable def Try.pinned : Pinned := { name := "ytfclbfliebdopaa", sum := "2b0c0a3b318f9d9bbe945e105b90fecf2a95b8536a57b36806f86e138ec68c07", checked := Try.checked }
namespace Rows
def none {H : Type} : Left H := { results := [], args := [] }

/-- 'gouachelaw04.PixelBlends': WHATEVER THE INPUT: true; the input reads as it did. -/
def pixelBlendsSpec : ChangeSpec := { name := "pixelBlends", fn := fun _ => fun
  | [d1, d2, d3] => { results := [.lit (.bool true)], args := [d1, d2, d3] }
  | _ => none }
def pixelBlendsRow : OpenClaim := { program := "ytfclbfliebdopaa", sum := "2b0c0a3b318f9d9bbe945e105b90fecf2a95b8536a57b36806f86e138ec68c07", func := "gouache/gouachelaw04.PixelBlends", spec := "pixelBlends", unfollowed := true, recurses := true, apart := false }
def PixelBlendsSaid : Prop := pixelBlendsRow.holds Try.pinned (OpenSpec.ofChange pixelBlendsSpec)

/-- ITS FALSE NEIGHBOUR: 'it returns false'. Refute it at one input. -/
def pixelBlendsWrong : ChangeSpec := { name := "pixelBlends", fn := fun _ => fun
  | [d1, d2, d3] => { results := [.lit (.bool false)], args := [d1, d2, d3] }
  | _ => none }
def PixelBlendsWrongFalsely : Prop := pixelBlendsRow.holds Try.pinned (OpenSpec.ofChange pixelBlendsWrong)

/-- 'gouachelaw04.PixelOver': WHATEVER THE INPUT: true; the input reads as it did. -/
def pixelOverSpec : ChangeSpec := { name := "pixelOver", fn := fun _ => fun
  | [d1, d2, d3] => { results := [.lit (.bool true)], args := [d1, d2, d3] }
  | _ => none }
def pixelOverRow : OpenClaim := { program := "ytfclbfliebdopaa", sum := "2b0c0a3b318f9d9bbe945e105b90fecf2a95b8536a57b36806f86e138ec68c07", func := "gouache/gouachelaw04.PixelOver", spec := "pixelOver", unfollowed := true, recurses := true, apart := false }
def PixelOverSaid : Prop := pixelOverRow.holds Try.pinned (OpenSpec.ofChange pixelOverSpec)

/-- ITS FALSE NEIGHBOUR: 'it returns false'. Refute it at one input. -/
def pixelOverWrong : ChangeSpec := { name := "pixelOver", fn := fun _ => fun
  | [d1, d2, d3] => { results := [.lit (.bool false)], args := [d1, d2, d3] }
  | _ => none }
def PixelOverWrongFalsely : Prop := pixelOverRow.holds Try.pinned (OpenSpec.ofChange pixelOverWrong)

/-- 'gouachelaw04.PixelMixes': WHATEVER THE INPUT: true; the input reads as it did. -/
def pixelMixesSpec : ChangeSpec := { name := "pixelMixes", fn := fun _ => fun
  | [d1, d2, d3] => { results := [.lit (.bool true)], args := [d1, d2, d3] }
  | _ => none }
def pixelMixesRow : OpenClaim := { program := "ytfclbfliebdopaa", sum := "2b0c0a3b318f9d9bbe945e105b90fecf2a95b8536a57b36806f86e138ec68c07", func := "gouache/gouachelaw04.PixelMixes", spec := "pixelMixes", unfollowed := true, recurses := true, apart := false }
def PixelMixesSaid : Prop := pixelMixesRow.holds Try.pinned (OpenSpec.ofChange pixelMixesSpec)

/-- ITS FALSE NEIGHBOUR: 'it returns false'. Refute it at one input. -/
def pixelMixesWrong : ChangeSpec := { name := "pixelMixes", fn := fun _ => fun
  | [d1, d2, d3] => { results := [.lit (.bool false)], args := [d1, d2, d3] }
  | _ => none }
def PixelMixesWrongFalsely : Prop := pixelMixesRow.holds Try.pinned (OpenSpec.ofChange pixelMixesWrong)

/-- 'gouachelaw04.PixelMeans': WHATEVER THE INPUT: true; the input reads as it did. -/
def pixelMeansSpec : ChangeSpec := { name := "pixelMeans", fn := fun _ => fun
  | [d] => { results := [.lit (.bool true)], args := [d] }
  | _ => none }
def pixelMeansRow : OpenClaim := { program := "ytfclbfliebdopaa", sum := "2b0c0a3b318f9d9bbe945e105b90fecf2a95b8536a57b36806f86e138ec68c07", func := "gouache/gouachelaw04.PixelMeans", spec := "pixelMeans", unfollowed := true, recurses := true, apart := false }
def PixelMeansSaid : Prop := pixelMeansRow.holds Try.pinned (OpenSpec.ofChange pixelMeansSpec)

/-- ITS FALSE NEIGHBOUR: 'it returns false'. Refute it at one input. -/
def pixelMeansWrong : ChangeSpec := { name := "pixelMeans", fn := fun _ => fun
  | [d] => { results := [.lit (.bool false)], args := [d] }
  | _ => none }
def PixelMeansWrongFalsely : Prop := pixelMeansRow.holds Try.pinned (OpenSpec.ofChange pixelMeansWrong)

/-- 'gouachelaw04.PixelIdentities': WHATEVER THE INPUT: true; the input reads as it did. -/
def pixelIdentitiesSpec : ChangeSpec := { name := "pixelIdentities", fn := fun _ => fun
  | [d1, d2, d3] => { results := [.lit (.bool true)], args := [d1, d2, d3] }
  | _ => none }
def pixelIdentitiesRow : OpenClaim := { program := "ytfclbfliebdopaa", sum := "2b0c0a3b318f9d9bbe945e105b90fecf2a95b8536a57b36806f86e138ec68c07", func := "gouache/gouachelaw04.PixelIdentities", spec := "pixelIdentities", unfollowed := true, recurses := true, apart := false }
def PixelIdentitiesSaid : Prop := pixelIdentitiesRow.holds Try.pinned (OpenSpec.ofChange pixelIdentitiesSpec)

/-- ITS FALSE NEIGHBOUR: 'it returns false'. Refute it at one input. -/
def pixelIdentitiesWrong : ChangeSpec := { name := "pixelIdentities", fn := fun _ => fun
  | [d1, d2, d3] => { results := [.lit (.bool false)], args := [d1, d2, d3] }
  | _ => none }
def PixelIdentitiesWrongFalsely : Prop := pixelIdentitiesRow.holds Try.pinned (OpenSpec.ofChange pixelIdentitiesWrong)

/-- 'gouachelaw04.PixelCommutes': WHATEVER THE INPUT: true; the input reads as it did. -/
def pixelCommutesSpec : ChangeSpec := { name := "pixelCommutes", fn := fun _ => fun
  | [d1, d2] => { results := [.lit (.bool true)], args := [d1, d2] }
  | _ => none }
def pixelCommutesRow : OpenClaim := { program := "ytfclbfliebdopaa", sum := "2b0c0a3b318f9d9bbe945e105b90fecf2a95b8536a57b36806f86e138ec68c07", func := "gouache/gouachelaw04.PixelCommutes", spec := "pixelCommutes", unfollowed := true, recurses := true, apart := false }
def PixelCommutesSaid : Prop := pixelCommutesRow.holds Try.pinned (OpenSpec.ofChange pixelCommutesSpec)

/-- ITS FALSE NEIGHBOUR: 'it returns false'. Refute it at one input. -/
def pixelCommutesWrong : ChangeSpec := { name := "pixelCommutes", fn := fun _ => fun
  | [d1, d2] => { results := [.lit (.bool false)], args := [d1, d2] }
  | _ => none }
def PixelCommutesWrongFalsely : Prop := pixelCommutesRow.holds Try.pinned (OpenSpec.ofChange pixelCommutesWrong)

/-- 'gouachelaw04.PixelBounds': WHATEVER THE INPUT: true; the input reads as it did. -/
def pixelBoundsSpec : ChangeSpec := { name := "pixelBounds", fn := fun _ => fun
  | [d1, d2, d3] => { results := [.lit (.bool true)], args := [d1, d2, d3] }
  | _ => none }
def pixelBoundsRow : OpenClaim := { program := "ytfclbfliebdopaa", sum := "2b0c0a3b318f9d9bbe945e105b90fecf2a95b8536a57b36806f86e138ec68c07", func := "gouache/gouachelaw04.PixelBounds", spec := "pixelBounds", unfollowed := true, recurses := true, apart := false }
def PixelBoundsSaid : Prop := pixelBoundsRow.holds Try.pinned (OpenSpec.ofChange pixelBoundsSpec)

/-- ITS FALSE NEIGHBOUR: 'it returns false'. Refute it at one input. -/
def pixelBoundsWrong : ChangeSpec := { name := "pixelBounds", fn := fun _ => fun
  | [d1, d2, d3] => { results := [.lit (.bool false)], args := [d1, d2, d3] }
  | _ => none }
def PixelBoundsWrongFalsely : Prop := pixelBoundsRow.holds Try.pinned (OpenSpec.ofChange pixelBoundsWrong)

/-- 'gouachelaw04.PixelMixEnds': WHATEVER THE INPUT: true; the input reads as it did. -/
def pixelMixEndsSpec : ChangeSpec := { name := "pixelMixEnds", fn := fun _ => fun
  | [d1, d2, d3] => { results := [.lit (.bool true)], args := [d1, d2, d3] }
  | _ => none }
def pixelMixEndsRow : OpenClaim := { program := "ytfclbfliebdopaa", sum := "2b0c0a3b318f9d9bbe945e105b90fecf2a95b8536a57b36806f86e138ec68c07", func := "gouache/gouachelaw04.PixelMixEnds", spec := "pixelMixEnds", unfollowed := true, recurses := true, apart := false }
def PixelMixEndsSaid : Prop := pixelMixEndsRow.holds Try.pinned (OpenSpec.ofChange pixelMixEndsSpec)

/-- ITS FALSE NEIGHBOUR: 'it returns false'. Refute it at one input. -/
def pixelMixEndsWrong : ChangeSpec := { name := "pixelMixEnds", fn := fun _ => fun
  | [d1, d2, d3] => { results := [.lit (.bool false)], args := [d1, d2, d3] }
  | _ => none }
def PixelMixEndsWrongFalsely : Prop := pixelMixEndsRow.holds Try.pinned (OpenSpec.ofChange pixelMixEndsWrong)

/-- 'gouachelaw04.PixelMeanOrder': WHATEVER THE INPUT: true; the input reads as it did. -/
def pixelMeanOrderSpec : ChangeSpec := { name := "pixelMeanOrder", fn := fun _ => fun
  | [d1, d2] => { results := [.lit (.bool true)], args := [d1, d2] }
  | _ => none }
def pixelMeanOrderRow : OpenClaim := { program := "ytfclbfliebdopaa", sum := "2b0c0a3b318f9d9bbe945e105b90fecf2a95b8536a57b36806f86e138ec68c07", func := "gouache/gouachelaw04.PixelMeanOrder", spec := "pixelMeanOrder", unfollowed := true, recurses := true, apart := false }
def PixelMeanOrderSaid : Prop := pixelMeanOrderRow.holds Try.pinned (OpenSpec.ofChange pixelMeanOrderSpec)

/-- ITS FALSE NEIGHBOUR: 'it returns false'. Refute it at one input. -/
def pixelMeanOrderWrong : ChangeSpec := { name := "pixelMeanOrder", fn := fun _ => fun
  | [d1, d2] => { results := [.lit (.bool false)], args := [d1, d2] }
  | _ => none }
def PixelMeanOrderWrongFalsely : Prop := pixelMeanOrderRow.holds Try.pinned (OpenSpec.ofChange pixelMeanOrderWrong)

/- THE SECOND FORM. 'bulk': how many values and letters a reading holds, each counted each time it is reached (what is shared counts as often as it is met; a slice's spare places count too). A statement '..UptoSaid' is the law's where the arguments, and the package variables that the reading takes, are together of bulk at most 1048576: NARROWER than '..Said'. Prove '..Said' where nothing that the law and all that it calls make is longer than what came in: it says more and counts as full. Else prove '..UptoSaid'. A law counts once. -/
mutual
def uptoBulk {H : Type} : DataW H → Nat
  | .lit (.string bytes) => bytes.length + 1
  | .lit _ => 1
  | .nil => 1
  | .ptr d => uptoBulk d + 1
  | .slice elems spare => uptoBulkAll elems + uptoBulkAll spare + 1
  | .agg parts => uptoBulkAll parts + 1
  | .iface _ d => uptoBulk d + 1
  | .map entries => uptoBulkEntries entries + 1
  | .held _ => 1
def uptoBulkAll {H : Type} : List (DataW H) → Nat
  | [] => 0
  | d :: r => uptoBulk d + uptoBulkAll r
def uptoBulkEntries {H : Type} : List (Lit × DataW H) → Nat
  | [] => 0
  | x :: r => uptoBulkEntry x + uptoBulkEntries r
def uptoBulkEntry {H : Type} : Lit × DataW H → Nat
  | (.string bytes, d) => bytes.length + uptoBulk d + 1
  | (_, d) => uptoBulk d + 1
 end
def uptoSmall : (H : Type) → List (DataW H) → Bool := fun _ ds => decide (uptoBulkAll ds ≤ 1048576)
def OpenSpec.upto (s : _root_.Go.ChangeSpec) : _root_.Go.OpenSpec := { _root_.Go.OpenSpec.ofChange s with cond := some uptoSmall }

/-- 'gouachelaw04.PixelBlends', WHERE WHAT IT READS IS OF BULK AT MOST 1048576: true; the input reads as it did. -/
def pixelBlendsUptoRow : OpenClaim := { program := "ytfclbfliebdopaa", sum := "2b0c0a3b318f9d9bbe945e105b90fecf2a95b8536a57b36806f86e138ec68c07", func := "gouache/gouachelaw04.PixelBlends", spec := "pixelBlends", unfollowed := true, recurses := true, apart := false, narrowed := true }
def PixelBlendsUptoSaid : Prop := pixelBlendsUptoRow.holds Try.pinned (OpenSpec.upto pixelBlendsSpec)

/-- 'gouachelaw04.PixelOver', WHERE WHAT IT READS IS OF BULK AT MOST 1048576: true; the input reads as it did. -/
def pixelOverUptoRow : OpenClaim := { program := "ytfclbfliebdopaa", sum := "2b0c0a3b318f9d9bbe945e105b90fecf2a95b8536a57b36806f86e138ec68c07", func := "gouache/gouachelaw04.PixelOver", spec := "pixelOver", unfollowed := true, recurses := true, apart := false, narrowed := true }
def PixelOverUptoSaid : Prop := pixelOverUptoRow.holds Try.pinned (OpenSpec.upto pixelOverSpec)

/-- 'gouachelaw04.PixelMixes', WHERE WHAT IT READS IS OF BULK AT MOST 1048576: true; the input reads as it did. -/
def pixelMixesUptoRow : OpenClaim := { program := "ytfclbfliebdopaa", sum := "2b0c0a3b318f9d9bbe945e105b90fecf2a95b8536a57b36806f86e138ec68c07", func := "gouache/gouachelaw04.PixelMixes", spec := "pixelMixes", unfollowed := true, recurses := true, apart := false, narrowed := true }
def PixelMixesUptoSaid : Prop := pixelMixesUptoRow.holds Try.pinned (OpenSpec.upto pixelMixesSpec)

/-- 'gouachelaw04.PixelMeans', WHERE WHAT IT READS IS OF BULK AT MOST 1048576: true; the input reads as it did. -/
def pixelMeansUptoRow : OpenClaim := { program := "ytfclbfliebdopaa", sum := "2b0c0a3b318f9d9bbe945e105b90fecf2a95b8536a57b36806f86e138ec68c07", func := "gouache/gouachelaw04.PixelMeans", spec := "pixelMeans", unfollowed := true, recurses := true, apart := false, narrowed := true }
def PixelMeansUptoSaid : Prop := pixelMeansUptoRow.holds Try.pinned (OpenSpec.upto pixelMeansSpec)

/-- 'gouachelaw04.PixelIdentities', WHERE WHAT IT READS IS OF BULK AT MOST 1048576: true; the input reads as it did. -/
def pixelIdentitiesUptoRow : OpenClaim := { program := "ytfclbfliebdopaa", sum := "2b0c0a3b318f9d9bbe945e105b90fecf2a95b8536a57b36806f86e138ec68c07", func := "gouache/gouachelaw04.PixelIdentities", spec := "pixelIdentities", unfollowed := true, recurses := true, apart := false, narrowed := true }
def PixelIdentitiesUptoSaid : Prop := pixelIdentitiesUptoRow.holds Try.pinned (OpenSpec.upto pixelIdentitiesSpec)

/-- 'gouachelaw04.PixelCommutes', WHERE WHAT IT READS IS OF BULK AT MOST 1048576: true; the input reads as it did. -/
def pixelCommutesUptoRow : OpenClaim := { program := "ytfclbfliebdopaa", sum := "2b0c0a3b318f9d9bbe945e105b90fecf2a95b8536a57b36806f86e138ec68c07", func := "gouache/gouachelaw04.PixelCommutes", spec := "pixelCommutes", unfollowed := true, recurses := true, apart := false, narrowed := true }
def PixelCommutesUptoSaid : Prop := pixelCommutesUptoRow.holds Try.pinned (OpenSpec.upto pixelCommutesSpec)

/-- 'gouachelaw04.PixelBounds', WHERE WHAT IT READS IS OF BULK AT MOST 1048576: true; the input reads as it did. -/
def pixelBoundsUptoRow : OpenClaim := { program := "ytfclbfliebdopaa", sum := "2b0c0a3b318f9d9bbe945e105b90fecf2a95b8536a57b36806f86e138ec68c07", func := "gouache/gouachelaw04.PixelBounds", spec := "pixelBounds", unfollowed := true, recurses := true, apart := false, narrowed := true }
def PixelBoundsUptoSaid : Prop := pixelBoundsUptoRow.holds Try.pinned (OpenSpec.upto pixelBoundsSpec)

/-- 'gouachelaw04.PixelMixEnds', WHERE WHAT IT READS IS OF BULK AT MOST 1048576: true; the input reads as it did. -/
def pixelMixEndsUptoRow : OpenClaim := { program := "ytfclbfliebdopaa", sum := "2b0c0a3b318f9d9bbe945e105b90fecf2a95b8536a57b36806f86e138ec68c07", func := "gouache/gouachelaw04.PixelMixEnds", spec := "pixelMixEnds", unfollowed := true, recurses := true, apart := false, narrowed := true }
def PixelMixEndsUptoSaid : Prop := pixelMixEndsUptoRow.holds Try.pinned (OpenSpec.upto pixelMixEndsSpec)

/-- 'gouachelaw04.PixelMeanOrder', WHERE WHAT IT READS IS OF BULK AT MOST 1048576: true; the input reads as it did. -/
def pixelMeanOrderUptoRow : OpenClaim := { program := "ytfclbfliebdopaa", sum := "2b0c0a3b318f9d9bbe945e105b90fecf2a95b8536a57b36806f86e138ec68c07", func := "gouache/gouachelaw04.PixelMeanOrder", spec := "pixelMeanOrder", unfollowed := true, recurses := true, apart := false, narrowed := true }
def PixelMeanOrderUptoSaid : Prop := pixelMeanOrderUptoRow.holds Try.pinned (OpenSpec.upto pixelMeanOrderSpec)

end Rows
end Go.Proofs.Ytfclbfliebdopaa
