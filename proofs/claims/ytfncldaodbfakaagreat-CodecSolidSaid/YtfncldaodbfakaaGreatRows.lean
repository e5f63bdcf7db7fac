/-
  No cell of these rows narrows 'for every input' (looked for: loops, veiled, ifaces, maps, wideKeys, modest, calm, conditions, laid).
  DERIVED. THE GIVEN ROWS OF THIS SEAT. 9 by the template 'for every input the law returns true; each argument reads behind the call as it read before'; 0 by the template 'total and deterministic' (their statements: YtfncldaodbfakaaGreatTotals.lean).
  GIVEN WITH THE SEED: the statements are not yours to turn. If you find one false, say at which input.
  Laid BY PROGRAM, IN A SANDBOX (cutbox-rows.mjs): the forced cells as the released guide's own fill.sh prints them over the translation 50a4a80137b005c7… (all of the seat's roots in one cut). By AI agents, Wed Nov 11 2026. No macro, syntax, notation, axiom, sorry.
-/
import Derived.Test.YtfncldaodbfakaaGreatChecked
import GoSem.Claim
import GoSem.ClaimJoined
import GoSem.ClaimMapViews
import Derived.JoinedTies
import Derived.KernelRfl
namespace Go.Proofs.YtfncldaodbfakaaGreat
/- THE CELL 'sum', in the pinned program and in every row, IS THE sha256 OF THE DUMP (.gsa) THAT YtfncldaodbfakaaGreatProg.lean LOADS. Nothing in Lean hashes anything: it is a label: what it is worth is what the hold of that sum in a sandbox is worth. -/
noncomputable def Tryz.pinned : Pinned := { name := "ytfncldaodbfakaagreat", sum := "50a4a80137b005c77fbc94b7631fbd248e1020d6b9d34b65aed0939d4e4c2f8e", checked := Tryz.checked }
namespace Rows
def none {H : Type} : Left H := { results := [], args := [] }

/-- 'gouachelaw12.CodecPacks': WHATEVER THE INPUT: true; the input reads as it did. -/
def codecPacksSpec : ChangeSpec := { name := "codecPacks", fn := fun _ => fun
  | [d1, d2] => { results := [.lit (.bool true)], args := [d1, d2] }
  | _ => none }
def codecPacksRow : OpenClaim := { program := "ytfncldaodbfakaagreat", sum := "50a4a80137b005c77fbc94b7631fbd248e1020d6b9d34b65aed0939d4e4c2f8e", func := "gouache/gouachelaw12.CodecPacks", spec := "codecPacks", inPlace := ["internal/abi.NoEscape"], unfollowed := true, recurses := true, apart := false }
def CodecPacksSaid : Prop := codecPacksRow.holds Tryz.pinned (OpenSpec.ofChange codecPacksSpec)

/-- ITS FALSE NEIGHBOUR: 'it returns false'. Refute it at one input. -/
def codecPacksWrong : ChangeSpec := { name := "codecPacks", fn := fun _ => fun
  | [d1, d2] => { results := [.lit (.bool false)], args := [d1, d2] }
  | _ => none }
def CodecPacksWrongFalsely : Prop := codecPacksRow.holds Tryz.pinned (OpenSpec.ofChange codecPacksWrong)

/-- 'gouachelaw12.CodecBack': WHATEVER THE INPUT: true; the input reads as it did. -/
def codecBackSpec : ChangeSpec := { name := "codecBack", fn := fun _ => fun
  | [d1, d2] => { results := [.lit (.bool true)], args := [d1, d2] }
  | _ => none }
def codecBackRow : OpenClaim := { program := "ytfncldaodbfakaagreat", sum := "50a4a80137b005c77fbc94b7631fbd248e1020d6b9d34b65aed0939d4e4c2f8e", func := "gouache/gouachelaw12.CodecBack", spec := "codecBack", inPlace := ["internal/abi.NoEscape"], unfollowed := true, recurses := true, apart := false }
def CodecBackSaid : Prop := codecBackRow.holds Tryz.pinned (OpenSpec.ofChange codecBackSpec)

/-- ITS FALSE NEIGHBOUR: 'it returns false'. Refute it at one input. -/
def codecBackWrong : ChangeSpec := { name := "codecBack", fn := fun _ => fun
  | [d1, d2] => { results := [.lit (.bool false)], args := [d1, d2] }
  | _ => none }
def CodecBackWrongFalsely : Prop := codecBackRow.holds Tryz.pinned (OpenSpec.ofChange codecBackWrong)

/-- 'gouachelaw12.CodecReads': WHATEVER THE INPUT: true; the input reads as it did. -/
def codecReadsSpec : ChangeSpec := { name := "codecReads", fn := fun _ => fun
  | [d1, d2] => { results := [.lit (.bool true)], args := [d1, d2] }
  | _ => none }
def codecReadsRow : OpenClaim := { program := "ytfncldaodbfakaagreat", sum := "50a4a80137b005c77fbc94b7631fbd248e1020d6b9d34b65aed0939d4e4c2f8e", func := "gouache/gouachelaw12.CodecReads", spec := "codecReads", inPlace := ["internal/abi.NoEscape"], unfollowed := true, recurses := true, apart := false }
def CodecReadsSaid : Prop := codecReadsRow.holds Tryz.pinned (OpenSpec.ofChange codecReadsSpec)

/-- ITS FALSE NEIGHBOUR: 'it returns false'. Refute it at one input. -/
def codecReadsWrong : ChangeSpec := { name := "codecReads", fn := fun _ => fun
  | [d1, d2] => { results := [.lit (.bool false)], args := [d1, d2] }
  | _ => none }
def CodecReadsWrongFalsely : Prop := codecReadsRow.holds Tryz.pinned (OpenSpec.ofChange codecReadsWrong)

/-- 'gouachelaw12.CodecOpens': WHATEVER THE INPUT: true; the input reads as it did. -/
def codecOpensSpec : ChangeSpec := { name := "codecOpens", fn := fun _ => fun
  | [d1, d2, d3] => { results := [.lit (.bool true)], args := [d1, d2, d3] }
  | _ => none }
def codecOpensRow : OpenClaim := { program := "ytfncldaodbfakaagreat", sum := "50a4a80137b005c77fbc94b7631fbd248e1020d6b9d34b65aed0939d4e4c2f8e", func := "gouache/gouachelaw12.CodecOpens", spec := "codecOpens", inPlace := ["internal/abi.NoEscape"], unfollowed := true, recurses := true, apart := false }
def CodecOpensSaid : Prop := codecOpensRow.holds Tryz.pinned (OpenSpec.ofChange codecOpensSpec)

/-- ITS FALSE NEIGHBOUR: 'it returns false'. Refute it at one input. -/
def codecOpensWrong : ChangeSpec := { name := "codecOpens", fn := fun _ => fun
  | [d1, d2, d3] => { results := [.lit (.bool false)], args := [d1, d2, d3] }
  | _ => none }
def CodecOpensWrongFalsely : Prop := codecOpensRow.holds Tryz.pinned (OpenSpec.ofChange codecOpensWrong)

/-- 'gouachelaw12.CodecLocal': WHATEVER THE INPUT: true; the input reads as it did. -/
def codecLocalSpec : ChangeSpec := { name := "codecLocal", fn := fun _ => fun
  | [d1, d2] => { results := [.lit (.bool true)], args := [d1, d2] }
  | _ => none }
def codecLocalRow : OpenClaim := { program := "ytfncldaodbfakaagreat", sum := "50a4a80137b005c77fbc94b7631fbd248e1020d6b9d34b65aed0939d4e4c2f8e", func := "gouache/gouachelaw12.CodecLocal", spec := "codecLocal", inPlace := ["internal/abi.NoEscape"], unfollowed := true, recurses := true, apart := false }
def CodecLocalSaid : Prop := codecLocalRow.holds Tryz.pinned (OpenSpec.ofChange codecLocalSpec)

/-- ITS FALSE NEIGHBOUR: 'it returns false'. Refute it at one input. -/
def codecLocalWrong : ChangeSpec := { name := "codecLocal", fn := fun _ => fun
  | [d1, d2] => { results := [.lit (.bool false)], args := [d1, d2] }
  | _ => none }
def CodecLocalWrongFalsely : Prop := codecLocalRow.holds Tryz.pinned (OpenSpec.ofChange codecLocalWrong)

/-- 'gouachelaw12.CodecPreviews': WHATEVER THE INPUT: true; the input reads as it did. -/
def codecPreviewsSpec : ChangeSpec := { name := "codecPreviews", fn := fun _ => fun
  | [d1, d2] => { results := [.lit (.bool true)], args := [d1, d2] }
  | _ => none }
def codecPreviewsRow : OpenClaim := { program := "ytfncldaodbfakaagreat", sum := "50a4a80137b005c77fbc94b7631fbd248e1020d6b9d34b65aed0939d4e4c2f8e", func := "gouache/gouachelaw12.CodecPreviews", spec := "codecPreviews", inPlace := ["internal/abi.NoEscape"], unfollowed := true, recurses := true, apart := false }
def CodecPreviewsSaid : Prop := codecPreviewsRow.holds Tryz.pinned (OpenSpec.ofChange codecPreviewsSpec)

/-- ITS FALSE NEIGHBOUR: 'it returns false'. Refute it at one input. -/
def codecPreviewsWrong : ChangeSpec := { name := "codecPreviews", fn := fun _ => fun
  | [d1, d2] => { results := [.lit (.bool false)], args := [d1, d2] }
  | _ => none }
def CodecPreviewsWrongFalsely : Prop := codecPreviewsRow.holds Tryz.pinned (OpenSpec.ofChange codecPreviewsWrong)

/-- 'gouachelaw12.CodecSolid': WHATEVER THE INPUT: true; the input reads as it did. -/
def codecSolidSpec : ChangeSpec := { name := "codecSolid", fn := fun _ => fun
  | [d1, d2] => { results := [.lit (.bool true)], args := [d1, d2] }
  | _ => none }
def codecSolidRow : OpenClaim := { program := "ytfncldaodbfakaagreat", sum := "50a4a80137b005c77fbc94b7631fbd248e1020d6b9d34b65aed0939d4e4c2f8e", func := "gouache/gouachelaw12.CodecSolid", spec := "codecSolid", inPlace := ["internal/abi.NoEscape"], unfollowed := true, recurses := true, apart := false }
def CodecSolidSaid : Prop := codecSolidRow.holds Tryz.pinned (OpenSpec.ofChange codecSolidSpec)

/-- ITS FALSE NEIGHBOUR: 'it returns false'. Refute it at one input. -/
def codecSolidWrong : ChangeSpec := { name := "codecSolid", fn := fun _ => fun
  | [d1, d2] => { results := [.lit (.bool false)], args := [d1, d2] }
  | _ => none }
def CodecSolidWrongFalsely : Prop := codecSolidRow.holds Tryz.pinned (OpenSpec.ofChange codecSolidWrong)

/-- 'gouachelaw12.CodecEnds': WHATEVER THE INPUT: true; the input reads as it did. -/
def codecEndsSpec : ChangeSpec := { name := "codecEnds", fn := fun _ => fun
  | [d1, d2] => { results := [.lit (.bool true)], args := [d1, d2] }
  | _ => none }
def codecEndsRow : OpenClaim := { program := "ytfncldaodbfakaagreat", sum := "50a4a80137b005c77fbc94b7631fbd248e1020d6b9d34b65aed0939d4e4c2f8e", func := "gouache/gouachelaw12.CodecEnds", spec := "codecEnds", inPlace := ["internal/abi.NoEscape"], unfollowed := true, recurses := true, apart := false }
def CodecEndsSaid : Prop := codecEndsRow.holds Tryz.pinned (OpenSpec.ofChange codecEndsSpec)

/-- ITS FALSE NEIGHBOUR: 'it returns false'. Refute it at one input. -/
def codecEndsWrong : ChangeSpec := { name := "codecEnds", fn := fun _ => fun
  | [d1, d2] => { results := [.lit (.bool false)], args := [d1, d2] }
  | _ => none }
def CodecEndsWrongFalsely : Prop := codecEndsRow.holds Tryz.pinned (OpenSpec.ofChange codecEndsWrong)

/-- 'gouachelaw12.CodecNil': WHATEVER THE INPUT: true; the input reads as it did. -/
def codecNilSpec : ChangeSpec := { name := "codecNil", fn := fun _ => fun
  | [d] => { results := [.lit (.bool true)], args := [d] }
  | _ => none }
def codecNilRow : OpenClaim := { program := "ytfncldaodbfakaagreat", sum := "50a4a80137b005c77fbc94b7631fbd248e1020d6b9d34b65aed0939d4e4c2f8e", func := "gouache/gouachelaw12.CodecNil", spec := "codecNil", inPlace := ["internal/abi.NoEscape"], unfollowed := true, recurses := true, apart := false }
def CodecNilSaid : Prop := codecNilRow.holds Tryz.pinned (OpenSpec.ofChange codecNilSpec)

/-- ITS FALSE NEIGHBOUR: 'it returns false'. Refute it at one input. -/
def codecNilWrong : ChangeSpec := { name := "codecNil", fn := fun _ => fun
  | [d] => { results := [.lit (.bool false)], args := [d] }
  | _ => none }
def CodecNilWrongFalsely : Prop := codecNilRow.holds Tryz.pinned (OpenSpec.ofChange codecNilWrong)

/- THE SECOND FORM. 'bulk': how many values and letters a reading holds, each counted each time it is reached (what is shared counts as often as it is met; a slice's spare places count too). A statement '..UptoSaid' is the law's where the arguments, and the package variables that the reading takes, are together of bulk at most 1048576: NARROWER than '..Said'. Prove '..Said' where nothing that the law and all that it calls make is longer than what came in: it says more and counts as full. Else prove '..UptoSaid'. A law counts once. -/
mutual
def uptoBulk {H : Type} : DataW H → Nat
  | .lit (.string bytes) => bytes.length + 1
  | .lit _ => 1
  | .nil => 1
  | .ptr d => uptoBulk d + 1
  | .slice elems spare => uptoBulkAll elems + uptoBulkAll spare + 1
  | .agg parts => uptoBulkAll parts + 1
  | .iface _ d => uptoBulk d + 1
  | .map entries => uptoBulkEntries entries + 1
  | .held _ => 1
def uptoBulkAll {H : Type} : List (DataW H) → Nat
  | [] => 0
  | d :: r => uptoBulk d + uptoBulkAll r
def uptoBulkEntries {H : Type} : List (Lit × DataW H) → Nat
  | [] => 0
  | x :: r => uptoBulkEntry x + uptoBulkEntries r
def uptoBulkEntry {H : Type} : Lit × DataW H → Nat
  | (.string bytes, d) => bytes.length + uptoBulk d + 1
  | (_, d) => uptoBulk d + 1
 end
def uptoSmall : (H : Type) → List (DataW H) → Bool := fun _ ds => decide (uptoBulkAll ds ≤ 1048576)
def OpenSpec.upto (s : _root_.Go.ChangeSpec) : _root_.Go.OpenSpec := { _root_.Go.OpenSpec.ofChange s with cond := some uptoSmall }

/-- 'gouachelaw12.CodecPacks', WHERE WHAT IT READS IS OF BULK AT MOST 1048576: true; the input reads as it did. -/
def codecPacksUptoRow : OpenClaim := { program := "ytfncldaodbfakaagreat", sum := "50a4a80137b005c77fbc94b7631fbd248e1020d6b9d34b65aed0939d4e4c2f8e", func := "gouache/gouachelaw12.CodecPacks", spec := "codecPacks", inPlace := ["internal/abi.NoEscape"], unfollowed := true, recurses := true, apart := false, narrowed := true }
def CodecPacksUptoSaid : Prop := codecPacksUptoRow.holds Tryz.pinned (OpenSpec.upto codecPacksSpec)

/-- 'gouachelaw12.CodecBack', WHERE WHAT IT READS IS OF BULK AT MOST 1048576: true; the input reads as it did. -/
def codecBackUptoRow : OpenClaim := { program := "ytfncldaodbfakaagreat", sum := "50a4a80137b005c77fbc94b7631fbd248e1020d6b9d34b65aed0939d4e4c2f8e", func := "gouache/gouachelaw12.CodecBack", spec := "codecBack", inPlace := ["internal/abi.NoEscape"], unfollowed := true, recurses := true, apart := false, narrowed := true }
def CodecBackUptoSaid : Prop := codecBackUptoRow.holds Tryz.pinned (OpenSpec.upto codecBackSpec)

/-- 'gouachelaw12.CodecReads', WHERE WHAT IT READS IS OF BULK AT MOST 1048576: true; the input reads as it did. -/
def codecReadsUptoRow : OpenClaim := { program := "ytfncldaodbfakaagreat", sum := "50a4a80137b005c77fbc94b7631fbd248e1020d6b9d34b65aed0939d4e4c2f8e", func := "gouache/gouachelaw12.CodecReads", spec := "codecReads", inPlace := ["internal/abi.NoEscape"], unfollowed := true, recurses := true, apart := false, narrowed := true }
def CodecReadsUptoSaid : Prop := codecReadsUptoRow.holds Tryz.pinned (OpenSpec.upto codecReadsSpec)

/-- 'gouachelaw12.CodecOpens', WHERE WHAT IT READS IS OF BULK AT MOST 1048576: true; the input reads as it did. -/
def codecOpensUptoRow : OpenClaim := { program := "ytfncldaodbfakaagreat", sum := "50a4a80137b005c77fbc94b7631fbd248e1020d6b9d34b65aed0939d4e4c2f8e", func := "gouache/gouachelaw12.CodecOpens", spec := "codecOpens", inPlace := ["internal/abi.NoEscape"], unfollowed := true, recurses := true, apart := false, narrowed := true }
def CodecOpensUptoSaid : Prop := codecOpensUptoRow.holds Tryz.pinned (OpenSpec.upto codecOpensSpec)

/-- 'gouachelaw12.CodecLocal', WHERE WHAT IT READS IS OF BULK AT MOST 1048576: true; the input reads as it did. -/
def codecLocalUptoRow : OpenClaim := { program := "ytfncldaodbfakaagreat", sum := "50a4a80137b005c77fbc94b7631fbd248e1020d6b9d34b65aed0939d4e4c2f8e", func := "gouache/gouachelaw12.CodecLocal", spec := "codecLocal", inPlace := ["internal/abi.NoEscape"], unfollowed := true, recurses := true, apart := false, narrowed := true }
def CodecLocalUptoSaid : Prop := codecLocalUptoRow.holds Tryz.pinned (OpenSpec.upto codecLocalSpec)

/-- 'gouachelaw12.CodecPreviews', WHERE WHAT IT READS IS OF BULK AT MOST 1048576: true; the input reads as it did. -/
def codecPreviewsUptoRow : OpenClaim := { program := "ytfncldaodbfakaagreat", sum := "50a4a80137b005c77fbc94b7631fbd248e1020d6b9d34b65aed0939d4e4c2f8e", func := "gouache/gouachelaw12.CodecPreviews", spec := "codecPreviews", inPlace := ["internal/abi.NoEscape"], unfollowed := true, recurses := true, apart := false, narrowed := true }
def CodecPreviewsUptoSaid : Prop := codecPreviewsUptoRow.holds Tryz.pinned (OpenSpec.upto codecPreviewsSpec)

/-- 'gouachelaw12.CodecSolid', WHERE WHAT IT READS IS OF BULK AT MOST 1048576: true; the input reads as it did. -/
def codecSolidUptoRow : OpenClaim := { program := "ytfncldaodbfakaagreat", sum := "50a4a80137b005c77fbc94b7631fbd248e1020d6b9d34b65aed0939d4e4c2f8e", func := "gouache/gouachelaw12.CodecSolid", spec := "codecSolid", inPlace := ["internal/abi.NoEscape"], unfollowed := true, recurses := true, apart := false, narrowed := true }
def CodecSolidUptoSaid : Prop := codecSolidUptoRow.holds Tryz.pinned (OpenSpec.upto codecSolidSpec)

/-- 'gouachelaw12.CodecEnds', WHERE WHAT IT READS IS OF BULK AT MOST 1048576: true; the input reads as it did. -/
def codecEndsUptoRow : OpenClaim := { program := "ytfncldaodbfakaagreat", sum := "50a4a80137b005c77fbc94b7631fbd248e1020d6b9d34b65aed0939d4e4c2f8e", func := "gouache/gouachelaw12.CodecEnds", spec := "codecEnds", inPlace := ["internal/abi.NoEscape"], unfollowed := true, recurses := true, apart := false, narrowed := true }
def CodecEndsUptoSaid : Prop := codecEndsUptoRow.holds Tryz.pinned (OpenSpec.upto codecEndsSpec)

/-- 'gouachelaw12.CodecNil', WHERE WHAT IT READS IS OF BULK AT MOST 1048576: true; the input reads as it did. -/
def codecNilUptoRow : OpenClaim := { program := "ytfncldaodbfakaagreat", sum := "50a4a80137b005c77fbc94b7631fbd248e1020d6b9d34b65aed0939d4e4c2f8e", func := "gouache/gouachelaw12.CodecNil", spec := "codecNil", inPlace := ["internal/abi.NoEscape"], unfollowed := true, recurses := true, apart := false, narrowed := true }
def CodecNilUptoSaid : Prop := codecNilUptoRow.holds Tryz.pinned (OpenSpec.upto codecNilSpec)

end Rows
end Go.Proofs.YtfncldaodbfakaaGreat
