/-
  No cell of these rows narrows 'for every input' (looked for: loops, veiled, ifaces, maps, wideKeys, modest, calm, conditions, laid).
  DERIVED. THE GIVEN ROWS OF THIS SEAT. 8 by the template 'for every input the law returns true; each argument reads behind the call as it read before'; 0 by the template 'total and deterministic' (their statements: YtkomknhloimhcaaTotals.lean).
  GIVEN WITH THE SEED: the statements are not yours to turn. If you find one false, say at which input.
  Laid BY PROGRAM, IN A SANDBOX (cutbox-rows.mjs): the forced cells as the released guide's own fill.sh prints them over the translation 312a099aa7689db3… (all of the seat's roots in one cut). By AI agents, Wed Nov 11 2026. No macro, syntax, notation, axiom, sorry.
-/
import Derived.Test.YtkomknhloimhcaaChecked
import GoSem.Claim
import GoSem.ClaimJoined
import GoSem.ClaimMapViews
import Derived.JoinedTies
import Derived.KernelRfl
namespace Go.Proofs.Ytkomknhloimhcaa
/- THE CELL 'sum', in the pinned program and in every row, IS THE sha256 OF THE DUMP (.gsa) THAT YtkomknhloimhcaaProg.lean LOADS. Nothing in Lean hashes anything: it is a label: what it is worth is what the hold of that sum in a sandbox is worth. -/
noncomputable def Try.pinned : Pinned := { name := "ytkomknhloimhcaa", sum := "312a099aa7689db3ccd50b09c148fc888b5d4c19832b3f7b90aa2580893f61c9", checked := Try.checked }
namespace Rows
def none {H : Type} : Left H := { results := [], args := [] }

/-- 'gouachelaw07.TileAccess': WHATEVER THE INPUT: true; the input reads as it did. -/
def tileAccessSpec : ChangeSpec := { name := "tileAccess", fn := fun _ => fun
  | [d1, d2, d3] => { results := [.lit (.bool true)], args := [d1, d2, d3] }
  | _ => none }
def tileAccessRow : OpenClaim := { program := "ytkomknhloimhcaa", sum := "312a099aa7689db3ccd50b09c148fc888b5d4c19832b3f7b90aa2580893f61c9", func := "gouache/gouachelaw07.TileAccess", spec := "tileAccess", unfollowed := true, recurses := true, apart := false }
def TileAccessSaid : Prop := tileAccessRow.holds Try.pinned (OpenSpec.ofChange tileAccessSpec)

/-- ITS FALSE NEIGHBOUR: 'it returns false'. Refute it at one input. -/
def tileAccessWrong : ChangeSpec := { name := "tileAccess", fn := fun _ => fun
  | [d1, d2, d3] => { results := [.lit (.bool false)], args := [d1, d2, d3] }
  | _ => none }
def TileAccessWrongFalsely : Prop := tileAccessRow.holds Try.pinned (OpenSpec.ofChange tileAccessWrong)

/-- 'gouachelaw07.TileOver': WHATEVER THE INPUT: true; the input reads as it did. -/
def tileOverSpec : ChangeSpec := { name := "tileOver", fn := fun _ => fun
  | [d] => { results := [.lit (.bool true)], args := [d] }
  | _ => none }
def tileOverRow : OpenClaim := { program := "ytkomknhloimhcaa", sum := "312a099aa7689db3ccd50b09c148fc888b5d4c19832b3f7b90aa2580893f61c9", func := "gouache/gouachelaw07.TileOver", spec := "tileOver", unfollowed := true, recurses := true, apart := false }
def TileOverSaid : Prop := tileOverRow.holds Try.pinned (OpenSpec.ofChange tileOverSpec)

/-- ITS FALSE NEIGHBOUR: 'it returns false'. Refute it at one input. -/
def tileOverWrong : ChangeSpec := { name := "tileOver", fn := fun _ => fun
  | [d] => { results := [.lit (.bool false)], args := [d] }
  | _ => none }
def TileOverWrongFalsely : Prop := tileOverRow.holds Try.pinned (OpenSpec.ofChange tileOverWrong)

/-- 'gouachelaw07.TileSymmetries': WHATEVER THE INPUT: true; the input reads as it did. -/
def tileSymmetriesSpec : ChangeSpec := { name := "tileSymmetries", fn := fun _ => fun
  | [d] => { results := [.lit (.bool true)], args := [d] }
  | _ => none }
def tileSymmetriesRow : OpenClaim := { program := "ytkomknhloimhcaa", sum := "312a099aa7689db3ccd50b09c148fc888b5d4c19832b3f7b90aa2580893f61c9", func := "gouache/gouachelaw07.TileSymmetries", spec := "tileSymmetries", unfollowed := true, recurses := true, apart := false }
def TileSymmetriesSaid : Prop := tileSymmetriesRow.holds Try.pinned (OpenSpec.ofChange tileSymmetriesSpec)

/-- ITS FALSE NEIGHBOUR: 'it returns false'. Refute it at one input. -/
def tileSymmetriesWrong : ChangeSpec := { name := "tileSymmetries", fn := fun _ => fun
  | [d] => { results := [.lit (.bool false)], args := [d] }
  | _ => none }
def TileSymmetriesWrongFalsely : Prop := tileSymmetriesRow.holds Try.pinned (OpenSpec.ofChange tileSymmetriesWrong)

/-- 'gouachelaw07.TileHalve': WHATEVER THE INPUT: true; the input reads as it did. -/
def tileHalveSpec : ChangeSpec := { name := "tileHalve", fn := fun _ => fun
  | [d] => { results := [.lit (.bool true)], args := [d] }
  | _ => none }
def tileHalveRow : OpenClaim := { program := "ytkomknhloimhcaa", sum := "312a099aa7689db3ccd50b09c148fc888b5d4c19832b3f7b90aa2580893f61c9", func := "gouache/gouachelaw07.TileHalve", spec := "tileHalve", unfollowed := true, recurses := true, apart := false }
def TileHalveSaid : Prop := tileHalveRow.holds Try.pinned (OpenSpec.ofChange tileHalveSpec)

/-- ITS FALSE NEIGHBOUR: 'it returns false'. Refute it at one input. -/
def tileHalveWrong : ChangeSpec := { name := "tileHalve", fn := fun _ => fun
  | [d] => { results := [.lit (.bool false)], args := [d] }
  | _ => none }
def TileHalveWrongFalsely : Prop := tileHalveRow.holds Try.pinned (OpenSpec.ofChange tileHalveWrong)

/-- 'gouachelaw07.TileGroup': WHATEVER THE INPUT: true; the input reads as it did. -/
def tileGroupSpec : ChangeSpec := { name := "tileGroup", fn := fun _ => fun
  | [d1, d2] => { results := [.lit (.bool true)], args := [d1, d2] }
  | _ => none }
def tileGroupRow : OpenClaim := { program := "ytkomknhloimhcaa", sum := "312a099aa7689db3ccd50b09c148fc888b5d4c19832b3f7b90aa2580893f61c9", func := "gouache/gouachelaw07.TileGroup", spec := "tileGroup", unfollowed := true, recurses := true, apart := false }
def TileGroupSaid : Prop := tileGroupRow.holds Try.pinned (OpenSpec.ofChange tileGroupSpec)

/-- ITS FALSE NEIGHBOUR: 'it returns false'. Refute it at one input. -/
def tileGroupWrong : ChangeSpec := { name := "tileGroup", fn := fun _ => fun
  | [d1, d2] => { results := [.lit (.bool false)], args := [d1, d2] }
  | _ => none }
def TileGroupWrongFalsely : Prop := tileGroupRow.holds Try.pinned (OpenSpec.ofChange tileGroupWrong)

/-- 'gouachelaw07.TilePointwise': WHATEVER THE INPUT: true; the input reads as it did. -/
def tilePointwiseSpec : ChangeSpec := { name := "tilePointwise", fn := fun _ => fun
  | [d] => { results := [.lit (.bool true)], args := [d] }
  | _ => none }
def tilePointwiseRow : OpenClaim := { program := "ytkomknhloimhcaa", sum := "312a099aa7689db3ccd50b09c148fc888b5d4c19832b3f7b90aa2580893f61c9", func := "gouache/gouachelaw07.TilePointwise", spec := "tilePointwise", unfollowed := true, recurses := true, apart := false }
def TilePointwiseSaid : Prop := tilePointwiseRow.holds Try.pinned (OpenSpec.ofChange tilePointwiseSpec)

/-- ITS FALSE NEIGHBOUR: 'it returns false'. Refute it at one input. -/
def tilePointwiseWrong : ChangeSpec := { name := "tilePointwise", fn := fun _ => fun
  | [d] => { results := [.lit (.bool false)], args := [d] }
  | _ => none }
def TilePointwiseWrongFalsely : Prop := tilePointwiseRow.holds Try.pinned (OpenSpec.ofChange tilePointwiseWrong)

/-- 'gouachelaw07.TileHalveSymmetry': WHATEVER THE INPUT: true; the input reads as it did. -/
def tileHalveSymmetrySpec : ChangeSpec := { name := "tileHalveSymmetry", fn := fun _ => fun
  | [d1, d2] => { results := [.lit (.bool true)], args := [d1, d2] }
  | _ => none }
def tileHalveSymmetryRow : OpenClaim := { program := "ytkomknhloimhcaa", sum := "312a099aa7689db3ccd50b09c148fc888b5d4c19832b3f7b90aa2580893f61c9", func := "gouache/gouachelaw07.TileHalveSymmetry", spec := "tileHalveSymmetry", unfollowed := true, recurses := true, apart := false }
def TileHalveSymmetrySaid : Prop := tileHalveSymmetryRow.holds Try.pinned (OpenSpec.ofChange tileHalveSymmetrySpec)

/-- ITS FALSE NEIGHBOUR: 'it returns false'. Refute it at one input. -/
def tileHalveSymmetryWrong : ChangeSpec := { name := "tileHalveSymmetry", fn := fun _ => fun
  | [d1, d2] => { results := [.lit (.bool false)], args := [d1, d2] }
  | _ => none }
def TileHalveSymmetryWrongFalsely : Prop := tileHalveSymmetryRow.holds Try.pinned (OpenSpec.ofChange tileHalveSymmetryWrong)

/-- 'gouachelaw07.TileSetGet': WHATEVER THE INPUT: true; the input reads as it did. -/
def tileSetGetSpec : ChangeSpec := { name := "tileSetGet", fn := fun _ => fun
  | [d1, d2, d3] => { results := [.lit (.bool true)], args := [d1, d2, d3] }
  | _ => none }
def tileSetGetRow : OpenClaim := { program := "ytkomknhloimhcaa", sum := "312a099aa7689db3ccd50b09c148fc888b5d4c19832b3f7b90aa2580893f61c9", func := "gouache/gouachelaw07.TileSetGet", spec := "tileSetGet", unfollowed := true, recurses := true, apart := false }
def TileSetGetSaid : Prop := tileSetGetRow.holds Try.pinned (OpenSpec.ofChange tileSetGetSpec)

/-- ITS FALSE NEIGHBOUR: 'it returns false'. Refute it at one input. -/
def tileSetGetWrong : ChangeSpec := { name := "tileSetGet", fn := fun _ => fun
  | [d1, d2, d3] => { results := [.lit (.bool false)], args := [d1, d2, d3] }
  | _ => none }
def TileSetGetWrongFalsely : Prop := tileSetGetRow.holds Try.pinned (OpenSpec.ofChange tileSetGetWrong)

/- THE SECOND FORM. 'bulk': how many values and letters a reading holds, each counted each time it is reached (what is shared counts as often as it is met; a slice's spare places count too). A statement '..UptoSaid' is the law's where the arguments, and the package variables that the reading takes, are together of bulk at most 1048576: NARROWER than '..Said'. Prove '..Said' where nothing that the law and all that it calls make is longer than what came in: it says more and counts as full. Else prove '..UptoSaid'. A law counts once. -/
mutual
def uptoBulk {H : Type} : DataW H → Nat
  | .lit (.string bytes) => bytes.length + 1
  | .lit _ => 1
  | .nil => 1
  | .ptr d => uptoBulk d + 1
  | .slice elems spare => uptoBulkAll elems + uptoBulkAll spare + 1
  | .agg parts => uptoBulkAll parts + 1
  | .iface _ d => uptoBulk d + 1
  | .map entries => uptoBulkEntries entries + 1
  | .held _ => 1
def uptoBulkAll {H : Type} : List (DataW H) → Nat
  | [] => 0
  | d :: r => uptoBulk d + uptoBulkAll r
def uptoBulkEntries {H : Type} : List (Lit × DataW H) → Nat
  | [] => 0
  | x :: r => uptoBulkEntry x + uptoBulkEntries r
def uptoBulkEntry {H : Type} : Lit × DataW H → Nat
  | (.string bytes, d) => bytes.length + uptoBulk d + 1
  | (_, d) => uptoBulk d + 1
 end
def uptoSmall : (H : Type) → List (DataW H) → Bool := fun _ ds => decide (uptoBulkAll ds ≤ 1048576)
def OpenSpec.upto (s : _root_.Go.ChangeSpec) : _root_.Go.OpenSpec := { _root_.Go.OpenSpec.ofChange s with cond := some uptoSmall }

/-- 'gouachelaw07.TileAccess', WHERE WHAT IT READS IS OF BULK AT MOST 1048576: true; the input reads as it did. -/
def tileAccessUptoRow : OpenClaim := { program := "ytkomknhloimhcaa", sum := "312a099aa7689db3ccd50b09c148fc888b5d4c19832b3f7b90aa2580893f61c9", func := "gouache/gouachelaw07.TileAccess", spec := "tileAccess", unfollowed := true, recurses := true, apart := false, narrowed := true }
def TileAccessUptoSaid : Prop := tileAccessUptoRow.holds Try.pinned (OpenSpec.upto tileAccessSpec)

/-- 'gouachelaw07.TileOver', WHERE WHAT IT READS IS OF BULK AT MOST 1048576: true; the input reads as it did. -/
def tileOverUptoRow : OpenClaim := { program := "ytkomknhloimhcaa", sum := "312a099aa7689db3ccd50b09c148fc888b5d4c19832b3f7b90aa2580893f61c9", func := "gouache/gouachelaw07.TileOver", spec := "tileOver", unfollowed := true, recurses := true, apart := false, narrowed := true }
def TileOverUptoSaid : Prop := tileOverUptoRow.holds Try.pinned (OpenSpec.upto tileOverSpec)

/-- 'gouachelaw07.TileSymmetries', WHERE WHAT IT READS IS OF BULK AT MOST 1048576: true; the input reads as it did. -/
def tileSymmetriesUptoRow : OpenClaim := { program := "ytkomknhloimhcaa", sum := "312a099aa7689db3ccd50b09c148fc888b5d4c19832b3f7b90aa2580893f61c9", func := "gouache/gouachelaw07.TileSymmetries", spec := "tileSymmetries", unfollowed := true, recurses := true, apart := false, narrowed := true }
def TileSymmetriesUptoSaid : Prop := tileSymmetriesUptoRow.holds Try.pinned (OpenSpec.upto tileSymmetriesSpec)

/-- 'gouachelaw07.TileHalve', WHERE WHAT IT READS IS OF BULK AT MOST 1048576: true; the input reads as it did. -/
def tileHalveUptoRow : OpenClaim := { program := "ytkomknhloimhcaa", sum := "312a099aa7689db3ccd50b09c148fc888b5d4c19832b3f7b90aa2580893f61c9", func := "gouache/gouachelaw07.TileHalve", spec := "tileHalve", unfollowed := true, recurses := true, apart := false, narrowed := true }
def TileHalveUptoSaid : Prop := tileHalveUptoRow.holds Try.pinned (OpenSpec.upto tileHalveSpec)

/-- 'gouachelaw07.TileGroup', WHERE WHAT IT READS IS OF BULK AT MOST 1048576: true; the input reads as it did. -/
def tileGroupUptoRow : OpenClaim := { program := "ytkomknhloimhcaa", sum := "312a099aa7689db3ccd50b09c148fc888b5d4c19832b3f7b90aa2580893f61c9", func := "gouache/gouachelaw07.TileGroup", spec := "tileGroup", unfollowed := true, recurses := true, apart := false, narrowed := true }
def TileGroupUptoSaid : Prop := tileGroupUptoRow.holds Try.pinned (OpenSpec.upto tileGroupSpec)

/-- 'gouachelaw07.TilePointwise', WHERE WHAT IT READS IS OF BULK AT MOST 1048576: true; the input reads as it did. -/
def tilePointwiseUptoRow : OpenClaim := { program := "ytkomknhloimhcaa", sum := "312a099aa7689db3ccd50b09c148fc888b5d4c19832b3f7b90aa2580893f61c9", func := "gouache/gouachelaw07.TilePointwise", spec := "tilePointwise", unfollowed := true, recurses := true, apart := false, narrowed := true }
def TilePointwiseUptoSaid : Prop := tilePointwiseUptoRow.holds Try.pinned (OpenSpec.upto tilePointwiseSpec)

/-- 'gouachelaw07.TileHalveSymmetry', WHERE WHAT IT READS IS OF BULK AT MOST 1048576: true; the input reads as it did. -/
def tileHalveSymmetryUptoRow : OpenClaim := { program := "ytkomknhloimhcaa", sum := "312a099aa7689db3ccd50b09c148fc888b5d4c19832b3f7b90aa2580893f61c9", func := "gouache/gouachelaw07.TileHalveSymmetry", spec := "tileHalveSymmetry", unfollowed := true, recurses := true, apart := false, narrowed := true }
def TileHalveSymmetryUptoSaid : Prop := tileHalveSymmetryUptoRow.holds Try.pinned (OpenSpec.upto tileHalveSymmetrySpec)

/-- 'gouachelaw07.TileSetGet', WHERE WHAT IT READS IS OF BULK AT MOST 1048576: true; the input reads as it did. -/
def tileSetGetUptoRow : OpenClaim := { program := "ytkomknhloimhcaa", sum := "312a099aa7689db3ccd50b09c148fc888b5d4c19832b3f7b90aa2580893f61c9", func := "gouache/gouachelaw07.TileSetGet", spec := "tileSetGet", unfollowed := true, recurses := true, apart := false, narrowed := true }
def TileSetGetUptoSaid : Prop := tileSetGetUptoRow.holds Try.pinned (OpenSpec.upto tileSetGetSpec)

end Rows
end Go.Proofs.Ytkomknhloimhcaa
