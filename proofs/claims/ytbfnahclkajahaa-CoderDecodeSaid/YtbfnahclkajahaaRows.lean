/-
  No cell of these rows narrows 'for every input' (looked for: loops, veiled, ifaces, maps, wideKeys, modest, calm, conditions, laid).
  DERIVED. THE GIVEN ROWS OF THIS SEAT. 10 by the template 'for every input the law returns true; each argument reads behind the call as it read before'; 0 by the template 'total and deterministic' (their statements: YtbfnahclkajahaaTotals.lean).
  GIVEN WITH THE SEED: the statements are not yours to turn. If you find one false, say at which input.
  Laid BY PROGRAM, IN A SANDBOX (cutbox-rows.mjs): the forced cells as the released guide's own fill.sh prints them over the translation fe6abf8b3c988732… (all of the seat's roots in one cut). By AI agents, Wed Nov 11 2026. No macro, syntax, notation, axiom, sorry.
-/
import Derived.Test.YtbfnahclkajahaaChecked
import GoSem.Claim
import GoSem.ClaimJoined
import GoSem.ClaimMapViews
import Derived.JoinedTies
import Derived.KernelRfl
namespace Go.Proofs.Ytbfnahclkajahaa
/- THE CELL 'sum', in the pinned program and in every row, IS THE sha256 OF THE DUMP (.gsa) THAT YtbfnahclkajahaaProg.lean LOADS. Nothing in Lean hashes anything: it is a label: what it is worth is what the hold of that sum in a sandbox is worth. -/
noncomputable def Try.pinned : Pinned := { name := "ytbfnahclkajahaa", sum := "fe6abf8b3c9887322d59fc4f6b3be8162024c52ae1384e321e15b27c7cfea1b0", checked := Try.checked }
namespace Rows
def none {H : Type} : Left H := { results := [], args := [] }

/-- 'gouachelaw11.CoderEncode': WHATEVER THE INPUT: true; the input reads as it did. -/
def coderEncodeSpec : ChangeSpec := { name := "coderEncode", fn := fun _ => fun
  | [d] => { results := [.lit (.bool true)], args := [d] }
  | _ => none }
def coderEncodeRow : OpenClaim := { program := "ytbfnahclkajahaa", sum := "fe6abf8b3c9887322d59fc4f6b3be8162024c52ae1384e321e15b27c7cfea1b0", func := "gouache/gouachelaw11.CoderEncode", spec := "coderEncode", unfollowed := true, recurses := true, apart := false }
def CoderEncodeSaid : Prop := coderEncodeRow.holds Try.pinned (OpenSpec.ofChange coderEncodeSpec)

/-- ITS FALSE NEIGHBOUR: 'it returns false'. Refute it at one input. -/
def coderEncodeWrong : ChangeSpec := { name := "coderEncode", fn := fun _ => fun
  | [d] => { results := [.lit (.bool false)], args := [d] }
  | _ => none }
def CoderEncodeWrongFalsely : Prop := coderEncodeRow.holds Try.pinned (OpenSpec.ofChange coderEncodeWrong)

/-- 'gouachelaw11.CoderDecode': WHATEVER THE INPUT: true; the input reads as it did. -/
def coderDecodeSpec : ChangeSpec := { name := "coderDecode", fn := fun _ => fun
  | [d1, d2, d3] => { results := [.lit (.bool true)], args := [d1, d2, d3] }
  | _ => none }
def coderDecodeRow : OpenClaim := { program := "ytbfnahclkajahaa", sum := "fe6abf8b3c9887322d59fc4f6b3be8162024c52ae1384e321e15b27c7cfea1b0", func := "gouache/gouachelaw11.CoderDecode", spec := "coderDecode", unfollowed := true, recurses := true, apart := false }
def CoderDecodeSaid : Prop := coderDecodeRow.holds Try.pinned (OpenSpec.ofChange coderDecodeSpec)

/-- ITS FALSE NEIGHBOUR: 'it returns false'. Refute it at one input. -/
def coderDecodeWrong : ChangeSpec := { name := "coderDecode", fn := fun _ => fun
  | [d1, d2, d3] => { results := [.lit (.bool false)], args := [d1, d2, d3] }
  | _ => none }
def CoderDecodeWrongFalsely : Prop := coderDecodeRow.holds Try.pinned (OpenSpec.ofChange coderDecodeWrong)

/-- 'gouachelaw11.CoderBack': WHATEVER THE INPUT: true; the input reads as it did. -/
def coderBackSpec : ChangeSpec := { name := "coderBack", fn := fun _ => fun
  | [d1, d2] => { results := [.lit (.bool true)], args := [d1, d2] }
  | _ => none }
def coderBackRow : OpenClaim := { program := "ytbfnahclkajahaa", sum := "fe6abf8b3c9887322d59fc4f6b3be8162024c52ae1384e321e15b27c7cfea1b0", func := "gouache/gouachelaw11.CoderBack", spec := "coderBack", unfollowed := true, recurses := true, apart := false }
def CoderBackSaid : Prop := coderBackRow.holds Try.pinned (OpenSpec.ofChange coderBackSpec)

/-- ITS FALSE NEIGHBOUR: 'it returns false'. Refute it at one input. -/
def coderBackWrong : ChangeSpec := { name := "coderBack", fn := fun _ => fun
  | [d1, d2] => { results := [.lit (.bool false)], args := [d1, d2] }
  | _ => none }
def CoderBackWrongFalsely : Prop := coderBackRow.holds Try.pinned (OpenSpec.ofChange coderBackWrong)

/-- 'gouachelaw11.CoderBits': WHATEVER THE INPUT: true; the input reads as it did. -/
def coderBitsSpec : ChangeSpec := { name := "coderBits", fn := fun _ => fun
  | [d] => { results := [.lit (.bool true)], args := [d] }
  | _ => none }
def coderBitsRow : OpenClaim := { program := "ytbfnahclkajahaa", sum := "fe6abf8b3c9887322d59fc4f6b3be8162024c52ae1384e321e15b27c7cfea1b0", func := "gouache/gouachelaw11.CoderBits", spec := "coderBits", unfollowed := true, recurses := true, apart := false }
def CoderBitsSaid : Prop := coderBitsRow.holds Try.pinned (OpenSpec.ofChange coderBitsSpec)

/-- ITS FALSE NEIGHBOUR: 'it returns false'. Refute it at one input. -/
def coderBitsWrong : ChangeSpec := { name := "coderBits", fn := fun _ => fun
  | [d] => { results := [.lit (.bool false)], args := [d] }
  | _ => none }
def CoderBitsWrongFalsely : Prop := coderBitsRow.holds Try.pinned (OpenSpec.ofChange coderBitsWrong)

/-- 'gouachelaw11.CoderReads': WHATEVER THE INPUT: true; the input reads as it did. -/
def coderReadsSpec : ChangeSpec := { name := "coderReads", fn := fun _ => fun
  | [d1, d2] => { results := [.lit (.bool true)], args := [d1, d2] }
  | _ => none }
def coderReadsRow : OpenClaim := { program := "ytbfnahclkajahaa", sum := "fe6abf8b3c9887322d59fc4f6b3be8162024c52ae1384e321e15b27c7cfea1b0", func := "gouache/gouachelaw11.CoderReads", spec := "coderReads", unfollowed := true, recurses := true, apart := false }
def CoderReadsSaid : Prop := coderReadsRow.holds Try.pinned (OpenSpec.ofChange coderReadsSpec)

/-- ITS FALSE NEIGHBOUR: 'it returns false'. Refute it at one input. -/
def coderReadsWrong : ChangeSpec := { name := "coderReads", fn := fun _ => fun
  | [d1, d2] => { results := [.lit (.bool false)], args := [d1, d2] }
  | _ => none }
def CoderReadsWrongFalsely : Prop := coderReadsRow.holds Try.pinned (OpenSpec.ofChange coderReadsWrong)

/-- 'gouachelaw11.CoderBitsBack': WHATEVER THE INPUT: true; the input reads as it did. -/
def coderBitsBackSpec : ChangeSpec := { name := "coderBitsBack", fn := fun _ => fun
  | [d1, d2] => { results := [.lit (.bool true)], args := [d1, d2] }
  | _ => none }
def coderBitsBackRow : OpenClaim := { program := "ytbfnahclkajahaa", sum := "fe6abf8b3c9887322d59fc4f6b3be8162024c52ae1384e321e15b27c7cfea1b0", func := "gouache/gouachelaw11.CoderBitsBack", spec := "coderBitsBack", unfollowed := true, recurses := true, apart := false }
def CoderBitsBackSaid : Prop := coderBitsBackRow.holds Try.pinned (OpenSpec.ofChange coderBitsBackSpec)

/-- ITS FALSE NEIGHBOUR: 'it returns false'. Refute it at one input. -/
def coderBitsBackWrong : ChangeSpec := { name := "coderBitsBack", fn := fun _ => fun
  | [d1, d2] => { results := [.lit (.bool false)], args := [d1, d2] }
  | _ => none }
def CoderBitsBackWrongFalsely : Prop := coderBitsBackRow.holds Try.pinned (OpenSpec.ofChange coderBitsBackWrong)

/-- 'gouachelaw11.CoderGrows': WHATEVER THE INPUT: true; the input reads as it did. -/
def coderGrowsSpec : ChangeSpec := { name := "coderGrows", fn := fun _ => fun
  | [d] => { results := [.lit (.bool true)], args := [d] }
  | _ => none }
def coderGrowsRow : OpenClaim := { program := "ytbfnahclkajahaa", sum := "fe6abf8b3c9887322d59fc4f6b3be8162024c52ae1384e321e15b27c7cfea1b0", func := "gouache/gouachelaw11.CoderGrows", spec := "coderGrows", unfollowed := true, recurses := true, apart := false }
def CoderGrowsSaid : Prop := coderGrowsRow.holds Try.pinned (OpenSpec.ofChange coderGrowsSpec)

/-- ITS FALSE NEIGHBOUR: 'it returns false'. Refute it at one input. -/
def coderGrowsWrong : ChangeSpec := { name := "coderGrows", fn := fun _ => fun
  | [d] => { results := [.lit (.bool false)], args := [d] }
  | _ => none }
def CoderGrowsWrongFalsely : Prop := coderGrowsRow.holds Try.pinned (OpenSpec.ofChange coderGrowsWrong)

/-- 'gouachelaw11.CoderContexts': WHATEVER THE INPUT: true; the input reads as it did. -/
def coderContextsSpec : ChangeSpec := { name := "coderContexts", fn := fun _ => fun
  | [d1, d2, d3] => { results := [.lit (.bool true)], args := [d1, d2, d3] }
  | _ => none }
def coderContextsRow : OpenClaim := { program := "ytbfnahclkajahaa", sum := "fe6abf8b3c9887322d59fc4f6b3be8162024c52ae1384e321e15b27c7cfea1b0", func := "gouache/gouachelaw11.CoderContexts", spec := "coderContexts", unfollowed := true, recurses := true, apart := false }
def CoderContextsSaid : Prop := coderContextsRow.holds Try.pinned (OpenSpec.ofChange coderContextsSpec)

/-- ITS FALSE NEIGHBOUR: 'it returns false'. Refute it at one input. -/
def coderContextsWrong : ChangeSpec := { name := "coderContexts", fn := fun _ => fun
  | [d1, d2, d3] => { results := [.lit (.bool false)], args := [d1, d2, d3] }
  | _ => none }
def CoderContextsWrongFalsely : Prop := coderContextsRow.holds Try.pinned (OpenSpec.ofChange coderContextsWrong)

/-- 'gouachelaw11.CoderPrefix': WHATEVER THE INPUT: true; the input reads as it did. -/
def coderPrefixSpec : ChangeSpec := { name := "coderPrefix", fn := fun _ => fun
  | [d1, d2] => { results := [.lit (.bool true)], args := [d1, d2] }
  | _ => none }
def coderPrefixRow : OpenClaim := { program := "ytbfnahclkajahaa", sum := "fe6abf8b3c9887322d59fc4f6b3be8162024c52ae1384e321e15b27c7cfea1b0", func := "gouache/gouachelaw11.CoderPrefix", spec := "coderPrefix", unfollowed := true, recurses := true, apart := false }
def CoderPrefixSaid : Prop := coderPrefixRow.holds Try.pinned (OpenSpec.ofChange coderPrefixSpec)

/-- ITS FALSE NEIGHBOUR: 'it returns false'. Refute it at one input. -/
def coderPrefixWrong : ChangeSpec := { name := "coderPrefix", fn := fun _ => fun
  | [d1, d2] => { results := [.lit (.bool false)], args := [d1, d2] }
  | _ => none }
def CoderPrefixWrongFalsely : Prop := coderPrefixRow.holds Try.pinned (OpenSpec.ofChange coderPrefixWrong)

/-- 'gouachelaw11.CoderNil': WHATEVER THE INPUT: true; the input reads as it did. -/
def coderNilSpec : ChangeSpec := { name := "coderNil", fn := fun _ => fun
  | [d] => { results := [.lit (.bool true)], args := [d] }
  | _ => none }
def coderNilRow : OpenClaim := { program := "ytbfnahclkajahaa", sum := "fe6abf8b3c9887322d59fc4f6b3be8162024c52ae1384e321e15b27c7cfea1b0", func := "gouache/gouachelaw11.CoderNil", spec := "coderNil", unfollowed := true, recurses := true, apart := false }
def CoderNilSaid : Prop := coderNilRow.holds Try.pinned (OpenSpec.ofChange coderNilSpec)

/-- ITS FALSE NEIGHBOUR: 'it returns false'. Refute it at one input. -/
def coderNilWrong : ChangeSpec := { name := "coderNil", fn := fun _ => fun
  | [d] => { results := [.lit (.bool false)], args := [d] }
  | _ => none }
def CoderNilWrongFalsely : Prop := coderNilRow.holds Try.pinned (OpenSpec.ofChange coderNilWrong)

/- THE SECOND FORM. 'bulk': how many values and letters a reading holds, each counted each time it is reached (what is shared counts as often as it is met; a slice's spare places count too). A statement '..UptoSaid' is the law's where the arguments, and the package variables that the reading takes, are together of bulk at most 1048576: NARROWER than '..Said'. Prove '..Said' where nothing that the law and all that it calls make is longer than what came in: it says more and counts as full. Else prove '..UptoSaid'. A law counts once. -/
mutual
def uptoBulk {H : Type} : DataW H → Nat
  | .lit (.string bytes) => bytes.length + 1
  | .lit _ => 1
  | .nil => 1
  | .ptr d => uptoBulk d + 1
  | .slice elems spare => uptoBulkAll elems + uptoBulkAll spare + 1
  | .agg parts => uptoBulkAll parts + 1
  | .iface _ d => uptoBulk d + 1
  | .map entries => uptoBulkEntries entries + 1
  | .held _ => 1
def uptoBulkAll {H : Type} : List (DataW H) → Nat
  | [] => 0
  | d :: r => uptoBulk d + uptoBulkAll r
def uptoBulkEntries {H : Type} : List (Lit × DataW H) → Nat
  | [] => 0
  | x :: r => uptoBulkEntry x + uptoBulkEntries r
def uptoBulkEntry {H : Type} : Lit × DataW H → Nat
  | (.string bytes, d) => bytes.length + uptoBulk d + 1
  | (_, d) => uptoBulk d + 1
 end
def uptoSmall : (H : Type) → List (DataW H) → Bool := fun _ ds => decide (uptoBulkAll ds ≤ 1048576)
def OpenSpec.upto (s : _root_.Go.ChangeSpec) : _root_.Go.OpenSpec := { _root_.Go.OpenSpec.ofChange s with cond := some uptoSmall }

/-- 'gouachelaw11.CoderEncode', WHERE WHAT IT READS IS OF BULK AT MOST 1048576: true; the input reads as it did. -/
def coderEncodeUptoRow : OpenClaim := { program := "ytbfnahclkajahaa", sum := "fe6abf8b3c9887322d59fc4f6b3be8162024c52ae1384e321e15b27c7cfea1b0", func := "gouache/gouachelaw11.CoderEncode", spec := "coderEncode", unfollowed := true, recurses := true, apart := false, narrowed := true }
def CoderEncodeUptoSaid : Prop := coderEncodeUptoRow.holds Try.pinned (OpenSpec.upto coderEncodeSpec)

/-- 'gouachelaw11.CoderDecode', WHERE WHAT IT READS IS OF BULK AT MOST 1048576: true; the input reads as it did. -/
def coderDecodeUptoRow : OpenClaim := { program := "ytbfnahclkajahaa", sum := "fe6abf8b3c9887322d59fc4f6b3be8162024c52ae1384e321e15b27c7cfea1b0", func := "gouache/gouachelaw11.CoderDecode", spec := "coderDecode", unfollowed := true, recurses := true, apart := false, narrowed := true }
def CoderDecodeUptoSaid : Prop := coderDecodeUptoRow.holds Try.pinned (OpenSpec.upto coderDecodeSpec)

/-- 'gouachelaw11.CoderBack', WHERE WHAT IT READS IS OF BULK AT MOST 1048576: true; the input reads as it did. -/
def coderBackUptoRow : OpenClaim := { program := "ytbfnahclkajahaa", sum := "fe6abf8b3c9887322d59fc4f6b3be8162024c52ae1384e321e15b27c7cfea1b0", func := "gouache/gouachelaw11.CoderBack", spec := "coderBack", unfollowed := true, recurses := true, apart := false, narrowed := true }
def CoderBackUptoSaid : Prop := coderBackUptoRow.holds Try.pinned (OpenSpec.upto coderBackSpec)

/-- 'gouachelaw11.CoderBits', WHERE WHAT IT READS IS OF BULK AT MOST 1048576: true; the input reads as it did. -/
def coderBitsUptoRow : OpenClaim := { program := "ytbfnahclkajahaa", sum := "fe6abf8b3c9887322d59fc4f6b3be8162024c52ae1384e321e15b27c7cfea1b0", func := "gouache/gouachelaw11.CoderBits", spec := "coderBits", unfollowed := true, recurses := true, apart := false, narrowed := true }
def CoderBitsUptoSaid : Prop := coderBitsUptoRow.holds Try.pinned (OpenSpec.upto coderBitsSpec)

/-- 'gouachelaw11.CoderReads', WHERE WHAT IT READS IS OF BULK AT MOST 1048576: true; the input reads as it did. -/
def coderReadsUptoRow : OpenClaim := { program := "ytbfnahclkajahaa", sum := "fe6abf8b3c9887322d59fc4f6b3be8162024c52ae1384e321e15b27c7cfea1b0", func := "gouache/gouachelaw11.CoderReads", spec := "coderReads", unfollowed := true, recurses := true, apart := false, narrowed := true }
def CoderReadsUptoSaid : Prop := coderReadsUptoRow.holds Try.pinned (OpenSpec.upto coderReadsSpec)

/-- 'gouachelaw11.CoderBitsBack', WHERE WHAT IT READS IS OF BULK AT MOST 1048576: true; the input reads as it did. -/
def coderBitsBackUptoRow : OpenClaim := { program := "ytbfnahclkajahaa", sum := "fe6abf8b3c9887322d59fc4f6b3be8162024c52ae1384e321e15b27c7cfea1b0", func := "gouache/gouachelaw11.CoderBitsBack", spec := "coderBitsBack", unfollowed := true, recurses := true, apart := false, narrowed := true }
def CoderBitsBackUptoSaid : Prop := coderBitsBackUptoRow.holds Try.pinned (OpenSpec.upto coderBitsBackSpec)

/-- 'gouachelaw11.CoderGrows', WHERE WHAT IT READS IS OF BULK AT MOST 1048576: true; the input reads as it did. -/
def coderGrowsUptoRow : OpenClaim := { program := "ytbfnahclkajahaa", sum := "fe6abf8b3c9887322d59fc4f6b3be8162024c52ae1384e321e15b27c7cfea1b0", func := "gouache/gouachelaw11.CoderGrows", spec := "coderGrows", unfollowed := true, recurses := true, apart := false, narrowed := true }
def CoderGrowsUptoSaid : Prop := coderGrowsUptoRow.holds Try.pinned (OpenSpec.upto coderGrowsSpec)

/-- 'gouachelaw11.CoderContexts', WHERE WHAT IT READS IS OF BULK AT MOST 1048576: true; the input reads as it did. -/
def coderContextsUptoRow : OpenClaim := { program := "ytbfnahclkajahaa", sum := "fe6abf8b3c9887322d59fc4f6b3be8162024c52ae1384e321e15b27c7cfea1b0", func := "gouache/gouachelaw11.CoderContexts", spec := "coderContexts", unfollowed := true, recurses := true, apart := false, narrowed := true }
def CoderContextsUptoSaid : Prop := coderContextsUptoRow.holds Try.pinned (OpenSpec.upto coderContextsSpec)

/-- 'gouachelaw11.CoderPrefix', WHERE WHAT IT READS IS OF BULK AT MOST 1048576: true; the input reads as it did. -/
def coderPrefixUptoRow : OpenClaim := { program := "ytbfnahclkajahaa", sum := "fe6abf8b3c9887322d59fc4f6b3be8162024c52ae1384e321e15b27c7cfea1b0", func := "gouache/gouachelaw11.CoderPrefix", spec := "coderPrefix", unfollowed := true, recurses := true, apart := false, narrowed := true }
def CoderPrefixUptoSaid : Prop := coderPrefixUptoRow.holds Try.pinned (OpenSpec.upto coderPrefixSpec)

/-- 'gouachelaw11.CoderNil', WHERE WHAT IT READS IS OF BULK AT MOST 1048576: true; the input reads as it did. -/
def coderNilUptoRow : OpenClaim := { program := "ytbfnahclkajahaa", sum := "fe6abf8b3c9887322d59fc4f6b3be8162024c52ae1384e321e15b27c7cfea1b0", func := "gouache/gouachelaw11.CoderNil", spec := "coderNil", unfollowed := true, recurses := true, apart := false, narrowed := true }
def CoderNilUptoSaid : Prop := coderNilUptoRow.holds Try.pinned (OpenSpec.upto coderNilSpec)

end Rows
end Go.Proofs.Ytbfnahclkajahaa
