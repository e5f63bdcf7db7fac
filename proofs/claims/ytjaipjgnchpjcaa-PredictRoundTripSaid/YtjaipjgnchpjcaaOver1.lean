/-
  The channel functions that Over and Mix hand to combine (contracts).
-/
import Derived.Test.YtjaipjgnchpjcaaMath
namespace Go.Proofs.Ytjaipjgnchpjcaa
open Go.RowKit

abbrev ptr (b : Nat) : Value := .pointer (some ⟨b, 0, none⟩)
end Go.Proofs.Ytjaipjgnchpjcaa
