/-
  The statements' own 'sanity' returns true: the chapter's examples.
-/
import Derived.Test.YtjaipjgnchpjcaaOver
import Derived.Test.YtjaipjgnchpjcaaOver1
import Derived.Laws.EntriesVeiled
namespace Go.Proofs.Ytjaipjgnchpjcaa
open Go.RowKit

abbrev p8 (a b c d : Int) : Prop := Ch a ∧ Ch b ∧ Ch c ∧ Ch d
theorem over_ex : ovr ⟨0, 0, 255, 255⟩ ⟨255, 0, 0, 255⟩ 0 51 = ⟨51, 0, 204, 255⟩ := by kernel_rfl
theorem mix_ex : mxx ⟨255, 0, 0, 255⟩ ⟨0, 0, 0, 0⟩ 51 = ⟨255, 0, 0, 204⟩ := by kernel_rfl
end Go.Proofs.Ytjaipjgnchpjcaa
