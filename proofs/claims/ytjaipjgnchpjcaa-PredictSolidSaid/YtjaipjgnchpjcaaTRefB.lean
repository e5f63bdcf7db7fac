/-
  What the contracts of the reference share.
-/
import Derived.Test.YtjaipjgnchpjcaaTRef0
import Derived.Test.YtjaipjgnchpjcaaTMask
namespace Go.Proofs.Ytjaipjgnchpjcaa.T
open Go.RowKit Go.Shelf

theorem load_all {b : Nat} {f g : Nat → Px} {w : World} (h : w.heap[b]? = some (tob (pt f g 64))) : (Instr.loadAt 25 (.pointer (some ⟨b, 0, none⟩))).run Try.prog w = .ok (tv g) w := by
  have e : tob (pt f g 64) = tob g := congrArg (fun c => Obj.cells c 25) (pt_all f g)
  rw [e] at h
  exact load_tile b g w h
end Go.Proofs.Ytjaipjgnchpjcaa.T
