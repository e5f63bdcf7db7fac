/-
  The reference's Valid and At.
-/
import Derived.Test.YtcmplgiilcfncaaRefVal
namespace Go.Proofs.Ytcmplgiilcfncaa
open Go.RowKit
variable {w : World}

def OkTo (c : List Int) (k : Nat) : Prop := ∀ j, j < k → (0 ≤ cg c j ∧ cg c j ≤ 65535) ∧ (0 < j → cg c (j - 1) ≤ cg c j)
theorem OkTo.cv {c : List Int} (h : OkTo c c.length) (hl : vc c.length = true) : Cv c := by
  have := (vc_iff _).1 hl
  exact ⟨by omega, by omega, fun i hi => (h i hi).1, fun i hi => (h (i + 1) hi).2 (by omega)⟩
theorem Cv.ok {c : List Int} (h : Cv c) : OkTo c c.length := fun j hj => ⟨h.rng j hj, fun h0 => by
  have := h.up (j - 1) (by omega); rwa [show j - 1 + 1 = j by omega] at this⟩
end Go.Proofs.Ytcmplgiilcfncaa
