/-
  Solid of tile and of the reference (contracts).
-/
import Derived.Test.YtjaipjgnchpjcaaTZero
namespace Go.Proofs.Ytjaipjgnchpjcaa.T
open Go.RowKit Go.Shelf

/-- are all pixels equal to the first? -/
def sb (f : Nat → Px) : Bool := teq f (fun _ => f 0)
def sp (f : Nat → Px) : Px := if sb f then f 0 else zp
theorem peq_comm (p q : Px) : peq p q = peq q p := by rw [peq_eq, peq_eq]; by_cases h : p = q <;> simp [h, eq_comm]
theorem teq_comm (f g : Nat → Px) : teq f g = teq g f := by unfold teq; congr 1; funext i; exact peq_comm _ _
theorem sp_true {f : Nat → Px} (h : sb f = true) : sp f = f 0 := if_pos h
theorem sp_false {f : Nat → Px} (h : sb f = false) : sp f = zp := by unfold sp; rw [h]; rfl
end Go.Proofs.Ytjaipjgnchpjcaa.T
