/-
  Get and Set of tile and of the reference (contracts).
-/
import Derived.Test.YtjaipjgnchpjcaaTSym
namespace Go.Proofs.Ytjaipjgnchpjcaa.T
open Go.RowKit Go.Shelf
variable {W w w' : World} {L : List (Nat × Obj)}

/-- does a tile have a pixel at column x and row y? -/
def ins (x y : Int) : Bool := decide (0 ≤ x ∧ x < 8 ∧ 0 ≤ y ∧ y < 8)
theorem ins_iff (x y : Int) : ins x y = true ↔ (0 ≤ x ∧ x < 8 ∧ 0 ≤ y ∧ y < 8) := by simp [ins]
/-- what Get and Set give -/
def gt (f : Nat → Px) (x y : Int) : Px := if ins x y then f (8 * y + x).toNat else zp
def st (f : Nat → Px) (x y : Int) (p : Px) : Nat → Px := if ins x y then upd f (8 * y + x).toNat p else f
theorem ins_nat {x y : Int} (h : ins x y = true) : (8 * y + x).toNat < 64 ∧ 8 * y + x = ((8 * y + x).toNat : Int) ∧ 0 ≤ x ∧ x < 8 ∧ 0 ≤ y ∧ y < 8 := by
  obtain ⟨h1, h2, h3, h4⟩ := (ins_iff x y).1 h
  omega
theorem drew_eqw (w : World) : ({ heap := w.heap, tape := w.tape, drawn := w.drawn + 1, os := w.os, output := w.output } : World) = w.drew := rfl
theorem quiet_sym {P : Program} {f : FuncId} {args : Array Value} {v : Value} {w : World} (h : Calls P f args w fun e w' => e = .returned v ∧ w = w') : Calls P f args w fun e w' => e = .returned v ∧ w' = w := h.mono fun _ _ ⟨h1, h2⟩ => ⟨h1, h2.symm⟩
end Go.Proofs.Ytjaipjgnchpjcaa.T
