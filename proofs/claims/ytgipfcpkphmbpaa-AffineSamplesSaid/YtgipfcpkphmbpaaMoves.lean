/-
  What moveSides and the closures of Scale and Shrink return.
-/
import Derived.Test.YtgipfcpkphmbpaaPure2
import Derived.Test.YtgipfcpkphmbpaaNum
import Derived.Test.YtgipfcpkphmbpaaSt
import Derived.StillTailTactics
import Derived.Deep.QuietTactic
import Derived.BigQuiet
import Derived.Deep.RegionHeld3
import Derived.Deep.Cut
import Derived.Deep.CutBlock
import Derived.Deep.CutRange
namespace Go.Proofs.Ytgipfcpkphmbpaa
open Go.RowKit

theorem drew_eq (w : World) : ({ heap := w.heap, tape := w.tape, drawn := w.drawn + 1, os := w.os, output := w.output } : World) = w.drew := rfl
theorem quiet_sym {P : Program} {f : FuncId} {args : Array Value} {w : World} {v : Value} (h : Calls P f args w fun e w' => e = .returned v ∧ w = w') : Calls P f args w fun e w' => e = .returned v ∧ w' = w := h.mono fun _ _ ⟨h1, h2⟩ => ⟨h1, h2.symm⟩

/-- 2 to the power z -/
def pw (z : Int) : Int := wrap64 (2 ^ z.toNat)
theorem zok_bd {z : Int} (h : zok z = true) : 0 ≤ z ∧ z ≤ 4 := by simpa [zok] using h
theorem zok_cases {z : Int} (h : zok z = true) : z = 0 ∨ z = 1 ∨ z = 2 ∨ z = 3 ∨ z = 4 := by have := zok_bd h; omega
theorem pw_bd {z : Int} (h : zok z = true) : 1 ≤ pw z ∧ pw z ≤ 16 := by
  unfold pw wrap64
  rcases zok_cases h with rfl | rfl | rfl | rfl | rfl <;> decide
def scl (a0 a1 a2 a3 z : Int) : Rc := if emp a0 a1 a2 a3 || !zok z then ⟨0, 0, 0, 0⟩ else ⟨wrap64 (a0 * pw z), wrap64 (a1 * pw z), wrap64 (a2 * pw z), wrap64 (a3 * pw z)⟩
def shk (a0 a1 a2 a3 z : Int) : Rc := if emp a0 a1 a2 a3 || !zok z then ⟨0, 0, 0, 0⟩ else ⟨flo a0 (pw z), flo a1 (pw z), cei a2 (pw z), cei a3 (pw z)⟩
end Go.Proofs.Ytgipfcpkphmbpaa
