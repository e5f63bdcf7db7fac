/-
  The iterator of the arguments of n points.
-/
import Derived.Test.YtihfpflnnhiikaaGreatRange
import Derived.Test.YtihfpflnnhiikaaGreatNum
namespace Go.Proofs.YtihfpflnnhiikaaGreat
open Go.RowKit Go.Shelf
attribute [local go_sem] Oper.semAt_some
variable {w : World}

theorem inWide {P : Program} {f : FuncId} {args : Array Value} {w : World} {R : Ending → World → Prop} {n : Nat} (h : Calls P f args w R) : CallsIn Fence.wide n P f args w R := callsIn_wide.2 h
abbrev ptr (b : Nat) : Value := .pointer (some ⟨b, 0, none⟩)
theorem Kept.cell {M : Nat → Prop} {W W' : World} (h : Kept M W W') {b : Nat} {x : Value} {t : TypeId} (hb : W.heap[b]? = some (vo x t)) (hm : ¬ M b) : W'.cell? ⟨b, 0, none⟩ = some x :=
  cell_of_row _ _ 0 _ _ _ (h.row hb hm)

theorem range_pre {k n : Nat} (h : k < n) : (List.range k ++ [k]) <+: List.range n := by
  rw [← List.range_succ]
  have e : n = (k + 1) + (n - (k + 1)) := by omega
  rw [e, List.range_add]
  exact ⟨_, rfl⟩
end Go.Proofs.YtihfpflnnhiikaaGreat
