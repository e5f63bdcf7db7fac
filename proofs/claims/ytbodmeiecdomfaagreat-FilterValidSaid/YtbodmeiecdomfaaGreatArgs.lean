/-
  The iterator of the arguments of n points. The iterator of the values that a function gives to the arguments of n points.
-/
import Derived.Test.YtbodmeiecdomfaaGreatRange
import Derived.Test.YtbodmeiecdomfaaGreatNum
namespace Go.Proofs.YtbodmeiecdomfaaGreat
open Go.RowKit Go.Shelf
attribute [local go_sem] Oper.semAt_some
variable {w : World}

theorem inWide {P : Program} {f : FuncId} {args : Array Value} {w : World} {R : Ending → World → Prop} {n : Nat} (h : Calls P f args w R) : CallsIn Fence.wide n P f args w R := callsIn_wide.2 h
abbrev ptr (b : Nat) : Value := .pointer (some ⟨b, 0, none⟩)
theorem Kept.cell {M : Nat → Prop} {W W' : World} (h : Kept M W W') {b : Nat} {x : Value} {t : TypeId} (hb : W.heap[b]? = some (vo x t)) (hm : ¬ M b) : W'.cell? ⟨b, 0, none⟩ = some x :=
  cell_of_row _ _ 0 _ _ _ (h.row hb hm)

theorem range_pre {k n : Nat} (h : k < n) : (List.range k ++ [k]) <+: List.range n := by
  rw [← List.range_succ]
  have e : n = (k + 1) + (n - (k + 1)) := by omega
  rw [e, List.range_add]
  exact ⟨_, rfl⟩
end Go.Proofs.YtbodmeiecdomfaaGreat

namespace Go.Proofs.YtbodmeiecdomfaaGreat
open Go.RowKit Go.Shelf
attribute [local go_sem] Oper.semAt_some
variable {w : World}

theorem abd_kept {β : Type} {M : Nat → Prop} {W : World} (n : Nat) (hn : W.heap.size ≤ n) : Abd n (fun (_ : β) V => Kept M W V) := fun _ A B h hb =>
  ⟨hb.os.trans h.os, hb.tape.trans h.tape, hb.output.trans h.output, Nat.le_trans h.size hb.size, fun k hk hm => (hb.block k (by omega)).trans (h.block k hk hm)⟩
theorem Abd.mono {β : Type} {n m : Nat} {J : β → World → Prop} (h : Abd n J) (hm : n ≤ m) : Abd m J := fun s A B hs hb => h s A B hs (hb.mono hm)
theorem Kept.put {M : Nat → Prop} {W W' : World} (h : Kept M W W') {l : Nat} (o : Obj) (hl : W.heap.size ≤ l) : Kept M W (W'.putObj l o) :=
  ⟨h.os, h.tape, h.output, by simpa [World.putObj] using h.size, fun k hk hm => (World.putObj_heap_other (by omega)).trans (h.block k hk hm)⟩

/-- a function of an index and an argument, as a value -/
def Gives (g : Nat) (cb : Array Value) (n : Nat) (f : Nat → Int) (w : World) : Prop :=
  ∀ V, Below w.heap.size w V → ∀ i, i < n → Calls Tryz.prog g (#[.int .i64 i, .int .i64 (arg i n)] ++ cb) V fun e w' => e = .returned (.int .i64 (f i)) ∧ Below V.heap.size V w'

end Go.Proofs.YtbodmeiecdomfaaGreat
