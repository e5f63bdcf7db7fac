/-
  The closures of Mask and Over.
-/
import Derived.Test.YtligojllbnahcaaDoorTClo
import Derived.Test.YtligojllbnahcaaDoorOver
namespace Go.Proofs.YtligojllbnahcaaDoor.T
open Go.RowKit Go.Shelf
variable {W w w' : World} {L : List (Nat × Obj)}

end Go.Proofs.YtligojllbnahcaaDoor.T
namespace Go.Proofs.YtligojllbnahcaaDoor
open Go.RowKit T
variable {W w w' : World} {L : List (Nat × Obj)}
/-- the cells of the pixel number i of the tile in block b -/
abbrev Q4 (V : World) (b i : Nat) (p : Px) : Prop :=
  V.cell? ⟨b, 4 * i, none⟩ = some (.int .u8 p.r) ∧ V.cell? ⟨b, 4 * i + 1, none⟩ = some (.int .u8 p.g) ∧ V.cell? ⟨b, 4 * i + 2, none⟩ = some (.int .u8 p.b) ∧ V.cell? ⟨b, 4 * i + 3, none⟩ = some (.int .u8 p.a)
theorem St.q4 (h : St W L w) {b : Nat} {f : Nat → Px} (hm : (b, tob f) ∈ L) (i : Nat) (hi : i < 64) : Q4 w b i (f i) :=
  ⟨range_px (h.row hm) hi 0 _ rfl, range_px (h.row hm) hi 1 _ rfl, range_px (h.row hm) hi 2 _ rfl, range_px (h.row hm) hi 3 _ rfl⟩
theorem St.more (h : St W L w) {b : Nat} {o : Obj} (hb : w.heap[b]? = some o) : St W ((b, o) :: L) w := ⟨h.below, fun x hx => by
  rcases List.mem_cons.1 hx with rfl | hx
  · exact hb
  · exact h.rows x hx⟩
end Go.Proofs.YtligojllbnahcaaDoor
namespace Go.Proofs.YtligojllbnahcaaDoor.T
open Go.RowKit Go.Shelf
/-- coverages as a value, and in memory -/
def cl64 (k : Nat → Int) : List Value := (List.range 64).map fun i => .int .u8 (k i)
def cvc (k : Nat → Int) : Array Value := (cl64 k).toArray
theorem cvc_size (k : Nat → Int) : (cvc k).size = 64 := by simp [cvc, cl64]
theorem cvc_get (k : Nat → Int) (i : Nat) (hi : i < 64) : (cvc k)[i]? = some (.int .u8 (k i)) := by
  unfold cvc cl64
  rw [List.getElem?_toArray, List.getElem?_map, List.getElem?_range hi]; rfl
end Go.Proofs.YtligojllbnahcaaDoor.T
