/-
  The reference's Line, Inverse and Then.
-/
import Derived.Test.YtgdcjpnmalnmbaaOwn
import Derived.Test.YtgdcjpnmalnmbaaRefSolve
import Derived.Test.YtgdcjpnmalnmbaaInv
namespace Go.Proofs.Ytgdcjpnmalnmbaa
open Go.RowKit
variable {w : World}

def GotR (c : List Int) (k : Int) (w : World) (e : Ending) (w' : World) : Prop := ∃ po n cap, e = .returned (.agg #[.slice po n cap, .int .i64 k]) ∧ Cm w' (.slice po n cap) c ∧ Below w.heap.size w w'
/-- the cells of the result's block -/
def ResAt (V : World) (b : Nat) : Prop := (V.cell? ⟨b, 0, none⟩ = some (.slice none 0 0) ∧ V.cell? ⟨b, 1, none⟩ = some (.int .i64 0)) ∧ (V.frozen? ⟨b, 0, none⟩ = false ∧ V.frozen? ⟨b, 1, none⟩ = false) ∧ b < V.heap.size
theorem below_set2 {n b : Nat} {W V : World} (h : Below n W V) (hb : n ≤ b) (x y : Value) : Below n W ((V.setCell ⟨b, 0, none⟩ x).setCell ⟨b, 1, none⟩ y) := (h.setCell (p := ⟨b, 0, none⟩) hb _).setCell (p := ⟨b, 1, none⟩) hb _
theorem cm_set {V : World} {v : Value} {c : List Int} {B b j : Nat} {x : Value} (h : OwnsI B V v c) (hb : b < B) : Cm (V.setCell ⟨b, j, none⟩ x) v c := by
  refine OwnsI.cm (B := B) ?_
  obtain ⟨hl, h | ⟨g, cap, cur, hv, hg, hh, h⟩⟩ := h
  · exact ⟨hl, Or.inl h⟩
  · exact ⟨hl, Or.inr ⟨g, cap, cur, hv, hg, by rw [Below.heap_setCell _ _ _ _ (show g ≠ b by omega)]; exact hh, h⟩⟩
theorem own_set {V : World} {v : Value} {c : List Int} {B b j : Nat} {x : Value} (h : OwnsI B V v c) (hb : b < B) : OwnsI B (V.setCell ⟨b, j, none⟩ x) v c := by
  obtain ⟨hl, h | ⟨g, cap, cur, hv, hg, hh, h⟩⟩ := h
  · exact ⟨hl, Or.inl h⟩
  · exact ⟨hl, Or.inr ⟨g, cap, cur, hv, hg, by rw [Below.heap_setCell _ _ _ _ (show g ≠ b by omega)]; exact hh, h⟩⟩

theorem later_all {B m : Nat} {W wr : World} {L : List (Nat × Obj)} {u : Value} {p : List Int} (h : OwnsI B wr u p) (h2 : St W L wr ∧ m ≤ wr.heap.size) :
    ∀ V, Below wr.heap.size wr V → OwnsI B V u p ∧ St W L V ∧ m ≤ V.heap.size ∧ wr.heap.size ≤ V.heap.size :=
  fun _ hV => ⟨h.later hV, h2.1.later hV, Nat.le_trans h2.2 hV.size, hV.size⟩
end Go.Proofs.Ytgdcjpnmalnmbaa
