/-
  Memory in a walk: what was there at the call is as it was, and the listed blocks of one's own hold what is listed.
-/
import Derived.Test.YtgipfcpkphmbpaaPure
import Derived.Laws.Rows
import Derived.Deep.Draws
namespace Go.Proofs.Ytgipfcpkphmbpaa
open Go.RowKit

structure St (W : World) (L : List (Nat × Obj)) (w : World) : Prop where
  below : Below W.heap.size W w
  rows : ∀ x ∈ L, w.heap[x.1]? = some x.2
variable {W w w' : World} {L : List (Nat × Obj)}
theorem St.start (w : World) : St w [] w := ⟨Below.refl _ _, by intro x hx; cases hx⟩
theorem St.later (h : St W L w) (hb : Below w.heap.size w w') : St W L w' :=
  ⟨h.below.trans (hb.mono h.below.size), fun x hx => by
    have h1 := h.rows x hx
    rw [hb.block x.1 (Array.getElem?_eq_some_iff.1 h1).1]; exact h1⟩
theorem St.drew (h : St W L w) : St W L w.drew := h.later (Below.refl _ w).drew
theorem St.drewN (h : St W L w) (n : Nat) : St W L (w.drewN n) := h.later ⟨rfl, rfl, rfl, Nat.le_refl _, fun _ _ => rfl⟩
theorem St.call {P : Program} {f : FuncId} {args : Array Value} {v : Value} (h : St W L w) (hc : Calls P f args w fun e w' => e = .returned v ∧ Below w.heap.size w w') :
    Calls P f args w fun e w' => e = .returned v ∧ St W L w' := hc.mono fun _ _ ⟨h1, h2⟩ => ⟨h1, h.later h2⟩
theorem St.call2 {P : Program} {f : FuncId} {args : Array Value} {v : Value} (h : St W L w) (hc : Calls P f args w fun e w' => e = .returned v ∧ Below w.heap.size w w') :
    Calls P f args w fun e w' => e = .returned v ∧ St W L w' ∧ Below w.heap.size w w' := hc.mono fun _ _ ⟨h1, h2⟩ => ⟨h1, h.later h2, h2⟩
theorem St.alloc (h : St W L w) (o : Obj) : St W ((w.heap.size, o) :: L) (w.alloc o) := by
  have h2 := h.later (below1 (o := o))
  refine ⟨h2.below, fun x hx => ?_⟩
  rcases List.mem_cons.1 hx with rfl | hx
  · show (w.heap.push o)[w.heap.size]? = some o
    simp
  · exact h2.rows x hx
theorem St.row (h : St W L w) {b : Nat} {o : Obj} (hm : (b, o) ∈ L) : w.heap[b]? = some o := h.rows _ hm
theorem St.cell (h : St W L w) {b : Nat} {cs : Array Value} {t : TypeId} (hm : (b, .cells cs t) ∈ L) (j : Nat) : w.cell? ⟨b, j, none⟩ = cs[j]? := cell_of_row _ _ _ _ _ _ (h.row hm)
theorem St.frozen (h : St W L w) {b : Nat} {cs : Array Value} {t : TypeId} (hm : (b, .cells cs t) ∈ L) (j : Nat) : w.frozen? ⟨b, j, none⟩ = false := frozen_of_row _ _ _ _ _ (h.row hm)
theorem St.lt (h : St W L w) {b : Nat} {o : Obj} (hm : (b, o) ∈ L) : b < w.heap.size := (Array.getElem?_eq_some_iff.1 (h.row hm)).1
theorem St.sub (h : St W L w) {L' : List (Nat × Obj)} (hs : ∀ x ∈ L', x ∈ L) : St W L' w := ⟨h.below, fun x hx => h.rows x (hs x hx)⟩

/-- the four cells of a rectangle in memory -/
abbrev RB (w : World) (b : Nat) (x0 x1 x2 x3 : Int) : Prop :=
  w.cell? ⟨b, 0, none⟩ = some (.int .i64 x0) ∧ w.cell? ⟨b, 1, none⟩ = some (.int .i64 x1) ∧ w.cell? ⟨b, 2, none⟩ = some (.int .i64 x2) ∧ w.cell? ⟨b, 3, none⟩ = some (.int .i64 x3)
theorem St.rect (h : St W L w) {b : Nat} {x0 x1 x2 x3 : Int} (hm : (b, ro x0 x1 x2 x3) ∈ L) : RB w b x0 x1 x2 x3 :=
  ⟨h.cell hm 0, h.cell hm 1, h.cell hm 2, h.cell hm 3⟩
end Go.Proofs.Ytgipfcpkphmbpaa
