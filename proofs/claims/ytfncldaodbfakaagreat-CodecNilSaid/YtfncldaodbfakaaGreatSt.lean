/-
  Memory in a walk: what was there at the call is as it was, and the listed blocks of one's own hold what is listed.
-/
import Derived.Test.YtfncldaodbfakaaGreatPure
import Derived.Laws.Rows
import Derived.Deep.Draws
import Derived.StillTailTactics
import Derived.Deep.QuietTactic
import Derived.BigQuiet
import Derived.Deep.RegionHeld3
import Derived.Deep.Cut
import Derived.Deep.CutBlock
import Derived.Deep.CutRange
import Derived.Deep.RegionWith
import Derived.Deep.DeepCutAuto
namespace Go.Proofs.YtfncldaodbfakaaGreat
open Go.RowKit

structure St (W : World) (L : List (Nat × Obj)) (w : World) : Prop where
  below : Below W.heap.size W w
  rows : ∀ x ∈ L, w.heap[x.1]? = some x.2
variable {W w w' : World} {L : List (Nat × Obj)}
theorem St.start (w : World) : St w [] w := ⟨Below.refl _ _, by intro x hx; cases hx⟩
theorem St.later (h : St W L w) (hb : Below w.heap.size w w') : St W L w' :=
  ⟨h.below.trans (hb.mono h.below.size), fun x hx => by
    have h1 := h.rows x hx
    rw [hb.block x.1 (Array.getElem?_eq_some_iff.1 h1).1]; exact h1⟩
theorem St.drew (h : St W L w) : St W L w.drew := h.later (Below.refl _ w).drew
theorem St.drewN (h : St W L w) (n : Nat) : St W L (w.drewN n) := h.later ⟨rfl, rfl, rfl, Nat.le_refl _, fun _ _ => rfl⟩
theorem St.call {P : Program} {f : FuncId} {args : Array Value} {v : Value} (h : St W L w) (hc : Calls P f args w fun e w' => e = .returned v ∧ Below w.heap.size w w') :
    Calls P f args w fun e w' => e = .returned v ∧ St W L w' := hc.mono fun _ _ ⟨h1, h2⟩ => ⟨h1, h.later h2⟩
theorem St.call2 {P : Program} {f : FuncId} {args : Array Value} {v : Value} (h : St W L w) (hc : Calls P f args w fun e w' => e = .returned v ∧ Below w.heap.size w w') :
    Calls P f args w fun e w' => e = .returned v ∧ St W L w' ∧ Below w.heap.size w w' := hc.mono fun _ _ ⟨h1, h2⟩ => ⟨h1, h.later h2, h2⟩
theorem St.alloc (h : St W L w) (o : Obj) : St W ((w.heap.size, o) :: L) (w.alloc o) := by
  have h2 := h.later (below1 (o := o))
  refine ⟨h2.below, fun x hx => ?_⟩
  rcases List.mem_cons.1 hx with rfl | hx
  · show (w.heap.push o)[w.heap.size]? = some o
    simp
  · exact h2.rows x hx
theorem St.row (h : St W L w) {b : Nat} {o : Obj} (hm : (b, o) ∈ L) : w.heap[b]? = some o := h.rows _ hm
theorem St.cell (h : St W L w) {b : Nat} {cs : Array Value} {t : TypeId} (hm : (b, .cells cs t) ∈ L) (j : Nat) : w.cell? ⟨b, j, none⟩ = cs[j]? := cell_of_row _ _ _ _ _ _ (h.row hm)
theorem St.frozen (h : St W L w) {b : Nat} {cs : Array Value} {t : TypeId} (hm : (b, .cells cs t) ∈ L) (j : Nat) : w.frozen? ⟨b, j, none⟩ = false := frozen_of_row _ _ _ _ _ (h.row hm)
theorem St.lt (h : St W L w) {b : Nat} {o : Obj} (hm : (b, o) ∈ L) : b < w.heap.size := (Array.getElem?_eq_some_iff.1 (h.row hm)).1
theorem St.sub (h : St W L w) {L' : List (Nat × Obj)} (hs : ∀ x ∈ L', x ∈ L) : St W L' w := ⟨h.below, fun x hx => h.rows x (hs x hx)⟩

theorem St.set (h : St W L w) {b j : Nat} {v : Value} (hb : W.heap.size ≤ b) (hL : ∀ x ∈ L, x.1 ≠ b) : St W L (w.setCell ⟨b, j, none⟩ v) :=
  ⟨h.below.setCell (p := ⟨b, j, none⟩) hb _, fun x hx => by
    have h1 := h.rows x hx
    rw [← h1]
    exact Below.heap_setCell _ _ _ _ (hL x hx)⟩
/-- a pixel as a value, and in memory -/
abbrev pv (r g b a : Int) : Value := .agg #[.int .u8 r, .int .u8 g, .int .u8 b, .int .u8 a]
abbrev po (r g b a : Int) : Obj := .cells #[.int .u8 r, .int .u8 g, .int .u8 b, .int .u8 a] 36
/-- the four cells of a pixel in memory -/
abbrev RB (w : World) (b : Nat) (x0 x1 x2 x3 : Int) : Prop :=
  w.cell? ⟨b, 0, none⟩ = some (.int .u8 x0) ∧ w.cell? ⟨b, 1, none⟩ = some (.int .u8 x1) ∧ w.cell? ⟨b, 2, none⟩ = some (.int .u8 x2) ∧ w.cell? ⟨b, 3, none⟩ = some (.int .u8 x3)
theorem St.pix (h : St W L w) {b : Nat} {x0 x1 x2 x3 : Int} (hm : (b, po x0 x1 x2 x3) ∈ L) : RB w b x0 x1 x2 x3 :=
  ⟨h.cell hm 0, h.cell hm 1, h.cell hm 2, h.cell hm 3⟩
/-- one variable of one's own -/
abbrev vo (x : Value) (t : TypeId) : Obj := .cells #[x] t
theorem St.var (h : St W L w) {b : Nat} {x : Value} {t : TypeId} (hm : (b, vo x t) ∈ L) : w.cell? ⟨b, 0, none⟩ = some x := h.cell hm 0
theorem cell_alloc (w : World) (x : Value) (t : TypeId) : (w.alloc (vo x t)).cell? ⟨w.heap.size, 0, none⟩ = some x := ((St.start w).alloc (vo x t)).var (b := w.heap.size) (x := x) (t := t) (by simp)
end Go.Proofs.YtfncldaodbfakaaGreat
