/-
  Memory in a walk: what was there at the call is as it was, and the listed blocks of one's own hold what is listed; curves in memory.
-/
import Derived.Test.YtcmplgiilcfncaaRows
import Derived.Test.YtcmplgiilcfncaaPow
import Derived.WalkKit
import Derived.WalkSpells
import Derived.WalkLawsBesides
import Derived.Outline
import Derived.Lib.Hide
import Derived.Laws.Rows
import Derived.Deep.Draws
import Derived.StillTailTactics
import Derived.Deep.QuietTactic
import Derived.BigQuiet
import Derived.Deep.RegionHeld3
import Derived.Deep.Cut
import Derived.Deep.CutBlock
import Derived.Deep.CutRange
import Derived.Deep.RegionWith
import Derived.Deep.DeepCutAuto
namespace Go.Proofs.Ytcmplgiilcfncaa
open Go.RowKit

theorem ret_int {k : IntKind} {a b : Int} (h : a = b) : Ending.returned (.int k a) = .returned (.int k b) := by rw [h]
theorem ret_bool {a b : Bool} (h : a = b) : Ending.returned (.bool a) = .returned (.bool b) := by rw [h]
theorem bcell {W w1 : World} (hb : Below W.heap.size W w1) : (∀ b o, b < W.heap.size → w1.cell? ⟨b, o, none⟩ = W.cell? ⟨b, o, none⟩) ∧ (∀ b o, b < W.heap.size → w1.frozen? ⟨b, o, none⟩ = W.frozen? ⟨b, o, none⟩) :=
  ⟨fun b o h => hb.cell (p := ⟨b, o, none⟩) h, fun b o h => hb.frozen (p := ⟨b, o, none⟩) h⟩
theorem below1 {w : World} {o : Obj} : Below w.heap.size w (w.alloc o) := (Below.refl _ _).alloc (Nat.le_refl _) _
theorem below2 {w : World} {o p : Obj} : Below w.heap.size w ((w.alloc o).alloc p) := below1.alloc (by simp) _
theorem belowN {w : World} (n : Nat) : Below w.heap.size w (w.drewN n) := ⟨rfl, rfl, rfl, Nat.le_refl _, fun _ _ => rfl⟩
theorem Below.call {P : Program} {f : FuncId} {args : Array Value} {w : World} {v : Value} {w0 : World} (hs : Below w0.heap.size w0 w)
    (h : Calls P f args w fun e w' => e = .returned v ∧ Below w.heap.size w w') : Calls P f args w fun e w' => e = .returned v ∧ Below w0.heap.size w0 w' :=
  h.mono fun _ _ ⟨h1, h2⟩ => ⟨h1, hs.trans (h2.mono hs.size)⟩

structure St (W : World) (L : List (Nat × Obj)) (w : World) : Prop where
  below : Below W.heap.size W w
  rows : ∀ x ∈ L, w.heap[x.1]? = some x.2
variable {W w w' : World} {L : List (Nat × Obj)}
theorem St.start (w : World) : St w [] w := ⟨Below.refl _ _, by intro x hx; cases hx⟩
theorem St.later (h : St W L w) (hb : Below w.heap.size w w') : St W L w' :=
  ⟨h.below.trans (hb.mono h.below.size), fun x hx => by
    have h1 := h.rows x hx
    rw [hb.block x.1 (Array.getElem?_eq_some_iff.1 h1).1]; exact h1⟩
theorem St.drew (h : St W L w) : St W L w.drew := h.later (Below.refl _ w).drew
theorem St.drewN (h : St W L w) (n : Nat) : St W L (w.drewN n) := h.later (belowN n)
theorem St.call {P : Program} {f : FuncId} {args : Array Value} {v : Value} (h : St W L w) (hc : Calls P f args w fun e w' => e = .returned v ∧ Below w.heap.size w w') :
    Calls P f args w fun e w' => e = .returned v ∧ St W L w' := hc.mono fun _ _ ⟨h1, h2⟩ => ⟨h1, h.later h2⟩
theorem St.call2 {P : Program} {f : FuncId} {args : Array Value} {v : Value} (h : St W L w) (hc : Calls P f args w fun e w' => e = .returned v ∧ Below w.heap.size w w') :
    Calls P f args w fun e w' => e = .returned v ∧ St W L w' ∧ Below w.heap.size w w' := hc.mono fun _ _ ⟨h1, h2⟩ => ⟨h1, h.later h2, h2⟩
theorem St.alloc (h : St W L w) (o : Obj) : St W ((w.heap.size, o) :: L) (w.alloc o) := by
  have h2 := h.later (below1 (o := o))
  refine ⟨h2.below, fun x hx => ?_⟩
  rcases List.mem_cons.1 hx with rfl | hx
  · show (w.heap.push o)[w.heap.size]? = some o
    simp
  · exact h2.rows x hx
theorem St.row (h : St W L w) {b : Nat} {o : Obj} (hm : (b, o) ∈ L) : w.heap[b]? = some o := h.rows _ hm
theorem St.cell (h : St W L w) {b : Nat} {cs : Array Value} {t : TypeId} (hm : (b, .cells cs t) ∈ L) (j : Nat) : w.cell? ⟨b, j, none⟩ = cs[j]? := cell_of_row _ _ _ _ _ _ (h.row hm)
theorem St.frozen (h : St W L w) {b : Nat} {cs : Array Value} {t : TypeId} (hm : (b, .cells cs t) ∈ L) (j : Nat) : w.frozen? ⟨b, j, none⟩ = false := frozen_of_row _ _ _ _ _ (h.row hm)
theorem St.lt (h : St W L w) {b : Nat} {o : Obj} (hm : (b, o) ∈ L) : b < w.heap.size := (Array.getElem?_eq_some_iff.1 (h.row hm)).1
theorem St.sub (h : St W L w) {L' : List (Nat × Obj)} (hs : ∀ x ∈ L', x ∈ L) : St W L' w := ⟨h.below, fun x hx => h.rows x (hs x hx)⟩
theorem St.set (h : St W L w) {b j : Nat} {v : Value} (hb : W.heap.size ≤ b) (hL : ∀ x ∈ L, x.1 ≠ b) : St W L (w.setCell ⟨b, j, none⟩ v) :=
  ⟨h.below.setCell (p := ⟨b, j, none⟩) hb _, fun x hx => by
    have h1 := h.rows x hx
    rw [← h1]
    exact Below.heap_setCell _ _ _ _ (hL x hx)⟩
/-- one variable of one's own -/
abbrev vo (x : Value) (t : TypeId) : Obj := .cells #[x] t
theorem St.var (h : St W L w) {b : Nat} {x : Value} {t : TypeId} (hm : (b, vo x t) ∈ L) : w.cell? ⟨b, 0, none⟩ = some x := h.cell hm 0
theorem St.put {b : Nat} {cs : Array Value} {t : TypeId} (h : St W ((b, .cells cs t) :: L) w) {j : Nat} {v : Value} (hb : W.heap.size ≤ b) (hL : ∀ x ∈ L, x.1 ≠ b) : St W ((b, .cells (cs.setIfInBounds j v) t) :: L) (w.setCell ⟨b, j, none⟩ v) := by
  refine ⟨h.below.setCell (p := ⟨b, j, none⟩) hb _, fun x hx => ?_⟩
  rcases List.mem_cons.1 hx with rfl | hx
  · obtain ⟨hlt, hk⟩ := Array.getElem?_eq_some_iff.1 (h.row (b := b) (o := .cells cs t) (by simp))
    show (w.heap.modify b _)[b]? = _
    rw [Array.getElem?_eq_getElem (by rw [Array.size_modify]; exact hlt), Array.getElem_modify_self, hk]
    simp
  · rw [Below.heap_setCell _ _ _ _ (hL x hx)]
    exact h.rows x (List.mem_cons_of_mem _ hx)
theorem drew_eq (w : World) : ({ heap := w.heap, tape := w.tape, drawn := w.drawn + 1, os := w.os, output := w.output } : World) = w.drew := rfl
theorem cell_alloc (w : World) (x : Value) (t : TypeId) : (w.alloc (vo x t)).cell? ⟨w.heap.size, 0, none⟩ = some x := ((St.start w).alloc (vo x t)).var (b := w.heap.size) (x := x) (t := t) (by simp)

/-- the cells from off on of block b hold the numbers c -/
structure Row (w : World) (b off : Nat) (c : List Int) : Prop where
  lt : b < w.heap.size
  at' : ∀ i, i < c.length → w.cell? ⟨b, off + i, none⟩ = some (.int .i64 (cg c i))
theorem Row.later {b off : Nat} {c : List Int} (h : Row w b off c) (hb : Below w.heap.size w w') : Row w' b off c :=
  ⟨Nat.lt_of_lt_of_le h.lt hb.size, fun i hi => by rw [hb.cell (p := ⟨b, off + i, none⟩) h.lt]; exact h.at' i hi⟩
/-- v is a slice of the numbers c -/
def Cm (w : World) (v : Value) (c : List Int) : Prop :=
  ∃ po cap, v = .slice po c.length cap ∧ c.length ≤ cap ∧ cap ≤ 9223372036854775807 ∧ (0 < c.length → ∃ b off, po = some ⟨b, off, none⟩ ∧ Row w b off c)
theorem Cm.later {v : Value} {c : List Int} (h : Cm w v c) (hb : Below w.heap.size w w') : Cm w' v c := by
  obtain ⟨po, cap, rfl, h1, h2, h3⟩ := h
  refine ⟨po, cap, rfl, h1, h2, fun hp => ?_⟩
  obtain ⟨b, off, h4, h5⟩ := h3 hp
  exact ⟨b, off, h4, h5.later hb⟩
theorem Cm.drewN {v : Value} {c : List Int} (h : Cm w v c) (n : Nat) : Cm (w.drewN n) v c := h.later (belowN n)
theorem cm_nil (w : World) : Cm w (.slice none 0 0) [] := ⟨none, 0, rfl, Nat.le_refl _, by omega, fun h => absurd h (Nat.lt_irrefl _)⟩
theorem Cm.row {v : Value} {c : List Int} (h : Cm w v c) (hp : 0 < c.length) : ∃ b off cap, v = .slice (some ⟨b, off, none⟩) c.length cap ∧ c.length ≤ cap ∧ cap ≤ 9223372036854775807 ∧ Row w b off c := by
  obtain ⟨po, cap, rfl, h1, h2, h3⟩ := h
  obtain ⟨b, off, rfl, h5⟩ := h3 hp
  exact ⟨b, off, cap, rfl, h1, h2, h5⟩
/-- a slice of one's own with these numbers -/
theorem cm_own {v : Value} {c : List Int} {B : Nat} (h : w.ownsRow B 3 1 v c.length (c.map (Value.int .i64))) : Cm w v c := by
  obtain ⟨_, ⟨rfl, h0⟩ | ⟨g, cap, cur, rfl, _, hg, hc, hm, hs, ht⟩⟩ := h
  · have : c = [] := List.eq_nil_of_length_eq_zero h0
    subst this
    exact cm_nil w
  · refine ⟨_, cap, rfl, hc, by unfold maxLen at hm; omega, fun hp => ⟨g, 0, rfl, (Array.getElem?_eq_some_iff.1 hg).1, fun i hi => ?_⟩⟩
    rw [Nat.zero_add, cell_of_row w g i cur 3 (0, 0) hg]
    have h1 : (List.take (c.length * 1) cur.toList)[i]? = (c.map (Value.int .i64))[i]? := by rw [ht]
    rw [List.getElem?_take, if_pos (by omega), List.getElem?_map, List.getElem?_eq_getElem hi] at h1
    rw [← Array.getElem?_toList, h1]
    simp [cg, List.getD, hi]
/-- what an array literal of numbers holds -/
theorem cm_lit (w : World) (c : List Int) (n : Nat) (hn : c.length = n) (hl : n ≤ 1000) (cs : Array Value) (hcs : cs = (c.map (Value.int .i64)).toArray) : Cm (w.alloc (.cells cs 3)) (.slice (some ⟨w.heap.size, 0, none⟩) n n) c := by
  subst hn hcs
  refine ⟨_, _, rfl, Nat.le_refl _, by omega, fun hp => ⟨_, _, rfl, by simp, fun i hi => ?_⟩⟩
  rw [Nat.zero_add, cell_of_row _ _ i _ 3 (0, 0) (heap_alloc_new w _)]
  simp [cg, List.getD, hi]
end Go.Proofs.Ytcmplgiilcfncaa
