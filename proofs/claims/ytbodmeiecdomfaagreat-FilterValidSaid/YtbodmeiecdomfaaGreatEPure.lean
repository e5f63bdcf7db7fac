/-
  What the functions of rect and of the reference that only compute on rectangles return (contracts of their calls).
-/
import Derived.Test.YtbodmeiecdomfaaGreatRows
import Derived.WalkKit
import Derived.WalkSpells
import Derived.WalkLawsBesides
import Derived.PlainAid
import Derived.Outline
import Derived.Lib.Hide
namespace Go.Proofs.YtbodmeiecdomfaaGreat.R
open Go.RowKit

theorem ret_int {k : IntKind} {a b : Int} (h : a = b) : Ending.returned (.int k a) = .returned (.int k b) := by rw [h]
theorem ret_bool {a b : Bool} (h : a = b) : Ending.returned (.bool a) = .returned (.bool b) := by rw [h]
theorem val_int {k : IntKind} {a b : Int} (h : a = b) : Value.int k a = .int k b := by rw [h]

/-- the rectangle as a value -/
abbrev rv (a b c d : Int) : Value := .agg #[.int .i64 a, .int .i64 b, .int .i64 c, .int .i64 d]

theorem Below.call {P : Program} {f : FuncId} {args : Array Value} {w : World} {v : Value} {w0 : World} (hs : Below w0.heap.size w0 w)
    (h : Calls P f args w fun e w' => e = .returned v ∧ Below w.heap.size w w') : Calls P f args w fun e w' => e = .returned v ∧ Below w0.heap.size w0 w' ∧ Below w.heap.size w w' :=
  h.mono fun _ _ ⟨h1, h2⟩ => ⟨h1, hs.trans (h2.mono hs.size), h2⟩
theorem bcell {W w1 : World} (hb : Below W.heap.size W w1) : (∀ b o, b < W.heap.size → w1.cell? ⟨b, o, none⟩ = W.cell? ⟨b, o, none⟩) ∧ (∀ b o, b < W.heap.size → w1.frozen? ⟨b, o, none⟩ = W.frozen? ⟨b, o, none⟩) :=
  ⟨fun b o h => hb.cell (p := ⟨b, o, none⟩) h, fun b o h => hb.frozen (p := ⟨b, o, none⟩) h⟩
theorem below1 {w : World} {o : Obj} : Below w.heap.size w (w.alloc o) := (Below.refl _ _).alloc (Nat.le_refl _) _
theorem below2 {w : World} {o p : Obj} : Below w.heap.size w ((w.alloc o).alloc p) := below1.alloc (by simp) _
theorem below3 {w : World} {o p q : Obj} : Below w.heap.size w (((w.alloc o).alloc p).alloc q) := below2.alloc (by simp; omega) _

theorem below_set4 {n b : Nat} {w w' : World} (h : Below n w w') (hb : n ≤ b) (x0 x1 x2 x3 : Value) :
    Below n w ((((w'.setCell ⟨b, 0, none⟩ x0).setCell ⟨b, 1, none⟩ x1).setCell ⟨b, 2, none⟩ x2).setCell ⟨b, 3, none⟩ x3) :=
  (((h.setCell (p := ⟨b, 0, none⟩) hb _).setCell (p := ⟨b, 1, none⟩) hb _).setCell (p := ⟨b, 2, none⟩) hb _).setCell (p := ⟨b, 3, none⟩) hb _

/-- a rectangle in memory -/
abbrev ro (a b c d : Int) : Obj := .cells #[.int .i64 a, .int .i64 b, .int .i64 c, .int .i64 d] 34
structure Rc where
  (x0 y0 x1 y1 : Int)
abbrev Rc.v (r : Rc) : Value := rv r.x0 r.y0 r.x1 r.y1

def emp (a b c d : Int) : Bool := decide (c ≤ a) || decide (d ≤ b)
def eqr (a0 a1 a2 a3 b0 b1 b2 b3 : Int) : Bool := decide (a0 = b0 ∧ a1 = b1 ∧ a2 = b2 ∧ a3 = b3) || (emp a0 a1 a2 a3 && emp b0 b1 b2 b3)
def nrm (a b c d : Int) : Rc := if emp a b c d then ⟨0, 0, 0, 0⟩ else ⟨a, b, c, d⟩
def has (a b c d x y : Int) : Bool := decide (a ≤ x) && decide (x < c) && decide (b ≤ y) && decide (y < d)
def ins (a0 a1 a2 a3 b0 b1 b2 b3 : Int) : Bool := emp a0 a1 a2 a3 || (decide (b0 ≤ a0) && decide (a2 ≤ b2) && decide (b1 ≤ a1) && decide (a3 ≤ b3))
def area (a b c d : Int) : Int := if emp a b c d then 0 else wrap64 (wrap64 (c - a) * wrap64 (d - b))
def vld (a b c d : Int) : Bool := !emp a b c d && ins a b c d (-65536) (-65536) 65536 65536

theorem empty_any (a0 a1 a2 a3 : Int) (w : World) : Calls Tryz.prog 52 #[rv a0 a1 a2 a3] w fun e w' => e = .returned (.bool (emp a0 a1 a2 a3)) ∧ Below w.heap.size w w' := by
  go_enter Tryz.func52, Tryz.ntmps52
  go_wp2
  all_goals go_ret
  all_goals exact ⟨ret_bool (by first | (simp [emp, *]; done) | (simp [emp, *]; omega)), by first | assumption | with_reducible exact below1 | with_reducible exact below2 | with_reducible exact below3⟩

theorem inside_any (a0 a1 a2 a3 b0 b1 b2 b3 : Int) (w : World) : Calls Tryz.prog 43 #[rv a0 a1 a2 a3, rv b0 b1 b2 b3] w fun e w' => e = .returned (.bool (ins a0 a1 a2 a3 b0 b1 b2 b3)) ∧ Below w.heap.size w w' := by
  go_enter Tryz.func43, Tryz.ntmps43
  go_wp2_with (first | (go_at_call 52; (with_reducible refine (Below.call (w0 := w) ?_ (empty_any _ _ _ _ _)).mono ?_); (first | (focus assumption) | (focus with_reducible exact below1) | (focus with_reducible exact below2) | (focus with_reducible exact below3)); rintro e w' ⟨rfl, hb, hb'⟩; obtain ⟨hc, hf⟩ := bcell hb'; have hz0 : w.heap.size < w'.heap.size := (by have := hb'.size; (try simp at this); omega); have hz1 : w.heap.size + 1 < w'.heap.size := (by have := hb'.size; (try simp at this); omega)))
  all_goals go_ret
  all_goals exact ⟨ret_bool (by first | (simp [ins, *]; done) | (simp [ins, *]; omega)), by first | assumption | with_reducible exact below1 | with_reducible exact below2 | with_reducible exact below3⟩

theorem area_any (a0 a1 a2 a3 : Int) (w : World) : Calls Tryz.prog 28 #[rv a0 a1 a2 a3] w fun e w' => e = .returned (.int .i64 (area a0 a1 a2 a3)) ∧ Below w.heap.size w w' := by
  go_enter Tryz.func28, Tryz.ntmps28
  go_wp2_with (first | (go_at_call 52; (with_reducible refine (Below.call (w0 := w) ?_ (empty_any _ _ _ _ _)).mono ?_); (first | (focus assumption) | (focus with_reducible exact below1) | (focus with_reducible exact below2) | (focus with_reducible exact below3)); rintro e w' ⟨rfl, hb, hb'⟩; obtain ⟨hc, hf⟩ := bcell hb'; have hz0 : w.heap.size < w'.heap.size := (by have := hb'.size; (try simp at this); omega)))
  all_goals go_ret
  all_goals exact ⟨ret_int (by first | (simp [area, *]; done) | (simp [area, *]; omega)), by first | assumption | with_reducible exact below1 | with_reducible exact below2 | with_reducible exact below3⟩

end Go.Proofs.YtbodmeiecdomfaaGreat.R
