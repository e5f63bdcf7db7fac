/-
  Colours in memory and as values.
-/
import Derived.Test.YtcmplgiilcfncaaSt
import Derived.Shelf.Abstract
namespace Go.Proofs.Ytcmplgiilcfncaa
open Go.RowKit
variable {W w w' : World} {L : List (Nat × Obj)}

/-- three numbers as a value, and in memory -/
abbrev ag (a b c : Int) : Value := .agg #[.int .i64 a, .int .i64 b, .int .i64 c]
abbrev ac (a b c : Int) : Obj := .cells #[.int .i64 a, .int .i64 b, .int .i64 c] 25
/-- the block b holds three numbers -/
abbrev CB (w : World) (b : Nat) (x y z : Int) : Prop := w.cell? ⟨b, 0, none⟩ = some (.int .i64 x) ∧ w.cell? ⟨b, 1, none⟩ = some (.int .i64 y) ∧ w.cell? ⟨b, 2, none⟩ = some (.int .i64 z)
theorem St.col {t : TypeId} (h : St W L w) {b : Nat} {x y z : Int} (hm : (b, .cells #[.int .i64 x, .int .i64 y, .int .i64 z] t) ∈ L) : CB w b x y z := ⟨h.cell hm 0, h.cell hm 1, h.cell hm 2⟩
theorem St.fro {cs : Array Value} {t : TypeId} (h : St W L w) {b : Nat} (hm : (b, .cells cs t) ∈ L) : w.frozen? ⟨b, 0, none⟩ = false ∧ w.frozen? ⟨b, 1, none⟩ = false ∧ w.frozen? ⟨b, 2, none⟩ = false := ⟨h.frozen hm 0, h.frozen hm 1, h.frozen hm 2⟩
theorem St.swap {x y : Nat × Obj} (h : St W (x :: y :: L) w) : St W (y :: x :: L) w := h.sub (by intro z hz; simp at hz ⊢; rcases hz with h | h | h <;> simp [h])
theorem St.push (h : St W L w) {n : Nat} (hn : w.heap.size = n) (o : Obj) : St W ((n, o) :: L) (w.alloc o) := hn ▸ h.alloc o
theorem St.put0 {b : Nat} {x y z v : Value} {t : TypeId} (h : St W ((b, .cells #[x, y, z] t) :: L) w) (hb : W.heap.size ≤ b) (hL : ∀ x ∈ L, x.1 ≠ b) : St W ((b, .cells #[v, y, z] t) :: L) (w.setCell ⟨b, 0, none⟩ v) := by
  have := h.put (j := 0) (v := v) hb hL
  simpa only [List.setIfInBounds_toArray, List.set_cons_zero, List.set_cons_succ] using this
theorem St.put1 {b : Nat} {x y z v : Value} {t : TypeId} (h : St W ((b, .cells #[x, y, z] t) :: L) w) (hb : W.heap.size ≤ b) (hL : ∀ x ∈ L, x.1 ≠ b) : St W ((b, .cells #[x, v, z] t) :: L) (w.setCell ⟨b, 1, none⟩ v) := by
  have := h.put (j := 1) (v := v) hb hL
  simpa only [List.setIfInBounds_toArray, List.set_cons_zero, List.set_cons_succ] using this
theorem St.put2 {b : Nat} {x y z v : Value} {t : TypeId} (h : St W ((b, .cells #[x, y, z] t) :: L) w) (hb : W.heap.size ≤ b) (hL : ∀ x ∈ L, x.1 ≠ b) : St W ((b, .cells #[x, y, v] t) :: L) (w.setCell ⟨b, 2, none⟩ v) := by
  have := h.put (j := 2) (v := v) hb hL
  simpa only [List.setIfInBounds_toArray, List.set_cons_zero, List.set_cons_succ] using this
theorem pair0 (x y : Value) : (#[x, y] : Array Value)[0]? = some x := rfl
theorem pair1 (x y : Value) : (#[x, y] : Array Value)[1]? = some y := rfl
theorem St.putp {b : Nat} {x y u v : Value} {t : TypeId} (h : St W ((b, .cells #[x, y] t) :: L) w) (hb : W.heap.size ≤ b) (hL : ∀ x ∈ L, x.1 ≠ b) : St W ((b, .cells #[u, v] t) :: L) ((w.setCell ⟨b, 0, none⟩ u).setCell ⟨b, 1, none⟩ v) := by
  have := (h.put (j := 0) (v := u) hb hL).put (j := 1) (v := v) hb hL
  simpa only [List.setIfInBounds_toArray, List.set_cons_zero, List.set_cons_succ] using this
theorem St.row_set {b : Nat} {cs ds : Array Value} {t : TypeId} (h : St W ((b, .cells cs t) :: L) w) (hb : W.heap.size ≤ b) (hL : ∀ x ∈ L, x.1 ≠ b) : St W ((b, .cells ds t) :: L) (w.setRow b ds) := by
  refine ⟨h.below.trans ⟨rfl, rfl, rfl, by simp [World.setRow], fun k hk => setRow_other w b k ds (by omega)⟩, fun x hx => ?_⟩
  rcases List.mem_cons.1 hx with rfl | hx
  · exact setRow_heap w b cs ds t (0, 0) (h.row (b := b) (o := .cells cs t) (by simp))
  · rw [setRow_other w b x.1 ds (hL x hx)]
    exact h.rows x (List.mem_cons_of_mem _ hx)
theorem below_set3 {b : Nat} (h : Below W.heap.size W w) (hb : W.heap.size ≤ b) (x y z : Value) : Below W.heap.size W (((w.setCell ⟨b, 0, none⟩ x).setCell ⟨b, 1, none⟩ y).setCell ⟨b, 2, none⟩ z) :=
  ((h.setCell (p := ⟨b, 0, none⟩) hb _).setCell (p := ⟨b, 1, none⟩) hb _).setCell (p := ⟨b, 2, none⟩) hb _
set_option maxRecDepth 100000 in
theorem ix0 (x y z : Int) (V : World) : (Instr.index 25 (ag x y z) (.int .i64 0)).run Try.prog V = .ok (.int .i64 x) V := rfl
set_option maxRecDepth 100000 in
theorem ix1 (x y z : Int) (V : World) : (Instr.index 25 (ag x y z) (.int .i64 1)).run Try.prog V = .ok (.int .i64 y) V := rfl
set_option maxRecDepth 100000 in
theorem ix2 (x y z : Int) (V : World) : (Instr.index 25 (ag x y z) (.int .i64 2)).run Try.prog V = .ok (.int .i64 z) V := rfl
end Go.Proofs.Ytcmplgiilcfncaa
