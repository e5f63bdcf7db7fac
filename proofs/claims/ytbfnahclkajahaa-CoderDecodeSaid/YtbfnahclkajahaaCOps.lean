/-
  Laws over single operations: slices of one byte, loads and stores with a run equation, values of structs.
-/
import Derived.Test.YtbfnahclkajahaaCShift
import Derived.Great.BuildSlice
namespace Go.Proofs.Ytbfnahclkajahaa.C
open Go.RowKit
set_option maxRecDepth 100000
variable {W w w' : World} {L : List (Nat × Obj)}
section
variable {P : Program} {ops : Array Oper} {rest : List Oper} {o : Oper} {a : Act} {K : Act → World → Prop} {Q : Exit → Act → World → Prop}
theorem wp_load_of (ty : TypeId) (x : Operand) (ho : o.op = .load ty x) (v : Value)
    (hl : (Instr.loadAt ty (a.eval x)).run P w = .ok v w) (h : K (a.put o.dst v) w) : o.wp P a w K Q := by
  unfold Oper.wp execOp
  simp only [ho, Sem.run_bind, hl, Result.andThen_ok, Sem.run_pure]
  exact h
theorem wp_store_of (ty : TypeId) (x y : Operand) (ho : o.op = .store ty x y)
    (hl : (Instr.storeAt ty (a.eval x) (a.eval y)).run P w = .ok () w') (h : K (a.put o.dst undef) w') : o.wp P a w K Q := by
  unfold Oper.wp execOp
  simp only [ho, Sem.run_bind, hl, Result.andThen_ok, Sem.run_pure]
  exact h
theorem wp_sl1 {y : Int} (x : Operand) (ho : o.op = .buildSlice 33 1 #[(0, x)]) (hx : a.eval x = .int .u8 y) (h : K (a.put o.dst (.slice (some ⟨w.heap.size, 0, none⟩) 1 1)) (w.alloc (.cells #[.int .u8 y] 5))) : o.wp Try.prog a w K Q := by
  obtain ⟨i0, hi, hz0, hz1, hz2⟩ := info_parts infoB
  refine wp_buildSlice 33 5 1 _ ho #[.int .u8 y] i0 (.int .u8 0) Try.underlying33 hi hz0 (by rw [hz1]; omega) (by rw [hz1]; omega) ?_ h
  simp only [List.map_toArray, List.map_cons, List.map_nil, hx, hz1]
  first | kernel_rfl | (simp [Instr.fill]; done)
end
theorem isAggSl (w : World) : (isAgg 33).run Try.prog w = .ok false w := by kernel_rfl
theorem sizeSl (w : World) : (sizeOf 33).run Try.prog w = .ok 1 w := by kernel_rfl
theorem load_sl {g j : Nat} {v : Value} (h : w.cell? ⟨g, j, none⟩ = some v) : (Instr.loadAt 33 (.pointer (some ⟨g, j, none⟩))).run Try.prog w = .ok v w := by
  simp only [Instr.loadAt, Instr.sureAddr, Sem.run_bind, Sem.run_pure, Result.andThen_ok, loadVar, isAggSl, Bool.false_eq_true, if_false]
  have hr := run_load (P := Try.prog) (w := w) ⟨g, j, none⟩ .plain
  rw [h] at hr
  exact hr
theorem store_sl {g j : Nat} {v u : Value} (h : w.cell? ⟨g, j, none⟩ = some u) (hf : w.frozen? ⟨g, j, none⟩ = false) (hv : v.oneCell' = true) : (Instr.storeAt 33 (.pointer (some ⟨g, j, none⟩)) v).run Try.prog w = .ok () (w.setCell ⟨g, j, none⟩ v) := by
  simp only [Instr.storeAt, Instr.sureAddr, Sem.run_bind, Sem.run_pure, Result.andThen_ok, storeVar]
  have hc : v.cells = #[v] := by cases v <;> first | rfl | cases hv
  have ha : (⟨g, j, none⟩ : Addr).add 0 = ⟨g, j, none⟩ := by unfold Addr.add; split <;> simp_all
  have hr := run_store Try.prog w ⟨g, j, none⟩ v .plain hv
  rw [h] at hr
  simp only [hf, Bool.false_eq_true, if_false] at hr
  simp [hc, storeCells, ha]
  exact hr
theorem SL.one {v : Value} {bs : List UInt8} {l : List (Nat × Obj)} (h : SL v bs l) : v.oneCell' = true := by
  rcases h with ⟨rfl, _⟩ | ⟨g, cap, cur, rfl, _⟩ <;> rfl
theorem HS.in2 {l R : List (Nat × Obj)} {x y : Nat × Obj} (h : HS W (x :: y :: (l ++ R)) w) : HS W (l ++ x :: y :: R) w :=
  h.perm (List.perm_middle.trans (List.Perm.cons _ List.perm_middle))
theorem HS.out2 {l R : List (Nat × Obj)} {x y : Nat × Obj} (h : HS W (l ++ x :: y :: R) w) : HS W (y :: (l ++ R)) w :=
  (h.perm (L' := x :: y :: (l ++ R)) ((List.perm_middle.trans (List.Perm.cons _ List.perm_middle)).symm)).tl
theorem HS.swap {R : List (Nat × Obj)} {x y : Nat × Obj} (h : HS W (x :: y :: R) w) : HS W (y :: x :: R) w := h.perm (List.Perm.swap ..)
/-- a variable that holds a pointer to a writer or a reader -/
abbrev bxo (t : TypeId) (b : Nat) : Obj := .cells #[.pointer (some ⟨b, 0, none⟩)] t
theorem HS.bx {q b : Nat} {t : TypeId} (h : HS W L w) (hm : (q, bxo t b) ∈ L) : w.cell? ⟨q, 0, none⟩ = some (.pointer (some ⟨b, 0, none⟩)) := h.cell hm 0
end Go.Proofs.Ytbfnahclkajahaa.C
