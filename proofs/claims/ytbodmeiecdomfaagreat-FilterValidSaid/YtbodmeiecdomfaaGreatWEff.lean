/-
  The table of effects.
-/
import Derived.Test.YtbodmeiecdomfaaGreatWThr
namespace Go.Proofs.YtbodmeiecdomfaaGreat.W
open Go.RowKit Go.Shelf
set_option maxRecDepth 100000
variable {W w w' : World} {L : List (Nat × Obj)}

theorem run_store_func {P : Program} {a : Addr} {m : Mode} (f : Fn) (t c : Array Value) : (store a (.func f t c) m).run P w = stored P w a (.func f t c) m := run_store P w a _ m rfl
theorem run_store_nilFunc {P : Program} {a : Addr} {m : Mode} : (store a .nilFunc m).run P w = stored P w a .nilFunc m := run_store P w a _ m rfl
attribute [local go_sem] run_store_func run_store_nilFunc
set_option maxHeartbeats 4000000 in
theorem effects_any (w : World) : Calls Tryz.prog 27 #[] w fun e w' => e = .returned efs ∧ Below w.heap.size w w' := by
  go_enter Tryz.func27, Tryz.ntmps27
  go_upto_region 1 with fail
  have hb1 : Below w.heap.size w (w.alloc (.cells #[.nilFunc, .nilFunc, .nilFunc, .nilFunc, .nilFunc, .nilFunc, .nilFunc, .nilFunc, .nilFunc] 58)) := below1
  have hr1 := World.alloc_heap_new w (.cells #[.nilFunc, .nilFunc, .nilFunc, .nilFunc, .nilFunc, .nilFunc, .nilFunc, .nilFunc, .nilFunc] 58)
  generalize w.alloc (.cells #[.nilFunc, .nilFunc, .nilFunc, .nilFunc, .nilFunc, .nilFunc, .nilFunc, .nilFunc, .nilFunc] 58) = W1 at hb1 hr1 ⊢
  obtain ⟨c0, c1, c2, c3, c4, c5, c6, c7, c8⟩ : W1.cell? ⟨w.heap.size, 0, none⟩ = some .nilFunc ∧ W1.cell? ⟨w.heap.size, 1, none⟩ = some .nilFunc ∧ W1.cell? ⟨w.heap.size, 2, none⟩ = some .nilFunc ∧ W1.cell? ⟨w.heap.size, 3, none⟩ = some .nilFunc ∧ W1.cell? ⟨w.heap.size, 4, none⟩ = some .nilFunc ∧ W1.cell? ⟨w.heap.size, 5, none⟩ = some .nilFunc ∧ W1.cell? ⟨w.heap.size, 6, none⟩ = some .nilFunc ∧ W1.cell? ⟨w.heap.size, 7, none⟩ = some .nilFunc ∧ W1.cell? ⟨w.heap.size, 8, none⟩ = some .nilFunc :=
    ⟨cell_of_row _ _ 0 _ _ _ hr1, cell_of_row _ _ 1 _ _ _ hr1, cell_of_row _ _ 2 _ _ _ hr1, cell_of_row _ _ 3 _ _ _ hr1, cell_of_row _ _ 4 _ _ _ hr1, cell_of_row _ _ 5 _ _ _ hr1, cell_of_row _ _ 6 _ _ _ hr1, cell_of_row _ _ 7 _ _ _ hr1, cell_of_row _ _ 8 _ _ _ hr1⟩
  have hf := fun j => frozen_of_row _ _ j _ _ hr1
  have HR := Lib.hid hr1; clear hr1
  go_wp2
  have hrow : (((((((((W1.setCell ⟨w.heap.size, 0, none⟩ (.nilFunc)).setCell ⟨w.heap.size, 1, none⟩ (fnv 44)).setCell ⟨w.heap.size, 2, none⟩ (fnv 45)).setCell ⟨w.heap.size, 3, none⟩ (fnv 46)).setCell ⟨w.heap.size, 4, none⟩ (fnv 47)).setCell ⟨w.heap.size, 5, none⟩ (fnv 48)).setCell ⟨w.heap.size, 6, none⟩ (fnv 49)).setCell ⟨w.heap.size, 7, none⟩ (fnv 50)).setCell ⟨w.heap.size, 8, none⟩ (fnv 51)).heap[w.heap.size]? = some (.cells #[.nilFunc, fnv 44, fnv 45, fnv 46, fnv 47, fnv 48, fnv 49, fnv 50, fnv 51] 58) := by
    rw [set_row (set_row (set_row (set_row (set_row (set_row (set_row (set_row (set_row HR.out))))))))]
    simp
  have hmv : Mv [w.heap.size] W1 (((((((((W1.setCell ⟨w.heap.size, 0, none⟩ (.nilFunc)).setCell ⟨w.heap.size, 1, none⟩ (fnv 44)).setCell ⟨w.heap.size, 2, none⟩ (fnv 45)).setCell ⟨w.heap.size, 3, none⟩ (fnv 46)).setCell ⟨w.heap.size, 4, none⟩ (fnv 47)).setCell ⟨w.heap.size, 5, none⟩ (fnv 48)).setCell ⟨w.heap.size, 6, none⟩ (fnv 49)).setCell ⟨w.heap.size, 7, none⟩ (fnv 50)).setCell ⟨w.heap.size, 8, none⟩ (fnv 51)) := (((((((((Mv.set (by simp)).trans (Mv.set (by simp))).trans (Mv.set (by simp))).trans (Mv.set (by simp))).trans (Mv.set (by simp))).trans (Mv.set (by simp))).trans (Mv.set (by simp))).trans (Mv.set (by simp))).trans (Mv.set (by simp)))
  have hbb := hb1.trans (hmv.below (B := w.heap.size) (by simp) hb1.size)
  clear hmv
  generalize (((((((((W1.setCell ⟨w.heap.size, 0, none⟩ (.nilFunc)).setCell ⟨w.heap.size, 1, none⟩ (fnv 44)).setCell ⟨w.heap.size, 2, none⟩ (fnv 45)).setCell ⟨w.heap.size, 3, none⟩ (fnv 46)).setCell ⟨w.heap.size, 4, none⟩ (fnv 47)).setCell ⟨w.heap.size, 5, none⟩ (fnv 48)).setCell ⟨w.heap.size, 6, none⟩ (fnv 49)).setCell ⟨w.heap.size, 7, none⟩ (fnv 50)).setCell ⟨w.heap.size, 8, none⟩ (fnv 51)) = W2 at hrow hbb ⊢
  obtain ⟨d0, d1, d2, d3, d4, d5, d6, d7, d8⟩ : W2.cell? ⟨w.heap.size, 0, none⟩ = some (.nilFunc) ∧ W2.cell? ⟨w.heap.size, 1, none⟩ = some (fnv 44) ∧ W2.cell? ⟨w.heap.size, 2, none⟩ = some (fnv 45) ∧ W2.cell? ⟨w.heap.size, 3, none⟩ = some (fnv 46) ∧ W2.cell? ⟨w.heap.size, 4, none⟩ = some (fnv 47) ∧ W2.cell? ⟨w.heap.size, 5, none⟩ = some (fnv 48) ∧ W2.cell? ⟨w.heap.size, 6, none⟩ = some (fnv 49) ∧ W2.cell? ⟨w.heap.size, 7, none⟩ = some (fnv 50) ∧ W2.cell? ⟨w.heap.size, 8, none⟩ = some (fnv 51) :=
    ⟨cell_of_row _ _ 0 _ _ _ hrow, cell_of_row _ _ 1 _ _ _ hrow, cell_of_row _ _ 2 _ _ _ hrow, cell_of_row _ _ 3 _ _ _ hrow, cell_of_row _ _ 4 _ _ _ hrow, cell_of_row _ _ 5 _ _ _ hrow, cell_of_row _ _ 6 _ _ _ hrow, cell_of_row _ _ 7 _ _ _ hrow, cell_of_row _ _ 8 _ _ _ hrow⟩
  exact bodyPost_ret (v := efs) (by simp [results, Tryz.results27, go_sem, *]) rfl ⟨rfl, hbb⟩
end Go.Proofs.YtbodmeiecdomfaaGreat.W
