/-
  What moveSides and the closures of Scale and Shrink return.
-/
import Derived.Test.YtjadccelplnpnaaPure2
import Derived.Test.YtjadccelplnpnaaNum
import Derived.Test.YtjadccelplnpnaaSt
import Derived.StillTailTactics
import Derived.Deep.QuietTactic
import Derived.BigQuiet
import Derived.Deep.RegionHeld3
import Derived.Deep.Cut
import Derived.Deep.CutBlock
import Derived.Deep.CutRange
namespace Go.Proofs.Ytjadccelplnpnaa
open Go.RowKit

theorem drew_eq (w : World) : ({ heap := w.heap, tape := w.tape, drawn := w.drawn + 1, os := w.os, output := w.output } : World) = w.drew := rfl
theorem quiet_sym {P : Program} {f : FuncId} {args : Array Value} {w : World} {v : Value} (h : Calls P f args w fun e w' => e = .returned v ∧ w = w') : Calls P f args w fun e w' => e = .returned v ∧ w' = w := h.mono fun _ _ ⟨h1, h2⟩ => ⟨h1, h2.symm⟩

theorem mul_any (x k : Int) (bf : Nat) (w : World) (h : w.cell? ⟨bf, 0, none⟩ = some (.int .i64 k)) : Calls Try.prog 56 #[.int .i64 x, .pointer (some ⟨bf, 0, none⟩)] w fun e w' => e = .returned (.int .i64 (wrap64 (x * k))) ∧ w = w' := by
  go_enter Try.func56, Try.ntmps56
  go_wp2
  go_ret
  exact ⟨rfl, rfl⟩
theorem down_any (x k : Int) (bf : Nat) (w : World) (h : w.cell? ⟨bf, 0, none⟩ = some (.int .i64 k)) : Calls Try.prog 58 #[.int .i64 x, .pointer (some ⟨bf, 0, none⟩)] w fun e w' => e = .returned (.int .i64 (flo x k)) ∧ w = w' := by
  go_enter Try.func58, Try.ntmps58
  go_wp2_with (go_at_call 25; (with_reducible refine (floor_any _ _ _).mono ?_); rintro e w' ⟨rfl, rfl⟩)
  go_ret
  exact ⟨rfl, rfl⟩
theorem up_any (x k : Int) (bf : Nat) (w : World) (h : w.cell? ⟨bf, 0, none⟩ = some (.int .i64 k)) : Calls Try.prog 59 #[.int .i64 x, .pointer (some ⟨bf, 0, none⟩)] w fun e w' => e = .returned (.int .i64 (cei x k)) ∧ w = w' := by
  go_enter Try.func59, Try.ntmps59
  go_wp2_with (go_at_call 26; (with_reducible refine (ceil_any _ _ _).mono ?_); rintro e w' ⟨rfl, rfl⟩)
  go_ret
  exact ⟨rfl, rfl⟩

set_option maxHeartbeats 1000000 in
theorem moveScale (a0 a1 a2 a3 k : Int) (bf : Nat) (w : World) (hb : bf < w.heap.size) (h : w.cell? ⟨bf, 0, none⟩ = some (.int .i64 k)) :
    Calls Try.prog 57 #[rv a0 a1 a2 a3, .func (.func 56) #[] #[.pointer (some ⟨bf, 0, none⟩)], .func (.func 56) #[] #[.pointer (some ⟨bf, 0, none⟩)]] w fun e w' =>
      e = .returned (rv (wrap64 (a0 * k)) (wrap64 (a1 * k)) (wrap64 (a2 * k)) (wrap64 (a3 * k))) ∧ Below w.heap.size w w' := by
  go_enter Try.func57, Try.ntmps57
  go_upto_region 1 with fail
  have hs := ((St.start w).alloc (ro a0 a1 a2 a3)).alloc (ro 0 0 0 0)
  have HC : Hid (∀ V, St w [((w.alloc (ro a0 a1 a2 a3)).heap.size, ro 0 0 0 0), (w.heap.size, ro a0 a1 a2 a3)] V → V.cell? ⟨bf, 0, none⟩ = some (.int .i64 k) ∧ RB V w.heap.size a0 a1 a2 a3 ∧ RB V (w.heap.size + 1) 0 0 0 0 ∧ ∀ j, V.frozen? ⟨w.heap.size + 1, j, none⟩ = false) := fun V hV =>
    ⟨by rw [← h]; exact hV.below.cell (p := ⟨bf, 0, none⟩) hb, hV.rect (by simp), hV.rect (by simp), hV.frozen (b := w.heap.size + 1) (cs := #[.int .i64 0, .int .i64 0, .int .i64 0, .int .i64 0]) (t := 23) (by simp)⟩
  rw [World.size_alloc] at hs HC
  generalize (w.alloc (ro a0 a1 a2 a3)).alloc (ro 0 0 0 0) = w1 at hs ⊢
  clear h
  have hd := hs.drew
  refine wp_region_still_tail 17 (by kernel_rfl) (by kernel_rfl) ?_
  rw [drew_eq w1]
  generalize w1.drew = w2 at hd ⊢
  simp only [List.take_succ_cons, List.take_zero, List.drop_succ_cons, List.drop_zero]
  obtain ⟨hc1, hr1, hr2, hf1⟩ := HC.out _ hd
  iterate 3 still_step
  still_call (quiet_sym (mul_any _ _ _ _ hc1))
  iterate 3 still_step
  still_call (quiet_sym (mul_any _ _ _ _ hc1))
  iterate 3 still_step
  still_call (quiet_sym (mul_any _ _ _ _ hc1))
  iterate 3 still_step
  still_call (quiet_sym (mul_any _ _ _ _ hc1))
  still_step
  refine wpStill_nil ?_
  go_wp2
  exact bodyPost_ret (v := rv (wrap64 (a0 * k)) (wrap64 (a1 * k)) (wrap64 (a2 * k)) (wrap64 (a3 * k))) (by simp [results, Try.results57, go_sem, *]) rfl ⟨rfl, below_set4 hd.below (by omega) _ _ _ _⟩

set_option maxHeartbeats 1000000 in
theorem moveShrink (a0 a1 a2 a3 k : Int) (bf : Nat) (w : World) (hb : bf < w.heap.size) (h : w.cell? ⟨bf, 0, none⟩ = some (.int .i64 k)) :
    Calls Try.prog 57 #[rv a0 a1 a2 a3, .func (.func 58) #[] #[.pointer (some ⟨bf, 0, none⟩)], .func (.func 59) #[] #[.pointer (some ⟨bf, 0, none⟩)]] w fun e w' =>
      e = .returned (rv (flo a0 k) (flo a1 k) (cei a2 k) (cei a3 k)) ∧ Below w.heap.size w w' := by
  go_enter Try.func57, Try.ntmps57
  go_upto_region 1 with fail
  have hs := ((St.start w).alloc (ro a0 a1 a2 a3)).alloc (ro 0 0 0 0)
  have HC : Hid (∀ V, St w [((w.alloc (ro a0 a1 a2 a3)).heap.size, ro 0 0 0 0), (w.heap.size, ro a0 a1 a2 a3)] V → V.cell? ⟨bf, 0, none⟩ = some (.int .i64 k) ∧ RB V w.heap.size a0 a1 a2 a3 ∧ RB V (w.heap.size + 1) 0 0 0 0 ∧ ∀ j, V.frozen? ⟨w.heap.size + 1, j, none⟩ = false) := fun V hV =>
    ⟨by rw [← h]; exact hV.below.cell (p := ⟨bf, 0, none⟩) hb, hV.rect (by simp), hV.rect (by simp), hV.frozen (b := w.heap.size + 1) (cs := #[.int .i64 0, .int .i64 0, .int .i64 0, .int .i64 0]) (t := 23) (by simp)⟩
  rw [World.size_alloc] at hs HC
  generalize (w.alloc (ro a0 a1 a2 a3)).alloc (ro 0 0 0 0) = w1 at hs ⊢
  clear h
  have hd := hs.drew
  refine wp_region_still_tail 17 (by kernel_rfl) (by kernel_rfl) ?_
  rw [drew_eq w1]
  generalize w1.drew = w2 at hd ⊢
  simp only [List.take_succ_cons, List.take_zero, List.drop_succ_cons, List.drop_zero]
  obtain ⟨hc1, hr1, hr2, hf1⟩ := HC.out _ hd
  iterate 3 still_step
  still_call (quiet_sym (down_any _ _ _ _ hc1))
  iterate 3 still_step
  still_call (quiet_sym (down_any _ _ _ _ hc1))
  iterate 3 still_step
  still_call (quiet_sym (up_any _ _ _ _ hc1))
  iterate 3 still_step
  still_call (quiet_sym (up_any _ _ _ _ hc1))
  still_step
  refine wpStill_nil ?_
  go_wp2
  exact bodyPost_ret (v := rv (flo a0 k) (flo a1 k) (cei a2 k) (cei a3 k)) (by simp [results, Try.results57, go_sem, *]) rfl ⟨rfl, below_set4 hd.below (by omega) _ _ _ _⟩


/-- 2 to the power z -/
def pw (z : Int) : Int := wrap64 (2 ^ z.toNat)
theorem zok_bd {z : Int} (h : zok z = true) : 0 ≤ z ∧ z ≤ 4 := by simpa [zok] using h
theorem zok_cases {z : Int} (h : zok z = true) : z = 0 ∨ z = 1 ∨ z = 2 ∨ z = 3 ∨ z = 4 := by have := zok_bd h; omega
theorem pw_bd {z : Int} (h : zok z = true) : 1 ≤ pw z ∧ pw z ≤ 16 := by
  unfold pw wrap64
  rcases zok_cases h with rfl | rfl | rfl | rfl | rfl <;> decide
def scl (a0 a1 a2 a3 z : Int) : Rc := if emp a0 a1 a2 a3 || !zok z then ⟨0, 0, 0, 0⟩ else ⟨wrap64 (a0 * pw z), wrap64 (a1 * pw z), wrap64 (a2 * pw z), wrap64 (a3 * pw z)⟩
def shk (a0 a1 a2 a3 z : Int) : Rc := if emp a0 a1 a2 a3 || !zok z then ⟨0, 0, 0, 0⟩ else ⟨flo a0 (pw z), flo a1 (pw z), cei a2 (pw z), cei a3 (pw z)⟩
end Go.Proofs.Ytjadccelplnpnaa
