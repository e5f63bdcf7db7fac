/-
  The statements' common test 'sanity' (the chapter's examples) returns true.
-/
import Derived.Test.YtjadccelplnpnaaTiles
import Derived.Test.YtjadccelplnpnaaRefMinus
namespace Go.Proofs.Ytjadccelplnpnaa
open Go.RowKit

theorem sane_minus (w : World) : Calls Try.prog 30 #[rv 0 0 4 4, rv 1 1 3 3] w fun e w' => ∃ v, e = .returned v ∧ RcsAt w' v [⟨0, 0, 4, 1⟩, ⟨0, 3, 4, 4⟩, ⟨0, 1, 1, 3⟩, ⟨3, 1, 4, 3⟩] ∧ Below w.heap.size w w' := by
  refine (minus_any 0 0 4 4 1 1 3 3 w).mono fun e w' ⟨v, h1, h2, h3⟩ => ⟨v, h1, ?_, h3⟩
  have e : minus ⟨0, 0, 4, 4⟩ ⟨1, 1, 3, 3⟩ = [⟨0, 0, 4, 1⟩, ⟨0, 3, 4, 4⟩, ⟨0, 1, 1, 3⟩, ⟨3, 1, 4, 3⟩] := rfl
  rw [e] at h2
  exact rcsAt_of_owns h2 (by simp)

/-- the slice v holds three positions -/
def Three (w : World) (v : Value) : Prop := ∃ g c, v = .slice (some ⟨g, 0, none⟩) 3 c ∧ w.cell? ⟨g, 0, none⟩ = some (.int .i64 (-1)) ∧ w.cell? ⟨g, 1, none⟩ = some (.int .i64 0) ∧ w.cell? ⟨g, 2, none⟩ = some (.int .i64 0) ∧ w.cell? ⟨g, 3, none⟩ = some (.int .i64 0) ∧ w.cell? ⟨g, 4, none⟩ = some (.int .i64 1) ∧ w.cell? ⟨g, 5, none⟩ = some (.int .i64 0)
theorem sane_list : (tiles (-1) 0 9 8).take 9 = [(-1, 0), (0, 0), (1, 0)] := by decide +kernel
theorem sane_tiles (w : World) : Calls Try.prog 37 #[rv (-1) 0 9 8, .int .i64 9] w fun e w' => ∃ v, e = .returned v ∧ Three w' v ∧ Below w.heap.size w w' := by
  refine (tiles_any (-1) 0 9 8 9 w (by omega) (by omega) (by omega) (by omega) (by omega)).mono fun e w' ⟨v, h1, h2, h3⟩ => ⟨v, h1, ?_, h3⟩
  rw [sane_list] at h2
  obtain ⟨_, ⟨_, h0⟩ | ⟨g, cap, cur, rfl, _, hgb, _, _, hsz, htk⟩⟩ := h2
  · simp at h0
  · have hc : ∀ j, j < 6 → w'.cell? ⟨g, j, none⟩ = (tcs [(-1, 0), (0, 0), (1, 0)])[j]? := fun j hj => by
      rw [cell_of_row _ _ _ _ _ _ hgb, ← htk, List.getElem?_take, if_pos (by simpa using hj)]; simp
    exact ⟨g, cap, rfl, hc 0 (by omega), hc 1 (by omega), hc 2 (by omega), hc 3 (by omega), hc 4 (by omega), hc 5 (by omega)⟩
theorem sane_shrink (w : World) : Calls Try.prog 18 #[rv (-3) 0 5 4, .int .i64 1] w fun e w' => e = .returned (rv (-2) 0 3 2) ∧ Below w.heap.size w w' := by
  have h := shrink_any (-3) 0 5 4 1 w
  have e : (shk (-3) 0 5 4 1).v = rv (-2) 0 3 2 := by
    have e1 : (shk (-3) 0 5 4 1).x0 = -2 := by decide +kernel
    have e2 : (shk (-3) 0 5 4 1).y0 = 0 := by decide +kernel
    have e3 : (shk (-3) 0 5 4 1).x1 = 3 := by decide +kernel
    have e4 : (shk (-3) 0 5 4 1).y1 = 2 := by decide +kernel
    unfold Rc.v; rw [e1, e2, e3, e4]
  rw [e] at h; exact h
theorem sane_floor (w : World) : Calls Try.prog 25 #[.int .i64 (-7), .int .i64 2] w fun e w' => e = .returned (.int .i64 (-4)) ∧ w = w' := by
  have h := floor_any (-7) 2 w
  rw [show flo (-7) 2 = -4 by decide +kernel] at h; exact h
theorem sane_ceil (w : World) : Calls Try.prog 26 #[.int .i64 (-7), .int .i64 2] w fun e w' => e = .returned (.int .i64 (-3)) ∧ w = w' := by
  have h := ceil_any (-7) 2 w
  rw [show cei (-7) 2 = -3 by decide +kernel] at h; exact h

theorem sane_same (w : World) (v : Value) (h : RcsAt w v [⟨0, 0, 4, 1⟩, ⟨0, 3, 4, 4⟩, ⟨0, 1, 1, 3⟩, ⟨3, 1, 4, 3⟩]) : Calls Try.prog 42 #[v, .slice (some ⟨w.heap.size, 0, none⟩) 4 4]
    (w.alloc (.cells #[.int .i64 0, .int .i64 0, .int .i64 4, .int .i64 1, .int .i64 0, .int .i64 3, .int .i64 4, .int .i64 4, .int .i64 0, .int .i64 1, .int .i64 1, .int .i64 3, .int .i64 3, .int .i64 1, .int .i64 4, .int .i64 3] 23)) fun e w' => e = .returned (.bool true) ∧ Below w.heap.size w w' := by
  refine (same_yes v _ [⟨0, 0, 4, 1⟩, ⟨0, 3, 4, 4⟩, ⟨0, 1, 1, 3⟩, ⟨3, 1, 4, 3⟩] _ (h.later below1) (rcsAt_block [⟨0, 0, 4, 1⟩, ⟨0, 3, 4, 4⟩, ⟨0, 1, 1, 3⟩, ⟨3, 1, 4, 3⟩] (World.alloc_heap_new _ _) rfl rfl (by simp))).mono fun e w' ⟨h1, h2⟩ => ⟨h1, below1.trans (h2.mono (by simp))⟩

set_option maxHeartbeats 4000000 in
set_option maxRecDepth 100000 in
theorem sane_any (w : World) : Calls Try.prog 13 #[] w fun e w' => e = .returned (.bool true) ∧ Below w.heap.size w w' := by
  go_enter Try.func13, Try.ntmps13
  go_upto_region 2 with (go_at_call 30; (with_reducible refine (sane_minus _).mono ?_); rintro e w1 ⟨v1, rfl, hv1, h1⟩)
  go_upto_region 3 with (go_at_call 42; (with_reducible refine (sane_same _ _ hv1).mono ?_); rintro e w2 ⟨rfl, h2⟩)
  have hB2 := h1.trans (h2.mono h1.size)
  clear hv1 h1 h2
  go_upto_region 4 with (go_at_call 37; (with_reducible refine (sane_tiles _).mono ?_); rintro e w3 ⟨v3, rfl, hv3, h3⟩)
  have hB3 := hB2.trans (h3.mono hB2.size)
  obtain ⟨g, c, rfl, c0, c1, c2, c3, c4, c5⟩ := hv3
  clear hB2 h3
  go_upto_region 5 with fail
  clear c0 c1 c2 c3 c4 c5
  go_wp2_with (first
    | (go_at_call 18; (with_reducible refine (sane_shrink _).mono ?_); rintro e w4 ⟨rfl, h4⟩)
    | (go_at_call 25; (with_reducible refine (sane_floor _).mono ?_); rintro e w5 ⟨rfl, rfl⟩)
    | (go_at_call 26; (with_reducible refine (sane_ceil _).mono ?_); rintro e w5 ⟨rfl, rfl⟩))
  go_ret
  exact ⟨rfl, hB3.trans (h4.mono hB3.size)⟩
end Go.Proofs.Ytjadccelplnpnaa
