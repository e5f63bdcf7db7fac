/-
  Plain facts on growing and moving a small rectangle.
-/
import Derived.Test.YtjadccelplnpnaaMath
namespace Go.Proofs.Ytjadccelplnpnaa
open Go.RowKit
theorem emp_nrm (a b c d : Int) : emp (nrm a b c d).x0 (nrm a b c d).y0 (nrm a b c d).x1 (nrm a b c d).y1 = emp a b c d := by
  by_cases h : a < c ∧ b < d
  · rw [nrm_pos h]
  · have h2 : c ≤ a ∨ d ≤ b := by omega
    rw [nrm_zero h2, (emp_iff a b c d).2 h2]; rfl
theorem gro_sm {r : Rc} (hr : Sm r) {k : Int} (h0 : 0 ≤ k) (h1 : k ≤ 9) :
    ((r.x1 ≤ r.x0 ∨ r.y1 ≤ r.y0) ∧ gro r.x0 r.y0 r.x1 r.y1 k = ⟨0, 0, 0, 0⟩) ∨
    ((r.x0 < r.x1 ∧ r.y0 < r.y1) ∧ gro r.x0 r.y0 r.x1 r.y1 k = ⟨r.x0 - k, r.y0 - k, r.x1 + k, r.y1 + k⟩) := by
  obtain ⟨⟨r1, r2⟩, ⟨r3, r4⟩, ⟨r5, r6⟩, ⟨r7, r8⟩⟩ := hr
  unfold gro
  by_cases h : r.x1 ≤ r.x0 ∨ r.y1 ≤ r.y0
  · left; rw [(emp_iff _ _ _ _).2 h]; exact ⟨h, rfl⟩
  · right
    have h2 : r.x0 < r.x1 ∧ r.y0 < r.y1 := by omega
    rw [(emp_not _ _ _ _).2 h2, wrap_small (by omega) (by omega), wrap_small (by omega) (by omega), wrap_small (by omega) (by omega), wrap_small (by omega) (by omega)]
    refine ⟨h2, ?_⟩
    show nrm _ _ _ _ = _
    rw [nrm_pos (by omega)]
theorem mov_sm {r : Rc} (hr : Sm r) {x y : Int} (h0 : -100 < x ∧ x < 100) (h1 : -100 < y ∧ y < 100) :
    ((r.x1 ≤ r.x0 ∨ r.y1 ≤ r.y0) ∧ mov r.x0 r.y0 r.x1 r.y1 x y = ⟨0, 0, 0, 0⟩) ∨
    ((r.x0 < r.x1 ∧ r.y0 < r.y1) ∧ mov r.x0 r.y0 r.x1 r.y1 x y = ⟨r.x0 + x, r.y0 + y, r.x1 + x, r.y1 + y⟩) := by
  obtain ⟨⟨r1, r2⟩, ⟨r3, r4⟩, ⟨r5, r6⟩, ⟨r7, r8⟩⟩ := hr
  unfold mov
  by_cases h : r.x1 ≤ r.x0 ∨ r.y1 ≤ r.y0
  · left; rw [(emp_iff _ _ _ _).2 h]; exact ⟨h, rfl⟩
  · right
    have h2 : r.x0 < r.x1 ∧ r.y0 < r.y1 := by omega
    rw [(emp_not _ _ _ _).2 h2, wrap_small (by omega) (by omega), wrap_small (by omega) (by omega), wrap_small (by omega) (by omega), wrap_small (by omega) (by omega)]
    refine ⟨h2, ?_⟩
    show nrm _ _ _ _ = _
    rw [nrm_pos (by omega)]
theorem grows_has {r : Rc} (hr : Sm r) {k : Int} (h0 : 0 ≤ k) (h1 : k ≤ 9) (x y : Int) :
    emp (nrm (mx r.x0 (x - k)) (mx r.y0 (y - k)) (mn r.x1 (x + k + 1)) (mn r.y1 (y + k + 1))).x0 (nrm (mx r.x0 (x - k)) (mx r.y0 (y - k)) (mn r.x1 (x + k + 1)) (mn r.y1 (y + k + 1))).y0
      (nrm (mx r.x0 (x - k)) (mx r.y0 (y - k)) (mn r.x1 (x + k + 1)) (mn r.y1 (y + k + 1))).x1 (nrm (mx r.x0 (x - k)) (mx r.y0 (y - k)) (mn r.x1 (x + k + 1)) (mn r.y1 (y + k + 1))).y1 =
    !has (gro r.x0 r.y0 r.x1 r.y1 k).x0 (gro r.x0 r.y0 r.x1 r.y1 k).y0 (gro r.x0 r.y0 r.x1 r.y1 k).x1 (gro r.x0 r.y0 r.x1 r.y1 k).y1 x y := by
  rw [emp_nrm]
  simp only [mx_eq, mn_eq]
  cases hh : has (gro r.x0 r.y0 r.x1 r.y1 k).x0 (gro r.x0 r.y0 r.x1 r.y1 k).y0 (gro r.x0 r.y0 r.x1 r.y1 k).x1 (gro r.x0 r.y0 r.x1 r.y1 k).y1 x y
  · show _ = true
    rw [emp_iff]
    have hn : ¬ (has (gro r.x0 r.y0 r.x1 r.y1 k).x0 (gro r.x0 r.y0 r.x1 r.y1 k).y0 (gro r.x0 r.y0 r.x1 r.y1 k).x1 (gro r.x0 r.y0 r.x1 r.y1 k).y1 x y = true) := by rw [hh]; decide
    rw [has_iff] at hn
    rcases gro_sm hr h0 h1 with ⟨h2, e⟩ | ⟨h2, e⟩ <;> rw [e] at hn <;> simp only at hn <;> omega
  · show _ = false
    rw [emp_not]
    rw [has_iff] at hh
    rcases gro_sm hr h0 h1 with ⟨h2, e⟩ | ⟨h2, e⟩ <;> rw [e] at hh <;> simp only at hh <;> omega
theorem grows_back {r : Rc} (hr : Sm r) {k : Int} (h0 : 0 ≤ k) (h1 : k ≤ 9) :
    eqr (gro (gro r.x0 r.y0 r.x1 r.y1 k).x0 (gro r.x0 r.y0 r.x1 r.y1 k).y0 (gro r.x0 r.y0 r.x1 r.y1 k).x1 (gro r.x0 r.y0 r.x1 r.y1 k).y1 (-k)).x0
      (gro (gro r.x0 r.y0 r.x1 r.y1 k).x0 (gro r.x0 r.y0 r.x1 r.y1 k).y0 (gro r.x0 r.y0 r.x1 r.y1 k).x1 (gro r.x0 r.y0 r.x1 r.y1 k).y1 (-k)).y0
      (gro (gro r.x0 r.y0 r.x1 r.y1 k).x0 (gro r.x0 r.y0 r.x1 r.y1 k).y0 (gro r.x0 r.y0 r.x1 r.y1 k).x1 (gro r.x0 r.y0 r.x1 r.y1 k).y1 (-k)).x1
      (gro (gro r.x0 r.y0 r.x1 r.y1 k).x0 (gro r.x0 r.y0 r.x1 r.y1 k).y0 (gro r.x0 r.y0 r.x1 r.y1 k).x1 (gro r.x0 r.y0 r.x1 r.y1 k).y1 (-k)).y1 r.x0 r.y0 r.x1 r.y1 = true := by
  rw [eqr_iff]
  rcases gro_sm hr h0 h1 with ⟨h2, e⟩ | ⟨h2, e⟩ <;> rw [e]
  · have : gro 0 0 0 0 (-k) = ⟨0, 0, 0, 0⟩ := by unfold gro; rfl
    rw [this]; right; exact ⟨by simp, h2⟩
  · obtain ⟨⟨r1, r2⟩, ⟨r3, r4⟩, ⟨r5, r6⟩, ⟨r7, r8⟩⟩ := hr
    have : gro (r.x0 - k) (r.y0 - k) (r.x1 + k) (r.y1 + k) (-k) = ⟨r.x0, r.y0, r.x1, r.y1⟩ := by
      unfold gro
      rw [(emp_not _ _ _ _).2 (by omega), wrap_small (by omega) (by omega), wrap_small (by omega) (by omega), wrap_small (by omega) (by omega), wrap_small (by omega) (by omega)]
      show nrm _ _ _ _ = _
      rw [nrm_pos (by omega)]
      congr 1 <;> omega
    rw [this]; left; exact ⟨rfl, rfl, rfl, rfl⟩
theorem moves_has {r : Rc} (hr : Sm r) {a b : Int} (h0 : -100 < a ∧ a < 100) (h1 : -100 < b ∧ b < 100) (x y : Int) :
    has (mov r.x0 r.y0 r.x1 r.y1 a b).x0 (mov r.x0 r.y0 r.x1 r.y1 a b).y0 (mov r.x0 r.y0 r.x1 r.y1 a b).x1 (mov r.x0 r.y0 r.x1 r.y1 a b).y1 (x + a) (y + b) = has r.x0 r.y0 r.x1 r.y1 x y := by
  rw [Bool.eq_iff_iff, has_iff, has_iff]
  rcases mov_sm hr h0 h1 with ⟨h2, e⟩ | ⟨h2, e⟩ <;> rw [e] <;> simp only <;> omega
theorem moves_area {r : Rc} (hr : Sm r) {a b : Int} (h0 : -100 < a ∧ a < 100) (h1 : -100 < b ∧ b < 100) :
    area (mov r.x0 r.y0 r.x1 r.y1 a b).x0 (mov r.x0 r.y0 r.x1 r.y1 a b).y0 (mov r.x0 r.y0 r.x1 r.y1 a b).x1 (mov r.x0 r.y0 r.x1 r.y1 a b).y1 = area r.x0 r.y0 r.x1 r.y1 := by
  unfold area
  rcases mov_sm hr h0 h1 with ⟨h2, e⟩ | ⟨h2, e⟩ <;> rw [e]
  · rw [(emp_iff _ _ _ _).2 h2]; rfl
  · rw [(emp_not _ _ _ _).2 h2]
    show (if emp (r.x0 + a) (r.y0 + b) (r.x1 + a) (r.y1 + b) = true then _ else _) = _
    rw [(emp_not _ _ _ _).2 (by omega)]
    have h3 : r.x1 + a - (r.x0 + a) = r.x1 - r.x0 := by omega
    have h4 : r.y1 + b - (r.y0 + b) = r.y1 - r.y0 := by omega
    show wrap64 (wrap64 (r.x1 + a - (r.x0 + a)) * wrap64 (r.y1 + b - (r.y0 + b))) = _
    rw [h3, h4]; rfl
end Go.Proofs.Ytjadccelplnpnaa
