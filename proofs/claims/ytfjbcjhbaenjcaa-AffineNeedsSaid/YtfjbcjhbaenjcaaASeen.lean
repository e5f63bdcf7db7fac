/-
  The union of the sources of a rectangle's pixels is what Need says.
-/
import Derived.Test.YtfjbcjhbaenjcaaAGeo
namespace Go.Proofs.Ytfjbcjhbaenjcaa.F
open Go.RowKit

/-- the rectangle that the loops have gathered when they stand at (x, y) -/
structure Seen (a : Af) (r0 r1 r2 r3 : Int) (z : Rc) (y x : Int) : Prop where
  has : ∀ px py, r0 ≤ px → px < r2 → r1 ≤ py → (py < y ∨ (py = y ∧ px < x)) → z.x0 ≤ sx a px py ∧ sx a px py < z.x1 ∧ z.y0 ≤ sy a px py ∧ sy a px py < z.y1
  inn : (z.x0 = 0 ∧ z.y0 = 0 ∧ z.x1 = 0 ∧ z.y1 = 0) ∨ (z.x0 < z.x1 ∧ z.y0 < z.y1 ∧ nd0 a r0 r1 r2 r3 ≤ z.x0 ∧ nd1 a r0 r1 r2 r3 ≤ z.y0 ∧ z.x1 ≤ nd2 a r0 r1 r2 r3 + 1 ∧ z.y1 ≤ nd3 a r0 r1 r2 r3 + 1)
variable {a : Af} {r0 r1 r2 r3 x y : Int} {z : Rc}
theorem Seen.start (a : Af) (r0 r1 r2 r3 : Int) : Seen a r0 r1 r2 r3 ⟨0, 0, 0, 0⟩ r1 r0 :=
  ⟨fun px py h1 h2 h3 h4 => by omega, .inl ⟨rfl, rfl, rfl, rfl⟩⟩
theorem Seen.row (h : Seen a r0 r1 r2 r3 z y r2) : Seen a r0 r1 r2 r3 z (y + 1) r0 :=
  ⟨fun px py h1 h2 h3 h4 => h.has px py h1 h2 h3 (by omega), h.inn⟩
theorem Seen.step (ho : Ok a) (h : Seen a r0 r1 r2 r3 z y x) (hx0 : r0 ≤ x) (hx : x < r2) (hy0 : r1 ≤ y) (hy : y < r3) :
    Seen a r0 r1 r2 r3 (uni z.x0 z.y0 z.x1 z.y1 (sx a x y) (sy a x y) (sx a x y + 1) (sy a x y + 1)) y (x + 1) := by
  have hb := need_btw (r0 := r0) (r1 := r1) (r2 := r2) (r3 := r3) ho hx0 (by omega : x ≤ r2 - 1) hy0 (by omega : y ≤ r3 - 1)
  have hu : emp (sx a x y) (sy a x y) (sx a x y + 1) (sy a x y + 1) = false := (emp_not _ _ _ _).2 ⟨by omega, by omega⟩
  by_cases he : emp z.x0 z.y0 z.x1 z.y1 = true
  · have e : uni z.x0 z.y0 z.x1 z.y1 (sx a x y) (sy a x y) (sx a x y + 1) (sy a x y + 1) = ⟨sx a x y, sy a x y, sx a x y + 1, sy a x y + 1⟩ := by
      unfold uni; rw [if_pos he]; exact nrm_pos ⟨by omega, by omega⟩
    rw [e]
    have he2 := (emp_iff _ _ _ _).1 he
    refine ⟨fun px py h1 h2 h3 h4 => ?_, .inr (by simp only; omega)⟩
    by_cases hp : py < y ∨ (py = y ∧ px < x)
    · have := h.has px py h1 h2 h3 hp; omega
    · obtain rfl : py = y := by omega
      obtain rfl : px = x := by omega
      simp only; omega
  · have hen : emp z.x0 z.y0 z.x1 z.y1 = false := by simpa using he
    have e : uni z.x0 z.y0 z.x1 z.y1 (sx a x y) (sy a x y) (sx a x y + 1) (sy a x y + 1) = ⟨min z.x0 (sx a x y), min z.y0 (sy a x y), max z.x1 (sx a x y + 1), max z.y1 (sy a x y + 1)⟩ := by
      unfold uni; rw [if_neg he, hu]; simp only [Bool.false_eq_true, if_false, mn_eq, mx_eq]
    rw [e]
    have he2 := (emp_not _ _ _ _).1 hen
    have hi := h.inn
    refine ⟨fun px py h1 h2 h3 h4 => ?_, .inr (by simp only; omega)⟩
    by_cases hp : py < y ∨ (py = y ∧ px < x)
    · have := h.has px py h1 h2 h3 hp; simp only; omega
    · obtain rfl : py = y := by omega
      obtain rfl : px = x := by omega
      simp only; omega
theorem Seen.all (h : Seen a r0 r1 r2 r3 z r3 r0) (h0 : r0 < r2) (h1 : r1 < r3) : eqr z.x0 z.y0 z.x1 z.y1 (nd0 a r0 r1 r2 r3) (nd1 a r0 r1 r2 r3) (nd2 a r0 r1 r2 r3 + 1) (nd3 a r0 r1 r2 r3 + 1) = true := by
  have k1 := h.has r0 r1 (by omega) (by omega) (by omega) (by omega)
  have k2 := h.has (r2 - 1) r1 (by omega) (by omega) (by omega) (by omega)
  have k3 := h.has r0 (r3 - 1) (by omega) (by omega) (by omega) (by omega)
  have k4 := h.has (r2 - 1) (r3 - 1) (by omega) (by omega) (by omega) (by omega)
  have hi := h.inn
  rw [eqr_iff]
  left
  unfold nd0 nd1 nd2 nd3 at *
  simp only [mn_eq, mx_eq] at *
  omega
end Go.Proofs.Ytfjbcjhbaenjcaa.F
