/-
  Local of the program and of the reference agree; the bounds of a valid filter; what both areas say of places near the origin.
-/
import Derived.Test.YtbodmeiecdomfaaGreatWAreas
namespace Go.Proofs.YtbodmeiecdomfaaGreat.W
open Go.RowKit
set_option maxRecDepth 100000

theorem vf_off {r d v : Int} {ks cs : List Int} (h : vf 8 r ks d v cs = true) : (-3 ≤ r ∧ r ≤ 3) ∧ (-3 ≤ v ∧ v ≤ 3) := by
  simp [vf, wi] at h; omega
theorem vf_rad {k r d v : Int} {ks cs : List Int} (h : vf k r ks d v cs = true) (h8 : k ≠ 8) : 0 ≤ r ∧ r ≤ 3 := by
  cases hw : win k
  · have := vf_zero h hw h8; omega
  · have hk : 1 ≤ k ∧ k ≤ 4 := by simpa [win] using hw
    rcases (by omega : k = 1 ∨ k = 2 ∨ k = 3 ∨ k = 4) with rfl | rfl | rfl | rfl
    all_goals simp [vf, wi] at h
    all_goals omega
/-- the two areas of a place of one pixel near the origin -/
theorem mov_one {x y a b : Int} (hx : -1000 ≤ x ∧ x ≤ 1000) (hy : -1000 ≤ y ∧ y ≤ 1000) (ha : -1000 ≤ a ∧ a ≤ 1000) (hb : -1000 ≤ b ∧ b ≤ 1000) : R.mov x y (x + 1) (y + 1) a b = ⟨x + a, y + b, x + 1 + a, y + 1 + b⟩ := by
  have h1 : R.emp x y (x + 1) (y + 1) = false := by simp [R.emp]; omega
  have h2 : R.emp (x + a) (y + b) (x + 1 + a) (y + 1 + b) = false := by simp [R.emp]; omega
  simp only [R.mov, R.nrm, h1, wrap_in (x := x + a) (by omega), wrap_in (x := y + b) (by omega), wrap_in (x := x + 1 + a) (by omega), wrap_in (x := y + 1 + b) (by omega), h2, Bool.false_eq_true, if_false]
theorem gro_one {x y n : Int} (hx : -1000 ≤ x ∧ x ≤ 1000) (hy : -1000 ≤ y ∧ y ≤ 1000) (hn : 0 ≤ n ∧ n ≤ 1000) : R.gro x y (x + 1) (y + 1) n = ⟨x - n, y - n, x + 1 + n, y + 1 + n⟩ := by
  have h1 : R.emp x y (x + 1) (y + 1) = false := by simp [R.emp]; omega
  have h2 : R.emp (x - n) (y - n) (x + 1 + n) (y + 1 + n) = false := by simp [R.emp]; omega
  simp only [R.gro, R.nrm, h1, wrap_in (x := x - n) (by omega), wrap_in (x := y - n) (by omega), wrap_in (x := x + 1 + n) (by omega), wrap_in (x := y + 1 + n) (by omega), h2, Bool.false_eq_true, if_false]
theorem lcl_eq {k r d v : Int} {ks cs : List Int} : isOne (rch (-1) (vf k r ks d v cs) k r v 0 0 1 1) = lcl (vf k r ks d v cs) k r v := by
  cases hb : vf k r ks d v cs
  · rfl
  · by_cases h8 : k = 8
    · subst h8
      obtain ⟨h1, h2⟩ := vf_off hb
      have hm := mov_one (x := 0) (y := 0) (a := -1 * r) (b := -1 * v) (by omega) (by omega) (by omega) (by omega)
      simp only [Int.zero_add] at hm
      simp only [rch, if_true, wrap_in (x := -1 * r) (by omega), wrap_in (x := -1 * v) (by omega), hm, isOne, lcl]
      rw [Bool.eq_iff_iff]
      simp only [Bool.and_eq_true, Bool.or_eq_true, decide_eq_true_eq, decide_true, Bool.not_true, Bool.false_eq_true, false_or, Bool.true_and]
      omega
    · have h1 := vf_rad hb h8
      have hm := gro_one (x := 0) (y := 0) (n := r) (by omega) (by omega) (by omega)
      simp only [Int.zero_add, Int.zero_sub] at hm
      simp only [rch, if_true, h8, if_false, hm, isOne, lcl]
      rw [Bool.eq_iff_iff]
      simp only [h8, Bool.and_eq_true, Bool.or_eq_true, decide_eq_true_eq, decide_false, Bool.not_false, true_or, and_true, Bool.true_and]
      omega
/-- a pixel belongs to Need of a second one just when the second one belongs to Spread of the first -/
theorem near_eq {k r d v x y : Int} {ks cs : List Int} (h : vf k r ks d v cs = true) (hx : -4 ≤ x ∧ x ≤ 4) (hy : -4 ≤ y ∧ y ≤ 4) :
    R.ins x y (x + 1) (y + 1) (rch (-1) true k r v 0 0 1 1).x0 (rch (-1) true k r v 0 0 1 1).y0 (rch (-1) true k r v 0 0 1 1).x1 (rch (-1) true k r v 0 0 1 1).y1
    = R.ins 0 0 1 1 (rch 1 true k r v x y (x + 1) (y + 1)).x0 (rch 1 true k r v x y (x + 1) (y + 1)).y0 (rch 1 true k r v x y (x + 1) (y + 1)).x1 (rch 1 true k r v x y (x + 1) (y + 1)).y1 := by
  have he : R.emp x y (x + 1) (y + 1) = false := by simp [R.emp]; omega
  have he0 : R.emp 0 0 1 1 = false := rfl
  by_cases h8 : k = 8
  · subst h8
    obtain ⟨h1, h2⟩ := vf_off h
    have hm := mov_one (x := 0) (y := 0) (a := -1 * r) (b := -1 * v) (by omega) (by omega) (by omega) (by omega)
    have hn := mov_one (x := x) (y := y) (a := 1 * r) (b := 1 * v) (by omega) (by omega) (by omega) (by omega)
    simp only [Int.zero_add] at hm
    simp only [rch, if_true, wrap_in (x := -1 * r) (by omega), wrap_in (x := -1 * v) (by omega), wrap_in (x := 1 * r) (by omega), wrap_in (x := 1 * v) (by omega), hm, hn, R.ins, he, he0, Bool.false_or]
    rw [Bool.eq_iff_iff]
    simp only [Bool.and_eq_true, decide_eq_true_eq]
    omega
  · have h1 := vf_rad h h8
    have hm := gro_one (x := 0) (y := 0) (n := r) (by omega) (by omega) (by omega)
    have hn := gro_one (x := x) (y := y) (n := r) (by omega) (by omega) (by omega)
    simp only [Int.zero_add] at hm
    simp only [rch, if_true, h8, if_false, hm, hn, R.ins, he, he0, Bool.false_or]
    rw [Bool.eq_iff_iff]
    simp only [Bool.and_eq_true, decide_eq_true_eq]
    omega
end Go.Proofs.YtbodmeiecdomfaaGreat.W
