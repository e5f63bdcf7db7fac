/-
  Plain facts: which points lie in an intersection, a union and the parts of a difference.
-/
import Derived.Test.YtjadccelplnpnaaArea
namespace Go.Proofs.Ytjadccelplnpnaa
open Go.RowKit
def cnt (x y : Int) (r : Rc) : Int := if has r.x0 r.y0 r.x1 r.y1 x y = true then 1 else 0
theorem has_nrm (a b c d x y : Int) : has (nrm a b c d).x0 (nrm a b c d).y0 (nrm a b c d).x1 (nrm a b c d).y1 x y = has a b c d x y := by
  by_cases h : a < c ∧ b < d
  · rw [nrm_pos h]
  · rw [nrm_zero (by omega), Bool.eq_iff_iff, has_iff, has_iff]; simp only; omega
theorem has_int (a b : Rc) (x y : Int) :
    has (nrm (mx a.x0 b.x0) (mx a.y0 b.y0) (mn a.x1 b.x1) (mn a.y1 b.y1)).x0 (nrm (mx a.x0 b.x0) (mx a.y0 b.y0) (mn a.x1 b.x1) (mn a.y1 b.y1)).y0
      (nrm (mx a.x0 b.x0) (mx a.y0 b.y0) (mn a.x1 b.x1) (mn a.y1 b.y1)).x1 (nrm (mx a.x0 b.x0) (mx a.y0 b.y0) (mn a.x1 b.x1) (mn a.y1 b.y1)).y1 x y =
    (has a.x0 a.y0 a.x1 a.y1 x y && has b.x0 b.y0 b.x1 b.y1 x y) := by
  rw [has_nrm, Bool.eq_iff_iff, Bool.and_eq_true, has_iff, has_iff, has_iff, mx_eq, mx_eq, mn_eq, mn_eq]
  omega
theorem has_uni (a b : Rc) (x y : Int) (h : has a.x0 a.y0 a.x1 a.y1 x y = true ∨ has b.x0 b.y0 b.x1 b.y1 x y = true) :
    has (uni a.x0 a.y0 a.x1 a.y1 b.x0 b.y0 b.x1 b.y1).x0 (uni a.x0 a.y0 a.x1 a.y1 b.x0 b.y0 b.x1 b.y1).y0 (uni a.x0 a.y0 a.x1 a.y1 b.x0 b.y0 b.x1 b.y1).x1 (uni a.x0 a.y0 a.x1 a.y1 b.x0 b.y0 b.x1 b.y1).y1 x y = true := by
  rw [has_iff, has_iff] at h
  unfold uni
  by_cases h1 : a.x1 ≤ a.x0 ∨ a.y1 ≤ a.y0
  · rw [(emp_iff _ _ _ _).2 h1, if_pos rfl, has_nrm, has_iff]; omega
  · rw [(emp_not _ _ _ _).2 (by omega), if_neg (by decide)]
    by_cases h2 : b.x1 ≤ b.x0 ∨ b.y1 ≤ b.y0
    · rw [(emp_iff _ _ _ _).2 h2, if_pos rfl, has_iff]; simp only; omega
    · rw [(emp_not _ _ _ _).2 (by omega), if_neg (by decide), has_iff]
      simp only [mx_eq, mn_eq]; omega
theorem has_ins (a b : Rc) (x y : Int) (h : ins a.x0 a.y0 a.x1 a.y1 b.x0 b.y0 b.x1 b.y1 = true) (h1 : has a.x0 a.y0 a.x1 a.y1 x y = true) : has b.x0 b.y0 b.x1 b.y1 x y = true := by
  rw [ins_iff] at h; rw [has_iff] at *; omega
theorem cnt_filt (x y : Int) (l : List Rc) : ((l.filter nonemp).map (cnt x y)).sum = (l.map (cnt x y)).sum := by
  induction l with
  | nil => rfl
  | cons r l ih =>
    cases h : nonemp r
    · rw [List.filter_cons_of_neg (by rw [h]; decide), ih, List.map_cons, List.sum_cons]
      have h2 : emp r.x0 r.y0 r.x1 r.y1 = true := by unfold nonemp at h; simpa using h
      rw [emp_iff] at h2
      have h3 : cnt x y r = 0 := by unfold cnt; rw [if_neg (by rw [has_iff]; omega)]
      omega
    · rw [List.filter_cons_of_pos h, List.map_cons, List.sum_cons, List.map_cons, List.sum_cons, ih]
theorem minus_cnt (a b : Rc) (x y : Int) : ((minus a b).map (cnt x y)).sum = if (has a.x0 a.y0 a.x1 a.y1 x y && !has b.x0 b.y0 b.x1 b.y1 x y) = true then 1 else 0 := by
  unfold minus
  rw [cnt_filt]
  have e1 : ((has a.x0 a.y0 a.x1 a.y1 x y && !has b.x0 b.y0 b.x1 b.y1 x y) = true) = ((a.x0 ≤ x ∧ x < a.x1 ∧ a.y0 ≤ y ∧ y < a.y1) ∧ ¬ (b.x0 ≤ x ∧ x < b.x1 ∧ b.y0 ≤ y ∧ y < b.y1)) := by
    rw [Bool.and_eq_true, has_iff, Bool.not_eq_true', ← Bool.not_eq_true, has_iff]
  simp only [e1]
  rcases inter_cases a b with ⟨h, e⟩ | ⟨h, e⟩
  · rw [e, prt_pos (by simpa using h)]
    simp only [List.map_cons, List.map_nil, List.sum_cons, List.sum_nil, cnt, has_iff]
    have m0 : a.x0 ≤ max a.x0 b.x0 ∧ b.x0 ≤ max a.x0 b.x0 ∧ (max a.x0 b.x0 ≤ x ↔ a.x0 ≤ x ∧ b.x0 ≤ x) := by omega
    have m1 : a.y0 ≤ max a.y0 b.y0 ∧ b.y0 ≤ max a.y0 b.y0 ∧ (max a.y0 b.y0 ≤ y ↔ a.y0 ≤ y ∧ b.y0 ≤ y) := by omega
    have m2 : min a.x1 b.x1 ≤ a.x1 ∧ min a.x1 b.x1 ≤ b.x1 ∧ (x < min a.x1 b.x1 ↔ x < a.x1 ∧ x < b.x1) := by omega
    have m3 : min a.y1 b.y1 ≤ a.y1 ∧ min a.y1 b.y1 ≤ b.y1 ∧ (y < min a.y1 b.y1 ↔ y < a.y1 ∧ y < b.y1) := by omega
    generalize max a.x0 b.x0 = h0 at *
    generalize max a.y0 b.y0 = h1 at *
    generalize min a.x1 b.x1 = h2 at *
    generalize min a.y1 b.y1 = h3 at *
    repeat' split
    all_goals omega
  · rw [e, prt_zero]
    simp only [List.map_cons, List.map_nil, List.sum_cons, List.sum_nil, cnt, has_iff]
    repeat' split
    all_goals omega
theorem cnt_take (x y : Int) (l : List Rc) (k : Nat) : 0 ≤ ((l.take k).map (cnt x y)).sum ∧ ((l.take k).map (cnt x y)).sum ≤ k := by
  induction l generalizing k with
  | nil => simp
  | cons r l ih =>
    cases k with
    | zero => simp
    | succ k =>
      have h1 := ih k
      have h2 : 0 ≤ cnt x y r ∧ cnt x y r ≤ 1 := by unfold cnt; split <;> omega
      simp only [List.take_succ_cons, List.map_cons, List.sum_cons]; omega
theorem cnt_step (x y : Int) (l : List Rc) (k : Nat) (hk : k < l.length) : ((l.take (k + 1)).map (cnt x y)).sum = ((l.take k).map (cnt x y)).sum + cnt x y l[k] := by
  rw [List.take_add_one, List.map_append, List.sum_append, List.getElem?_eq_getElem hk]; simp
end Go.Proofs.Ytjadccelplnpnaa
