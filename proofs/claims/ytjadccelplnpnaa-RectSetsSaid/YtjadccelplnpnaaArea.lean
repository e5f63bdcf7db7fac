/-
  Plain facts on the parts of a difference of two small rectangles.
-/
import Derived.Test.YtjadccelplnpnaaGrw
import Derived.Test.YtjadccelplnpnaaMinus
namespace Go.Proofs.Ytjadccelplnpnaa
open Go.RowKit
abbrev areaR (x : Rc) : Int := area x.x0 x.y0 x.x1 x.y1
/-- a rectangle within the bounds of small ones -/
structure Bd (r : Rc) : Prop where
  x0 : -20 ≤ r.x0 ∧ r.x0 ≤ 60
  y0 : -20 ≤ r.y0 ∧ r.y0 ≤ 60
  x1 : -20 ≤ r.x1 ∧ r.x1 ≤ 60
  y1 : -20 ≤ r.y1 ∧ r.y1 ≤ 60
theorem area_prod {a b c d : Int} (h0 : -20 ≤ a ∧ a ≤ c ∧ c ≤ 60) (h1 : -20 ≤ b ∧ b ≤ d ∧ d ≤ 60) : area a b c d = (c - a) * (d - b) := by
  unfold area
  have h2 : (c - a) * (d - b) ≤ 80 * 80 := Int.mul_le_mul (by omega) (by omega) (by omega) (by omega)
  have h3 : 0 ≤ (c - a) * (d - b) := Int.mul_nonneg (by omega) (by omega)
  by_cases h : c ≤ a ∨ d ≤ b
  · rw [(emp_iff _ _ _ _).2 h, if_pos rfl]
    rcases h with h | h
    · rw [show c - a = 0 by omega, Int.zero_mul]
    · rw [show d - b = 0 by omega, Int.mul_zero]
  · rw [(emp_not _ _ _ _).2 (by omega), wrap_small (n := c - a) (by omega) (by omega), wrap_small (n := d - b) (by omega) (by omega), wrap_small (by omega) (by omega)]; rfl
theorem area_zero {r : Rc} (h : r.x1 ≤ r.x0 ∨ r.y1 ≤ r.y0) : areaR r = 0 := by
  unfold areaR area; rw [(emp_iff _ _ _ _).2 h]; rfl
theorem sum_filt (l : List Rc) : ((l.filter nonemp).map areaR).sum = (l.map areaR).sum := by
  induction l with
  | nil => rfl
  | cons x l ih =>
    cases h : nonemp x
    · rw [List.filter_cons_of_neg (by rw [h]; decide), ih, List.map_cons, List.sum_cons]
      have : emp x.x0 x.y0 x.x1 x.y1 = true := by unfold nonemp at h; simpa using h
      rw [area_zero ((emp_iff _ _ _ _).1 this)]; omega
    · rw [List.filter_cons_of_pos h, List.map_cons, List.sum_cons, List.map_cons, List.sum_cons, ih]
theorem inter_cases (a b : Rc) :
    ((max a.x0 b.x0 < min a.x1 b.x1 ∧ max a.y0 b.y0 < min a.y1 b.y1) ∧ inter a b = ⟨max a.x0 b.x0, max a.y0 b.y0, min a.x1 b.x1, min a.y1 b.y1⟩) ∨
    ((min a.x1 b.x1 ≤ max a.x0 b.x0 ∨ min a.y1 b.y1 ≤ max a.y0 b.y0) ∧ inter a b = ⟨0, 0, 0, 0⟩) := by
  unfold inter
  simp only [mx_eq, mn_eq]
  by_cases h : max a.x0 b.x0 < min a.x1 b.x1 ∧ max a.y0 b.y0 < min a.y1 b.y1
  · exact .inl ⟨h, nrm_pos h⟩
  · have h2 : min a.x1 b.x1 ≤ max a.x0 b.x0 ∨ min a.y1 b.y1 ≤ max a.y0 b.y0 := by omega
    exact .inr ⟨h2, nrm_zero h2⟩
theorem prt_zero (r : Rc) : prt ⟨0, 0, 0, 0⟩ r = [r] := by unfold prt; rfl
theorem prt_pos {h : Rc} (hh : h.x0 < h.x1 ∧ h.y0 < h.y1) (r : Rc) : prt h r = [⟨r.x0, r.y0, r.x1, h.y0⟩, ⟨r.x0, h.y1, r.x1, r.y1⟩, ⟨r.x0, h.y0, h.x0, h.y1⟩, ⟨h.x1, h.y0, r.x1, h.y1⟩] := by
  unfold prt; rw [(emp_not _ _ _ _).2 hh]; rfl
theorem areas_sum {a b : Rc} (ha : Sm a) (hb : Sm b) : areaR (inter a b) + ((minus a b).map areaR).sum = areaR a := by
  unfold minus
  rw [sum_filt]
  rcases inter_cases a b with ⟨h, e⟩ | ⟨h, e⟩
  · rw [e, prt_pos (by simpa using h)]
    obtain ⟨a0, a1, a2, a3⟩ := a
    obtain ⟨b0, b1, b2, b3⟩ := b
    obtain ⟨⟨r1, r2⟩, ⟨r3, r4⟩, ⟨r5, r6⟩, ⟨r7, r8⟩⟩ := ha
    obtain ⟨⟨s1, s2⟩, ⟨s3, s4⟩, ⟨s5, s6⟩, ⟨s7, s8⟩⟩ := hb
    simp only at h r1 r2 r3 r4 r5 r6 r7 r8 s1 s2 s3 s4 s5 s6 s7 s8
    simp only [List.map_cons, List.map_nil, List.sum_cons, List.sum_nil, areaR]
    have m0 : a0 ≤ max a0 b0 := by omega
    have m1 : a1 ≤ max a1 b1 := by omega
    have m2 : min a2 b2 ≤ a2 := by omega
    have m3 : min a3 b3 ≤ a3 := by omega
    generalize max a0 b0 = h0 at *
    generalize max a1 b1 = h1 at *
    generalize min a2 b2 = h2 at *
    generalize min a3 b3 = h3 at *
    rw [area_prod (a := h0) (by omega) (by omega), area_prod (a := a0) (b := a1) (c := a2) (d := h1) (by omega) (by omega), area_prod (a := a0) (b := h3) (by omega) (by omega),
      area_prod (a := a0) (b := h1) (by omega) (by omega), area_prod (a := h2) (by omega) (by omega), area_prod (a := a0) (b := a1) (c := a2) (d := a3) (by omega) (by omega)]
    grind
  · rw [e, prt_zero, area_zero (by simp)]
    simp [areaR]
theorem minus_mem {a b x : Rc} (h : x ∈ minus a b) :
    emp x.x0 x.y0 x.x1 x.y1 = false ∧ ins x.x0 x.y0 x.x1 x.y1 a.x0 a.y0 a.x1 a.y1 = true ∧
    emp (nrm (mx x.x0 b.x0) (mx x.y0 b.y0) (mn x.x1 b.x1) (mn x.y1 b.y1)).x0 (nrm (mx x.x0 b.x0) (mx x.y0 b.y0) (mn x.x1 b.x1) (mn x.y1 b.y1)).y0
      (nrm (mx x.x0 b.x0) (mx x.y0 b.y0) (mn x.x1 b.x1) (mn x.y1 b.y1)).x1 (nrm (mx x.x0 b.x0) (mx x.y0 b.y0) (mn x.x1 b.x1) (mn x.y1 b.y1)).y1 = true := by
  unfold minus at h
  rw [List.mem_filter] at h
  obtain ⟨h1, h2⟩ := h
  have he : emp x.x0 x.y0 x.x1 x.y1 = false := by unfold nonemp at h2; simpa using h2
  have hn := (emp_not _ _ _ _).1 he
  refine ⟨he, ?_⟩
  rw [emp_nrm, emp_iff, ins_iff]
  simp only [mx_eq, mn_eq]
  rcases inter_cases a b with ⟨h, e⟩ | ⟨h, e⟩
  · rw [e, prt_pos (by simpa using h)] at h1
    simp only [List.mem_cons, List.not_mem_nil, or_false] at h1
    rcases h1 with rfl | rfl | rfl | rfl <;> simp only at hn ⊢ <;> omega
  · rw [e, prt_zero] at h1
    obtain rfl : x = a := by simpa using h1
    omega
theorem area_nonneg {a b x : Rc} (ha : Sm a) (h : x ∈ minus a b) : 0 ≤ areaR x := by
  obtain ⟨h1, h2, _⟩ := minus_mem h
  obtain ⟨⟨r1, r2⟩, ⟨r3, r4⟩, ⟨r5, r6⟩, ⟨r7, r8⟩⟩ := ha
  have h3 := (emp_not _ _ _ _).1 h1
  have h4 := (ins_iff _ _ _ _ _ _ _ _).1 h2
  unfold areaR
  rw [area_prod (by omega) (by omega)]
  exact Int.mul_nonneg (by omega) (by omega)
theorem area_le {a : Rc} (ha : Sm a) : 0 ≤ areaR a ∧ areaR a ≤ 1600 := by
  obtain ⟨⟨r1, r2⟩, ⟨r3, r4⟩, ⟨r5, r6⟩, ⟨r7, r8⟩⟩ := ha
  unfold areaR
  rw [area_prod (by omega) (by omega)]
  have h : (a.x1 - a.x0) * (a.y1 - a.y0) ≤ 40 * 40 := Int.mul_le_mul (by omega) (by omega) (by omega) (by omega)
  exact ⟨Int.mul_nonneg (by omega) (by omega), by omega⟩
theorem inter_nonneg {a b : Rc} (ha : Sm a) (hb : Sm b) : 0 ≤ areaR (inter a b) := by
  obtain ⟨⟨r1, r2⟩, ⟨r3, r4⟩, ⟨r5, r6⟩, ⟨r7, r8⟩⟩ := ha
  obtain ⟨⟨s1, s2⟩, ⟨s3, s4⟩, ⟨s5, s6⟩, ⟨s7, s8⟩⟩ := hb
  rcases inter_cases a b with ⟨h, e⟩ | ⟨h, e⟩
  · rw [e]
    show 0 ≤ area (max a.x0 b.x0) (max a.y0 b.y0) (min a.x1 b.x1) (min a.y1 b.y1)
    rw [area_prod (by omega) (by omega)]
    exact Int.mul_nonneg (by omega) (by omega)
  · rw [e, area_zero (by simp)]; omega
theorem sum_take (l : List Rc) (h : ∀ x ∈ l, 0 ≤ areaR x) (k : Nat) : 0 ≤ ((l.take k).map areaR).sum ∧ ((l.take k).map areaR).sum ≤ (l.map areaR).sum := by
  induction l generalizing k with
  | nil => simp
  | cons x l ih =>
    have hx := h x (by simp)
    cases k with
    | zero =>
      have h1 := ih (fun y hy => h y (by simp [hy])) l.length
      rw [List.take_length] at h1
      simp only [List.take_zero, List.map_nil, List.sum_nil, List.map_cons, List.sum_cons]; omega
    | succ k =>
      have h1 := ih (fun y hy => h y (by simp [hy])) k
      simp only [List.take_succ_cons, List.map_cons, List.sum_cons]; omega
theorem sum_step (l : List Rc) (k : Nat) (hk : k < l.length) : ((l.take (k + 1)).map areaR).sum = ((l.take k).map areaR).sum + areaR l[k] := by
  rw [List.take_add_one, List.map_append, List.sum_append, List.getElem?_eq_getElem hk]; simp
end Go.Proofs.Ytjadccelplnpnaa
