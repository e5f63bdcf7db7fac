/-
  Plain facts on unions and intersections of rectangles.
-/
import Derived.Test.YtjadccelplnpnaaMath
namespace Go.Proofs.Ytjadccelplnpnaa
open Go.RowKit
theorem nrm_cases (a b c d : Int) : (a < c ∧ b < d ∧ nrm a b c d = ⟨a, b, c, d⟩) ∨ ((c ≤ a ∨ d ≤ b) ∧ nrm a b c d = ⟨0, 0, 0, 0⟩) := by
  by_cases h : a < c ∧ b < d
  · exact .inl ⟨h.1, h.2, nrm_pos h⟩
  · have h2 : c ≤ a ∨ d ≤ b := by omega
    exact .inr ⟨h2, nrm_zero h2⟩
theorem uni_cases (a0 a1 a2 a3 b0 b1 b2 b3 : Int) :
    ((a2 ≤ a0 ∨ a3 ≤ a1) ∧ uni a0 a1 a2 a3 b0 b1 b2 b3 = nrm b0 b1 b2 b3) ∨ (a0 < a2 ∧ a1 < a3 ∧ (b2 ≤ b0 ∨ b3 ≤ b1) ∧ uni a0 a1 a2 a3 b0 b1 b2 b3 = ⟨a0, a1, a2, a3⟩) ∨
    (a0 < a2 ∧ a1 < a3 ∧ b0 < b2 ∧ b1 < b3 ∧ uni a0 a1 a2 a3 b0 b1 b2 b3 = ⟨min a0 b0, min a1 b1, max a2 b2, max a3 b3⟩) := by
  unfold uni
  simp only [mx_eq, mn_eq]
  by_cases ha : a2 ≤ a0 ∨ a3 ≤ a1
  · left; rw [(emp_iff _ _ _ _).2 ha]; exact ⟨ha, rfl⟩
  · rw [(emp_not _ _ _ _).2 (by omega)]
    by_cases hb : b2 ≤ b0 ∨ b3 ≤ b1
    · right; left; rw [(emp_iff _ _ _ _).2 hb]; exact ⟨by omega, by omega, hb, rfl⟩
    · right; right; rw [(emp_not _ _ _ _).2 (by omega)]; exact ⟨by omega, by omega, by omega, by omega, rfl⟩
/-- an intersection, by cases -/
theorem int_cases (a0 a1 a2 a3 b0 b1 b2 b3 : Int) :
    (max a0 b0 < min a2 b2 ∧ max a1 b1 < min a3 b3 ∧ nrm (mx a0 b0) (mx a1 b1) (mn a2 b2) (mn a3 b3) = ⟨max a0 b0, max a1 b1, min a2 b2, min a3 b3⟩) ∨
    ((min a2 b2 ≤ max a0 b0 ∨ min a3 b3 ≤ max a1 b1) ∧ nrm (mx a0 b0) (mx a1 b1) (mn a2 b2) (mn a3 b3) = ⟨0, 0, 0, 0⟩) := by
  simp only [mx_eq, mn_eq]
  exact nrm_cases _ _ _ _
abbrev insR (a b : Rc) : Bool := ins a.x0 a.y0 a.x1 a.y1 b.x0 b.y0 b.x1 b.y1
abbrev eqrR (a b : Rc) : Bool := eqr a.x0 a.y0 a.x1 a.y1 b.x0 b.y0 b.x1 b.y1
abbrev uniR (a b : Rc) : Rc := uni a.x0 a.y0 a.x1 a.y1 b.x0 b.y0 b.x1 b.y1
abbrev intR (a b : Rc) : Rc := nrm (mx a.x0 b.x0) (mx a.y0 b.y0) (mn a.x1 b.x1) (mn a.y1 b.y1)
theorem latt_u1 (a b : Rc) : insR a (uniR a b) = true ∧ insR b (uniR a b) = true ∧ eqrR (uniR a b) (uniR b a) = true := by
  obtain ⟨a0, a1, a2, a3⟩ := a
  obtain ⟨b0, b1, b2, b3⟩ := b
  simp only [insR, eqrR, uniR, ins_iff, eqr_iff]
  rcases uni_cases a0 a1 a2 a3 b0 b1 b2 b3 with ⟨h1, e⟩ | ⟨h1, h2, h3, e⟩ | ⟨h1, h2, h3, h4, e⟩ <;>
  rcases uni_cases b0 b1 b2 b3 a0 a1 a2 a3 with ⟨g1, f⟩ | ⟨g1, g2, g3, f⟩ | ⟨g1, g2, g3, g4, f⟩ <;>
  rcases nrm_cases a0 a1 a2 a3 with ⟨k1, k2, k⟩ | ⟨k1, k⟩ <;> rcases nrm_cases b0 b1 b2 b3 with ⟨l1, l2, l⟩ | ⟨l1, l⟩ <;>
  first | (exfalso; omega) | (simp only [e, f, k, l]; omega) | (simp only [e, f, k, l, and_self, true_or, and_true]; omega)
theorem latt_u2 (a b c : Rc) : insR a c = true → insR b c = true → insR (uniR a b) c = true := by
  obtain ⟨a0, a1, a2, a3⟩ := a
  obtain ⟨b0, b1, b2, b3⟩ := b
  simp only [insR, uniR, ins_iff]
  rcases uni_cases a0 a1 a2 a3 b0 b1 b2 b3 with ⟨h1, e⟩ | ⟨h1, h2, h3, e⟩ | ⟨h1, h2, h3, h4, e⟩ <;>
  rcases nrm_cases b0 b1 b2 b3 with ⟨l1, l2, l⟩ | ⟨l1, l⟩ <;>
  first | (exfalso; omega) | (simp only [e, l]; omega)
theorem latt_i1 (a b : Rc) : insR (intR a b) a = true ∧ insR (intR a b) b = true ∧ eqrR (intR a b) (intR b a) = true := by
  obtain ⟨a0, a1, a2, a3⟩ := a
  obtain ⟨b0, b1, b2, b3⟩ := b
  simp only [insR, eqrR, intR, ins_iff, eqr_iff]
  rcases int_cases a0 a1 a2 a3 b0 b1 b2 b3 with ⟨h1, h2, e⟩ | ⟨h1, e⟩ <;>
  rcases int_cases b0 b1 b2 b3 a0 a1 a2 a3 with ⟨g1, g2, f⟩ | ⟨g1, f⟩ <;>
  first | (exfalso; omega) | (simp only [e, f]; omega)
theorem latt_i2 (a b c : Rc) : insR c a = true → insR c b = true → insR c (intR a b) = true := by
  obtain ⟨a0, a1, a2, a3⟩ := a
  obtain ⟨b0, b1, b2, b3⟩ := b
  simp only [insR, intR, ins_iff]
  rcases int_cases a0 a1 a2 a3 b0 b1 b2 b3 with ⟨h1, h2, e⟩ | ⟨h1, e⟩ <;> (simp only [e]; omega)

theorem ins_tr {a b c : Rc} (h : insR a b = true) (g : insR b c = true) : insR a c = true := by
  simp only [insR, ins_iff] at *
  omega
theorem ins_as {a b : Rc} (h : insR a b = true) (g : insR b a = true) : eqrR a b = true := by
  simp only [insR, eqrR, ins_iff, eqr_iff] at *
  omega
/-- a union is the least rectangle that holds both: so it doesn't matter in which order it is formed -/
theorem latt_ua (a b c : Rc) : eqrR (uniR (uniR a b) c) (uniR a (uniR b c)) = true := by
  have h1 := latt_u1 a b
  have h2 := latt_u1 b c
  have h3 := latt_u1 (uniR a b) c
  have h4 := latt_u1 a (uniR b c)
  refine ins_as (latt_u2 _ _ _ (latt_u2 _ _ _ h4.1 (ins_tr h2.1 h4.2.1)) (ins_tr h2.2.1 h4.2.1)) (latt_u2 _ _ _ (ins_tr h1.1 h3.1) (latt_u2 _ _ _ (ins_tr h1.2.1 h3.1) h3.2.1))
theorem latt_ia (a b c : Rc) : eqrR (intR (intR a b) c) (intR a (intR b c)) = true := by
  have h1 := latt_i1 a b
  have h2 := latt_i1 b c
  have h3 := latt_i1 (intR a b) c
  have h4 := latt_i1 a (intR b c)
  refine ins_as (latt_i2 _ _ _ (ins_tr h3.1 h1.1) (latt_i2 _ _ _ (ins_tr h3.1 h1.2.1) h3.2.1)) (latt_i2 _ _ _ (latt_i2 _ _ _ h4.1 (ins_tr h4.2.1 h2.1)) (ins_tr h4.2.1 h2.2.1))
end Go.Proofs.Ytjadccelplnpnaa
