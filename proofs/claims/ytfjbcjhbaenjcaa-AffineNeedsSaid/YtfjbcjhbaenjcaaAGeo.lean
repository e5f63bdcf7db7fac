/-
  Bounds holds every pixel whose source lies in the rectangle; Need lies between the sources of the corners.
-/
import Derived.Test.YtfjbcjhbaenjcaaABnd
namespace Go.Proofs.Ytfjbcjhbaenjcaa.F
open Go.RowKit

theorem mul_cancel_le {d x y : Int} (hd : 0 < d) (h : d * x ≤ d * y) : x ≤ y := by
  by_cases hx : x ≤ y
  · exact hx
  · exfalso
    have : d * y < d * x := Int.mul_lt_mul_of_pos_left (by omega) hd
    omega
/-- a linear form over a rectangle is least at a corner -/
theorem lin_low {A B d u M1 M2 r0 r1 r2 r3 : Int} (hd : 0 < d) (h0 : 2 * d * r0 ≤ M1) (h2 : M1 ≤ 2 * d * r2) (h1 : 2 * d * r1 ≤ M2) (h3 : M2 ≤ 2 * d * r3) (he : A * M1 + B * M2 = d * u) :
    ∃ x y, (x = r0 ∨ x = r2) ∧ (y = r1 ∨ y = r3) ∧ 2 * (A * x + B * y) ≤ u := by
  have one : ∀ (A M l h : Int), 2 * d * l ≤ M → M ≤ 2 * d * h → ∃ x, (x = l ∨ x = h) ∧ d * (2 * (A * x)) ≤ A * M := fun A M l h hl hh => by
    by_cases hA : 0 ≤ A
    · refine ⟨l, .inl rfl, ?_⟩
      have := Int.mul_le_mul_of_nonneg_left hl hA
      rw [show d * (2 * (A * l)) = A * (2 * d * l) by grind]; exact this
    · refine ⟨h, .inr rfl, ?_⟩
      have := Int.mul_le_mul_of_nonpos_left (by omega : A ≤ 0) hh
      rw [show d * (2 * (A * h)) = A * (2 * d * h) by grind]; exact this
  obtain ⟨x, hx, ex⟩ := one A M1 r0 r2 h0 h2
  obtain ⟨y, hy, ey⟩ := one B M2 r1 r3 h1 h3
  refine ⟨x, y, hx, hy, mul_cancel_le hd ?_⟩
  rw [← he, show d * (2 * (A * x + B * y)) = d * (2 * (A * x)) + d * (2 * (B * y)) by grind]
  omega
theorem lin_high {A B d u M1 M2 r0 r1 r2 r3 : Int} (hd : 0 < d) (h0 : 2 * d * r0 ≤ M1) (h2 : M1 ≤ 2 * d * r2) (h1 : 2 * d * r1 ≤ M2) (h3 : M2 ≤ 2 * d * r3) (he : A * M1 + B * M2 = d * u) :
    ∃ x y, (x = r0 ∨ x = r2) ∧ (y = r1 ∨ y = r3) ∧ u ≤ 2 * (A * x + B * y) := by
  obtain ⟨x, y, hx, hy, h⟩ := lin_low (A := -A) (B := -B) (u := -u) hd h0 h2 h1 h3 (by rw [Int.neg_mul, Int.neg_mul, Int.mul_neg]; omega)
  refine ⟨x, y, hx, hy, ?_⟩
  rw [Int.neg_mul, Int.neg_mul] at h; omega
theorem bl_corner (a : Af) (r0 r1 r2 r3 x y : Int) (hx : x = r0 ∨ x = r2) (hy : y = r1 ∨ y = r3) : (bl0 a r0 r1 r2 r3 ≤ ux a x y ∧ ux a x y ≤ bl2 a r0 r1 r2 r3) ∧ (bl1 a r0 r1 r2 r3 ≤ uy a x y ∧ uy a x y ≤ bl3 a r0 r1 r2 r3) := by
  unfold bl0 bl1 bl2 bl3
  simp only [mn_eq, mx_eq]
  rcases hx with rfl | rfl <;> rcases hy with rfl | rfl <;> omega
/-- what the sources say of the preimage -/
theorem src_between {n d l h : Int} (hd : d ≠ 0) (h1 : l ≤ fl n d) (h2 : fl n d < h) : ∃ s : Int, (s = 1 ∨ s = -1) ∧ 0 < s * d ∧ s * d * l ≤ s * n ∧ s * n ≤ s * d * h := by
  have pos : ∀ n d : Int, 0 < d → l ≤ fl n d → fl n d < h → d * l ≤ n ∧ n ≤ d * h := fun n d hd h1 h2 => by
    obtain ⟨q1, q2⟩ := (fl_pos hd).1 (rfl : fl n d = fl n d)
    generalize fl n d = q at *
    have k1 : d * l ≤ d * q := Int.mul_le_mul_of_nonneg_left h1 (by omega)
    have k2 : d * (q + 1) ≤ d * h := Int.mul_le_mul_of_nonneg_left (by omega) (by omega)
    rw [Int.mul_add, Int.mul_one] at k2
    omega
  rcases Int.lt_or_gt_of_ne hd with hn | hp
  · refine ⟨-1, .inr rfl, by omega, ?_⟩
    have := pos (-n) (-d) (by omega) (by rw [fl_neg hd]; exact h1) (by rw [fl_neg hd]; exact h2)
    rw [show -1 * d = -d by omega, show -1 * n = -n by omega]; exact this
  · refine ⟨1, .inl rfl, by omega, ?_⟩
    rw [Int.one_mul, Int.one_mul]; exact pos n d hp h1 h2
theorem fC_le {n lo p : Int} (hn : 1 ≤ n) (h : 2 * lo ≤ n * (2 * p + 1)) : fCe lo n ≤ p := by
  have hd : 0 < 2 * n := by omega
  obtain ⟨q1, q2⟩ := (fl_pos hd).1 (rfl : fl (n - 2 * lo) (2 * n) = fl (n - 2 * lo) (2 * n))
  unfold fCe
  generalize fl (n - 2 * lo) (2 * n) = q at *
  have e : n * (2 * p + 1) = 2 * n * p + n := by grind
  rw [e] at h
  have k : 2 * n * (-p) < 2 * n * (q + 1) := by rw [Int.mul_neg, Int.mul_add, Int.mul_one]; omega
  have := Int.lt_of_mul_lt_mul_left k (by omega)
  omega
theorem lC_ge {n hi p : Int} (hn : 1 ≤ n) (h : n * (2 * p + 1) ≤ 2 * hi) : p ≤ lCe hi n := by
  have hd : 0 < 2 * n := by omega
  obtain ⟨q1, q2⟩ := (fl_pos hd).1 (rfl : fl (2 * hi - n) (2 * n) = fl (2 * hi - n) (2 * n))
  unfold lCe
  generalize fl (2 * hi - n) (2 * n) = q at *
  have e : n * (2 * p + 1) = 2 * n * p + n := by grind
  rw [e] at h
  have k : 2 * n * p < 2 * n * (q + 1) := by rw [Int.mul_add, Int.mul_one]; omega
  have := Int.lt_of_mul_lt_mul_left k (by omega)
  omega
theorem bounds_has {a : Af} {r0 r1 r2 r3 px py : Int} (ho : Ok a) (hc : inC px py = true) (hs : has r0 r1 r2 r3 (sx a px py) (sy a px py) = true) :
    has (bndR a r0 r1 r2 r3).x0 (bndR a r0 r1 r2 r3).y0 (bndR a r0 r1 r2 r3).x1 (bndR a r0 r1 r2 r3).y1 px py = true := by
  have h1 := (has_iff _ _ _ _ _ _).1 hs
  have h2 := (has_iff _ _ _ _ _ _).1 hc
  have hd : 2 * det a ≠ 0 := by have := ho.2; omega
  obtain ⟨s, hs1, hs2, hs3, hs4⟩ := src_between hd h1.1 h1.2.1
  obtain ⟨t, ht1, ht2, ht3, ht4⟩ := src_between hd h1.2.2.1 h1.2.2.2
  have hst : s = t := by
    rcases hs1 with rfl | rfl <;> rcases ht1 with rfl | rfl <;> omega
  subst hst
  have hdd : 0 < s * det a := by
    rw [show s * (2 * det a) = 2 * (s * det a) by grind] at hs2; omega
  have e : s * (2 * det a) = 2 * (s * det a) := by grind
  rw [e] at hs3 hs4 ht3 ht4
  have i1 : a.a * (s * nx a px py) + a.b * (s * ny a px py) = (s * det a) * (a.n * (2 * px + 1) - 2 * a.c) := by simp only [nx, ny, det]; grind
  have i2 : a.d * (s * nx a px py) + a.e * (s * ny a px py) = (s * det a) * (a.n * (2 * py + 1) - 2 * a.f) := by simp only [nx, ny, det]; grind
  obtain ⟨xa, ya, k1, k2, k3⟩ := lin_low hdd hs3 hs4 ht3 ht4 i1
  obtain ⟨xb, yb, k4, k5, k6⟩ := lin_high hdd hs3 hs4 ht3 ht4 i1
  obtain ⟨xc, yc, k7, k8, k9⟩ := lin_low hdd hs3 hs4 ht3 ht4 i2
  obtain ⟨xd, yd, k10, k11, k12⟩ := lin_high hdd hs3 hs4 ht3 ht4 i2
  have c1 := (bl_corner a r0 r1 r2 r3 xa ya k1 k2).1.1
  have c2 := (bl_corner a r0 r1 r2 r3 xb yb k4 k5).1.2
  have c3 := (bl_corner a r0 r1 r2 r3 xc yc k7 k8).2.1
  have c4 := (bl_corner a r0 r1 r2 r3 xd yd k10 k11).2.2
  have hn : 1 ≤ a.n := ho.1.1.1
  have l1 : fCe (bl0 a r0 r1 r2 r3) a.n ≤ px := fC_le hn (by unfold ux at c1; omega)
  have l2 : px ≤ lCe (bl2 a r0 r1 r2 r3) a.n := lC_ge hn (by unfold ux at c2; omega)
  have l3 : fCe (bl1 a r0 r1 r2 r3) a.n ≤ py := fC_le hn (by unfold uy at c3; omega)
  have l4 : py ≤ lCe (bl3 a r0 r1 r2 r3) a.n := lC_ge hn (by unfold uy at c4; omega)
  unfold bndR
  rw [nrm_pos (by simp only [mx_eq, mn_eq]; omega)]
  rw [has_iff]
  simp only [mx_eq, mn_eq]
  omega

/-- sources between the sources at the ends -/
theorem fl_mono {n m d : Int} (hd : 0 < d) (h : n ≤ m) : fl n d ≤ fl m d := by
  obtain ⟨a1, a2⟩ := (fl_pos hd).1 (rfl : fl n d = fl n d)
  obtain ⟨b1, b2⟩ := (fl_pos hd).1 (rfl : fl m d = fl m d)
  generalize fl n d = p at *
  generalize fl m d = q at *
  have k : d * p < d * (q + 1) := by rw [Int.mul_add, Int.mul_one]; omega
  have := Int.lt_of_mul_lt_mul_left k (by omega)
  omega
theorem fl_btw {p q d l h x : Int} (hd : d ≠ 0) (h1 : l ≤ x) (h2 : x ≤ h) : min (fl (p * l + q) d) (fl (p * h + q) d) ≤ fl (p * x + q) d ∧ fl (p * x + q) d ≤ max (fl (p * l + q) d) (fl (p * h + q) d) := by
  have pos : ∀ p q d : Int, 0 < d → min (fl (p * l + q) d) (fl (p * h + q) d) ≤ fl (p * x + q) d ∧ fl (p * x + q) d ≤ max (fl (p * l + q) d) (fl (p * h + q) d) := fun p q d hd => by
    by_cases hp : 0 ≤ p
    · have m1 := fl_mono (n := p * l + q) (m := p * x + q) hd (by have := Int.mul_le_mul_of_nonneg_left h1 hp; omega)
      have m2 := fl_mono (n := p * x + q) (m := p * h + q) hd (by have := Int.mul_le_mul_of_nonneg_left h2 hp; omega)
      omega
    · have m1 := fl_mono (n := p * x + q) (m := p * l + q) hd (by have := Int.mul_le_mul_of_nonpos_left (by omega : p ≤ 0) h1; omega)
      have m2 := fl_mono (n := p * h + q) (m := p * x + q) hd (by have := Int.mul_le_mul_of_nonpos_left (by omega : p ≤ 0) h2; omega)
      omega
  rcases Int.lt_or_gt_of_ne hd with hn | hpos
  · have := pos (-p) (-q) (-d) (by omega)
    have e : ∀ z, fl (-p * z + -q) (-d) = fl (p * z + q) d := fun z => by rw [← fl_neg hd]; congr 1; rw [Int.neg_mul]; omega
    rw [e, e, e] at this; exact this
  · exact pos p q d hpos
theorem need_btw {a : Af} {r0 r1 r2 r3 x y : Int} (ho : Ok a) (h0 : r0 ≤ x) (h2 : x ≤ r2 - 1) (h1 : r1 ≤ y) (h3 : y ≤ r3 - 1) :
    (nd0 a r0 r1 r2 r3 ≤ sx a x y ∧ sx a x y ≤ nd2 a r0 r1 r2 r3) ∧ (nd1 a r0 r1 r2 r3 ≤ sy a x y ∧ sy a x y ≤ nd3 a r0 r1 r2 r3) := by
  have hd : 2 * det a ≠ 0 := by have := ho.2; omega
  have ex1 : ∀ x y, nx a x y = (2 * a.n * a.e) * x + (a.e * (a.n - 2 * a.c) - a.b * (a.n * (2 * y + 1) - 2 * a.f)) := fun x y => by simp only [nx]; grind
  have ex2 : ∀ x y, nx a x y = (-(2 * a.n * a.b)) * y + (a.e * (a.n * (2 * x + 1) - 2 * a.c) - a.b * (a.n - 2 * a.f)) := fun x y => by simp only [nx]; grind
  have ey1 : ∀ x y, ny a x y = (-(2 * a.n * a.d)) * x + (a.a * (a.n * (2 * y + 1) - 2 * a.f) - a.d * (a.n - 2 * a.c)) := fun x y => by simp only [ny]; grind
  have ey2 : ∀ x y, ny a x y = (2 * a.n * a.a) * y + (a.a * (a.n - 2 * a.f) - a.d * (a.n * (2 * x + 1) - 2 * a.c)) := fun x y => by simp only [ny]; grind
  have bx : ∀ y, min (sx a r0 y) (sx a (r2 - 1) y) ≤ sx a x y ∧ sx a x y ≤ max (sx a r0 y) (sx a (r2 - 1) y) := fun y => by
    unfold sx; rw [ex1 r0 y, ex1 (r2 - 1) y, ex1 x y]; exact fl_btw hd h0 h2
  have by' : ∀ x, min (sx a x r1) (sx a x (r3 - 1)) ≤ sx a x y ∧ sx a x y ≤ max (sx a x r1) (sx a x (r3 - 1)) := fun x => by
    unfold sx; rw [ex2 x r1, ex2 x (r3 - 1), ex2 x y]; exact fl_btw hd h1 h3
  have cx : ∀ y, min (sy a r0 y) (sy a (r2 - 1) y) ≤ sy a x y ∧ sy a x y ≤ max (sy a r0 y) (sy a (r2 - 1) y) := fun y => by
    unfold sy; rw [ey1 r0 y, ey1 (r2 - 1) y, ey1 x y]; exact fl_btw hd h0 h2
  have cy : ∀ x, min (sy a x r1) (sy a x (r3 - 1)) ≤ sy a x y ∧ sy a x y ≤ max (sy a x r1) (sy a x (r3 - 1)) := fun x => by
    unfold sy; rw [ey2 x r1, ey2 x (r3 - 1), ey2 x y]; exact fl_btw hd h1 h3
  have q1 := bx y; have q2 := by' r0; have q3 := by' (r2 - 1)
  have q4 := cx y; have q5 := cy r0; have q6 := cy (r2 - 1)
  unfold nd0 nd1 nd2 nd3
  simp only [mn_eq, mx_eq]
  omega
end Go.Proofs.Ytfjbcjhbaenjcaa.F
