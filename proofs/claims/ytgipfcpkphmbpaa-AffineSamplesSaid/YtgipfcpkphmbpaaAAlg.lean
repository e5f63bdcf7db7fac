/-
  The algebra of placements: scaling, composition, inversion, sources.
-/
import Derived.Test.YtgipfcpkphmbpaaAInv
import Derived.Test.YtgipfcpkphmbpaaAFlo
namespace Go.Proofs.Ytgipfcpkphmbpaa.F
open Go.RowKit

theorem af_ext {x y : Af} (h1 : x.a = y.a) (h2 : x.b = y.b) (h3 : x.c = y.c) (h4 : x.d = y.d) (h5 : x.e = y.e) (h6 : x.f = y.f) (h7 : x.n = y.n) : x = y := by
  obtain ⟨a, b, c, d, e, f, n⟩ := x; obtain ⟨a', b', c', d', e', f', n'⟩ := y
  simp only at h1 h2 h3 h4 h5 h6 h7
  subst h1 h2 h3 h4 h5 h6 h7; rfl
theorem cmp_scl (k : Int) (x y : Af) : cmp (sca k x) y = sca k (cmp x y) := by
  apply af_ext <;> (simp only [cmp, sca]; grind)
theorem cmp_scr (k : Int) (x y : Af) : cmp x (sca k y) = sca k (cmp x y) := by
  apply af_ext <;> (simp only [cmp, sca]; grind)
theorem cmp_assoc (x y z : Af) : cmp (cmp x y) z = cmp x (cmp y z) := by
  apply af_ext <;> (simp only [cmp]; grind)
abbrev idA : Af := ⟨1, 0, 0, 0, 1, 0, 1⟩
abbrev shA (x y : Int) : Af := ⟨1, 0, x, 0, 1, y, 1⟩
theorem cmp_id (x : Af) : cmp x idA = x := by
  apply af_ext <;> (simp only [cmp]; grind)
theorem low_cmp {x y : Af} (hx : x.n ≠ 0) (hy : y.n ≠ 0) : low (cmp (low x) (low y)) = low (cmp x y) := by
  have h := low_sca (g7 x) (cmp (low x) (low y)) (g7_pos hx)
  rw [← cmp_scl, sca_low] at h
  have h2 := low_sca (g7 y) (cmp x (low y)) (g7_pos hy)
  rw [← cmp_scr, sca_low] at h2
  rw [← h, ← h2]
theorem low_cmpl {x y : Af} (hx : x.n ≠ 0) : low (cmp (low x) y) = low (cmp x y) := by
  have h := low_sca (g7 x) (cmp (low x) y) (g7_pos hx)
  rw [← cmp_scl, sca_low] at h
  rw [← h]
theorem low_cmpr {x y : Af} (hy : y.n ≠ 0) : low (cmp x (low y)) = low (cmp x y) := by
  have h := low_sca (g7 y) (cmp x (low y)) (g7_pos hy)
  rw [← cmp_scr, sca_low] at h
  rw [← h]
/-- the absolute value of the determinant -/
def adt (x : Af) : Int := sgn x * det x
theorem adt_pos {x : Af} (h : det x ≠ 0) : 1 ≤ adt x := inv_n h
theorem sgn_sq (x : Af) : sgn x * sgn x = 1 := by rcases sgn_cases x with ⟨h, _⟩ | ⟨h, _⟩ <;> rw [h] <;> rfl
theorem cmp_inv (x : Af) : cmp x (inv x) = sca (x.n * adt x) idA := by
  apply af_ext <;> (simp only [cmp, inv, sca, adt, det]; grind)
theorem inv_cmp (x : Af) : cmp (inv x) x = sca (x.n * adt x) idA := by
  apply af_ext <;> (simp only [cmp, inv, sca, adt, det]; grind)
theorem det_inv (x : Af) : det (inv x) = x.n * x.n * det x := by
  have h := sgn_sq x
  have : det (inv x) = sgn x * sgn x * (x.n * x.n * det x) := by simp only [inv, det]; grind
  rw [this, h, Int.one_mul]
theorem sgn_mul {x y : Af} {k : Int} (hk : 1 ≤ k) (h : det y = k * det x) : sgn y = sgn x := by
  have hd : 0 < k := by omega
  rcases sgn_cases x with ⟨h1, h2⟩ | ⟨h1, h2⟩ <;> rcases sgn_cases y with ⟨h3, h4⟩ | ⟨h3, h4⟩ <;> rw [h1, h3]
  · exfalso
    have : 0 ≤ k * det x := Int.mul_nonneg (by omega) h2
    omega
  · exfalso
    have : k * det x < 0 := Int.mul_neg_of_pos_of_neg hd h2
    omega
theorem mul_pos1 {a b : Int} (ha : 1 ≤ a) (hb : 1 ≤ b) : 1 ≤ a * b := by
  have : 1 * 1 ≤ a * b := Int.mul_le_mul ha hb (by omega) (by omega)
  omega
theorem sgn_inv {x : Af} (hn : 1 ≤ x.n) : sgn (inv x) = sgn x := sgn_mul (mul_pos1 hn hn) (det_inv x)
theorem inv_inv {x : Af} (hn : 1 ≤ x.n) : inv (inv x) = sca (x.n * adt x) x := by
  have hs := sgn_inv hn
  have h2 := sgn_sq x
  have hd := det_inv x
  apply af_ext
  · show sgn (inv x) * (inv x).n * (inv x).e = _
    rw [hs]; simp only [inv, sca, adt]; grind
  · show -sgn (inv x) * (inv x).n * (inv x).b = _
    rw [hs]; simp only [inv, sca, adt]; grind
  · show sgn (inv x) * ((inv x).b * (inv x).f - (inv x).e * (inv x).c) = _
    rw [hs]; simp only [inv, sca, adt, det]; grind
  · show -sgn (inv x) * (inv x).n * (inv x).d = _
    rw [hs]; simp only [inv, sca, adt]; grind
  · show sgn (inv x) * (inv x).n * (inv x).a = _
    rw [hs]; simp only [inv, sca, adt]; grind
  · show sgn (inv x) * ((inv x).d * (inv x).c - (inv x).a * (inv x).f) = _
    rw [hs]; simp only [inv, sca, adt, det]; grind
  · show sgn (inv x) * det (inv x) = _
    rw [hs, hd]; simp only [sca, adt]; grind
theorem inv_sca {x : Af} {k : Int} (hk : 1 ≤ k) : inv (sca k x) = sca (k * k) (inv x) := by
  have hs : sgn (sca k x) = sgn x := sgn_mul (mul_pos1 hk hk) (det_sca k x)
  apply af_ext
  · show sgn (sca k x) * (sca k x).n * (sca k x).e = _
    rw [hs]; simp only [inv, sca]; grind
  · show -sgn (sca k x) * (sca k x).n * (sca k x).b = _
    rw [hs]; simp only [inv, sca]; grind
  · show sgn (sca k x) * ((sca k x).b * (sca k x).f - (sca k x).e * (sca k x).c) = _
    rw [hs]; simp only [inv, sca]; grind
  · show -sgn (sca k x) * (sca k x).n * (sca k x).d = _
    rw [hs]; simp only [inv, sca]; grind
  · show sgn (sca k x) * (sca k x).n * (sca k x).a = _
    rw [hs]; simp only [inv, sca]; grind
  · show sgn (sca k x) * ((sca k x).d * (sca k x).c - (sca k x).a * (sca k x).f) = _
    rw [hs]; simp only [inv, sca]; grind
  · show sgn (sca k x) * det (sca k x) = _
    rw [hs, det_sca]; simp only [inv, sca]; grind
theorem low_id : low idA = idA := by
  have h : g7 idA = 1 := by decide +kernel
  unfold low; rw [h]; simp
/-- inverses: what Then and Inverse say of the inverse, if it is valid -/
theorem inverts {x : Af} (hx : Ok x) (hi : (ivt x).e = 0) : thn x (ivt x).x = ⟨idA, 0⟩ ∧ thn (ivt x).x x = ⟨idA, 0⟩ ∧ ivt (ivt x).x = ⟨low x, 0⟩ := by
  have hn : 1 ≤ x.n := hx.1.1.1
  have ho : okA x = true := (okA_iff x).2 hx
  have hin := inv_n hx.2
  have e1 : ivt x = chk (inv x) := by unfold ivt; rw [if_pos ho]
  rw [e1] at hi ⊢
  have hk : okA (low (inv x)) = true := by
    unfold chk at hi
    by_cases h : okA (low (inv x)) = true
    · exact h
    · rw [if_neg h] at hi; cases hi
  have e2 : chk (inv x) = ⟨low (inv x), 0⟩ := by unfold chk; rw [if_pos hk]
  rw [e2]
  have hg := g7_pos (x := inv x) (by omega)
  have hp := mul_pos1 hn (adt_pos hx.2)
  have oid : okA idA = true := by decide +kernel
  have cid : chk (sca (x.n * adt x) idA) = ⟨idA, 0⟩ := by unfold chk; rw [low_sca' _ _ hp, low_id, if_pos oid]
  have l1 : low (cmp x (low (inv x))) = low (sca (x.n * adt x) idA) := by rw [low_cmpr (by omega), cmp_inv]
  have l2 : low (cmp (low (inv x)) x) = low (sca (x.n * adt x) idA) := by rw [low_cmpl (by omega), inv_cmp]
  have l3 : low (inv (low (inv x))) = low x := by
    have h1 := inv_sca (x := low (inv x)) (k := (g7 (inv x) : Int)) (by omega)
    rw [sca_low, inv_inv hn] at h1
    have h2 := low_sca' ((g7 (inv x) : Int) * (g7 (inv x) : Int)) (inv (low (inv x))) (mul_pos1 (by omega) (by omega))
    rw [← h1, low_sca' _ _ hp] at h2
    exact h2.symm
  refine ⟨?_, ?_, ?_⟩
  · unfold thn
    rw [ho, hk, Bool.and_self, if_pos rfl]
    unfold chk; rw [l1, low_sca' _ _ hp, low_id, if_pos oid]
  · unfold thn
    rw [ho, hk, Bool.and_self, if_pos rfl]
    unfold chk; rw [l2, low_sca' _ _ hp, low_id, if_pos oid]
  · unfold ivt
    rw [if_pos hk]
    unfold chk; rw [l3, if_pos ((okA_iff _).2 (low_ok hx))]
theorem ivt_err {x : Af} (hx : Ok x) : (ivt x).e = 0 ∨ (ivt x).e = 2 := by
  unfold ivt
  rw [if_pos ((okA_iff x).2 hx)]
  unfold chk
  split
  · exact .inl rfl
  · exact .inr rfl
theorem thn_id {x : Af} (hx : Ok x) : thn x idA = ⟨low x, 0⟩ := by
  unfold thn
  rw [(okA_iff x).2 hx, show okA idA = true by decide +kernel, Bool.and_self, if_pos rfl, cmp_id]
  unfold chk; rw [if_pos ((okA_iff _).2 (low_ok hx))]
theorem thn_ok {x y : Af} (hx : Ok x) (hy : Ok y) : thn x y = chk (cmp x y) := by
  unfold thn; rw [(okA_iff x).2 hx, (okA_iff y).2 hy, Bool.and_self, if_pos rfl]
theorem chk_zero {x : Af} (h : (chk x).e = 0) : chk x = ⟨low x, 0⟩ ∧ Ok (low x) := by
  unfold chk at *
  by_cases ho : okA (low x) = true
  · rw [if_pos ho]; exact ⟨rfl, (okA_iff _).1 ho⟩
  · rw [if_neg ho] at h; cases h
theorem assoc {x y z : Af} (hx : Ok x) (hy : Ok y) (hz : Ok z) (h1 : (thn x y).e = 0) (h2 : (thn y z).e = 0) : thn (thn x y).x z = thn x (thn y z).x := by
  rw [thn_ok hx hy] at h1 ⊢
  rw [thn_ok hy hz] at h2 ⊢
  obtain ⟨e1, o1⟩ := chk_zero h1
  obtain ⟨e2, o2⟩ := chk_zero h2
  rw [e1, e2, thn_ok o1 hz, thn_ok hx o2]
  have n1 := cmp_n hx.1.1.1 hy.1.1.1
  have n2 := cmp_n hy.1.1.1 hz.1.1.1
  have : low (cmp (low (cmp x y)) z) = low (cmp x (low (cmp y z))) := by
    rw [low_cmpl (by omega), low_cmpr (by omega), cmp_assoc]
  unfold chk
  rw [this]
theorem chk_red {x : Af} (hn : x.n ≠ 0) (h : (chk x).e = 0) : okA (chk x).x = true ∧ red (chk x).x = (chk x).x := by
  obtain ⟨e1, o1⟩ := chk_zero h
  rw [e1]
  refine ⟨(okA_iff _).2 o1, ?_⟩
  unfold red
  rw [if_pos ((okA_iff _).2 o1)]
  exact low_low hn
theorem chk_bad {x : Af} (h : (chk x).e ≠ 0) : (chk x).x = zA := by
  unfold chk at *
  split at h
  · exact absurd rfl h
  · rw [if_neg (by assumption)]
/-- sources do not depend on common factors -/
theorem fl_mul {k n d : Int} (hk : 1 ≤ k) (hd : d ≠ 0) : fl (k * n) (k * d) = fl n d := by
  have pos : ∀ n d : Int, 0 < d → fl (k * n) (k * d) = fl n d := fun n d hd => by
    have hkd : 0 < k * d := Int.mul_pos (by omega) hd
    rw [fl_pos hkd]
    obtain ⟨h1, h2⟩ := (fl_pos hd).1 (rfl : fl n d = fl n d)
    generalize fl n d = q at *
    rw [Int.mul_assoc, ← Int.mul_add]
    exact ⟨Int.mul_le_mul_of_nonneg_left h1 (by omega), Int.mul_lt_mul_of_pos_left h2 (by omega)⟩
  rcases Int.lt_or_gt_of_ne hd with h | h
  · rw [← fl_neg hd, ← pos _ _ (by omega : 0 < -d), Int.mul_neg, Int.mul_neg, fl_neg]
    intro h0
    rcases Int.mul_eq_zero.1 h0 with h1 | h1 <;> omega
  · exact pos _ _ h
theorem src_sca {k : Int} {x : Af} (hk : 1 ≤ k) (hd : det x ≠ 0) (px py : Int) : sx (sca k x) px py = sx x px py ∧ sy (sca k x) px py = sy x px py := by
  have e1 : nx (sca k x) px py = (k * k) * nx x px py := by simp only [nx, sca]; grind
  have e2 : ny (sca k x) px py = (k * k) * ny x px py := by simp only [ny, sca]; grind
  have e3 : 2 * det (sca k x) = (k * k) * (2 * det x) := by rw [det_sca]; grind
  unfold sx sy
  rw [e1, e2, e3]
  exact ⟨fl_mul (mul_pos1 hk hk) (by omega), fl_mul (mul_pos1 hk hk) (by omega)⟩
theorem src_low {x : Af} (h : Ok x) (px py : Int) : sx (low x) px py = sx x px py ∧ sy (low x) px py = sy x px py := by
  have hg := g7_pos (x := x) (by have := h.1.1; omega)
  have := src_sca (k := (g7 x : Int)) (x := low x) (by omega) (low_ok h).2 px py
  rw [sca_low] at this
  exact ⟨this.1.symm, this.2.symm⟩
theorem src_shift (x : Af) (u v px py : Int) : sx (cmp x (shA u v)) (px + u) (py + v) = sx x px py ∧ sy (cmp x (shA u v)) (px + u) (py + v) = sy x px py := by
  have e1 : nx (cmp x (shA u v)) (px + u) (py + v) = nx x px py := by simp only [nx, cmp]; grind
  have e2 : ny (cmp x (shA u v)) (px + u) (py + v) = ny x px py := by simp only [ny, cmp]; grind
  have e3 : det (cmp x (shA u v)) = det x := by simp only [det, cmp]; grind
  unfold sx sy
  rw [e1, e2, e3]; exact ⟨rfl, rfl⟩
end Go.Proofs.Ytgipfcpkphmbpaa.F
