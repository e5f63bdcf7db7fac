/-
  Sums and products that wrap around only at the end; composition and inversion as plain numbers.
-/
import Derived.Test.YtgipfcpkphmbpaaAMath
namespace Go.Proofs.Ytgipfcpkphmbpaa.F
open Go.RowKit
theorem wrap_mod (x k : Int) : wrap64 (x + 18446744073709551616 * k) = wrap64 x := by unfold wrap64; omega
theorem wrap_ex (x : Int) : ∃ k, wrap64 x = x + 18446744073709551616 * k := ⟨-((x + 9223372036854775808) / 18446744073709551616), by unfold wrap64; omega⟩
theorem wid (p : Int) : wrap64 (wrap64 p) = wrap64 p := by unfold wrap64; omega
theorem wal (p q : Int) : wrap64 (wrap64 p + q) = wrap64 (p + q) := by
  obtain ⟨k, hk⟩ := wrap_ex p
  rw [hk, show p + 18446744073709551616 * k + q = p + q + 18446744073709551616 * k by omega, wrap_mod]
theorem war (p q : Int) : wrap64 (p + wrap64 q) = wrap64 (p + q) := by rw [Int.add_comm, wal, Int.add_comm]
theorem wsl (p q : Int) : wrap64 (wrap64 p - q) = wrap64 (p - q) := by
  obtain ⟨k, hk⟩ := wrap_ex p
  rw [hk, show p + 18446744073709551616 * k - q = p - q + 18446744073709551616 * k by omega, wrap_mod]
theorem wsr (p q : Int) : wrap64 (p - wrap64 q) = wrap64 (p - q) := by
  obtain ⟨k, hk⟩ := wrap_ex q
  rw [hk, show p - (q + 18446744073709551616 * k) = p - q + 18446744073709551616 * (-k) by omega, wrap_mod]
theorem wml (p q : Int) : wrap64 (wrap64 p * q) = wrap64 (p * q) := by
  obtain ⟨k, hk⟩ := wrap_ex p
  rw [hk, show (p + 18446744073709551616 * k) * q = p * q + 18446744073709551616 * (k * q) by grind, wrap_mod]
theorem wmr (p q : Int) : wrap64 (p * wrap64 q) = wrap64 (p * q) := by rw [Int.mul_comm, wml, Int.mul_comm]
theorem wng (p : Int) : wrap64 (-(wrap64 p)) = wrap64 (-p) := by
  have := wsr 0 p; simpa using this
theorem wrapI (x : Int) : IntKind.i64.wrap x = wrap64 x := IntWalk.i64_left x

/-- first a, then b -/
def cmp (a b : Af) : Af := ⟨b.a * a.a + b.b * a.d, b.a * a.b + b.b * a.e, b.a * a.c + b.b * a.f + b.c * a.n, b.d * a.a + b.e * a.d, b.d * a.b + b.e * a.e, b.d * a.c + b.e * a.f + b.f * a.n, a.n * b.n⟩
def sgn (x : Af) : Int := if det x < 0 then -1 else 1
def inv (x : Af) : Af := ⟨sgn x * x.n * x.e, -sgn x * x.n * x.b, sgn x * (x.b * x.f - x.e * x.c), -sgn x * x.n * x.d, sgn x * x.n * x.a, sgn x * (x.d * x.c - x.a * x.f), sgn x * det x⟩
/-- far from wrapping around -/
def Far (x : Af) : Prop := ∀ v ∈ x.l, -100000000000000000 ≤ v ∧ v ≤ 100000000000000000
theorem far_mk {x : Af} (ha : -100000000000000000 ≤ x.a ∧ x.a ≤ 100000000000000000) (hb : -100000000000000000 ≤ x.b ∧ x.b ≤ 100000000000000000) (hc : -100000000000000000 ≤ x.c ∧ x.c ≤ 100000000000000000) (hd : -100000000000000000 ≤ x.d ∧ x.d ≤ 100000000000000000) (he : -100000000000000000 ≤ x.e ∧ x.e ≤ 100000000000000000) (hf : -100000000000000000 ≤ x.f ∧ x.f ≤ 100000000000000000) (hn : -100000000000000000 ≤ x.n ∧ x.n ≤ 100000000000000000) : Far x := by
  intro v hv
  simp only [Af.l, List.mem_cons, List.not_mem_nil, or_false] at hv
  rcases hv with rfl | rfl | rfl | rfl | rfl | rfl | rfl <;> assumption
theorem cmp_far {a b : Af} (ha : Bd a) (hb : Bd b) : Far (cmp a b) := by
  obtain ⟨an, aa, ab, ad, ae, ac, af⟩ := ha
  obtain ⟨bn, ba, bb, bd, be, bc, bf⟩ := hb
  have an' : -4096 ≤ a.n ∧ a.n ≤ 4096 := by omega
  have bn' : -4096 ≤ b.n ∧ b.n ≤ 4096 := by omega
  refine far_mk ?_ ?_ ?_ ?_ ?_ ?_ ?_
  · have h1 := mul_le_of ba aa; have h2 := mul_le_of bb ad
    unfold cmp; simp only; omega
  · have h1 := mul_le_of ba ab; have h2 := mul_le_of bb ae
    unfold cmp; simp only; omega
  · have h1 := mul_le_of ba ac; have h2 := mul_le_of bb af; have h3 := mul_le_of bc an'
    unfold cmp; simp only; omega
  · have h1 := mul_le_of bd aa; have h2 := mul_le_of be ad
    unfold cmp; simp only; omega
  · have h1 := mul_le_of bd ab; have h2 := mul_le_of be ae
    unfold cmp; simp only; omega
  · have h1 := mul_le_of bd ac; have h2 := mul_le_of be af; have h3 := mul_le_of bf an'
    unfold cmp; simp only; omega
  · have h1 := mul_le_of an' bn'
    unfold cmp; simp only; omega
theorem sgn_cases (x : Af) : sgn x = 1 ∧ 0 ≤ det x ∨ sgn x = -1 ∧ det x < 0 := by unfold sgn; split <;> omega
theorem inv_far {x : Af} (h : Bd x) : Far (inv x) := by
  have hd0 := det_bd h
  obtain ⟨hn, ha, hb, hd, he, hc, hf⟩ := h
  have hn' : -4096 ≤ x.n ∧ x.n ≤ 4096 := by omega
  have h1 := mul_le_of hn' he
  have h2 := mul_le_of hn' hb
  have h3 := mul_le_of hb hf
  have h4 := mul_le_of he hc
  have h5 := mul_le_of hn' hd
  have h6 := mul_le_of hn' ha
  have h7 := mul_le_of hd hc
  have h8 := mul_le_of ha hf
  rcases sgn_cases x with ⟨hs, _⟩ | ⟨hs, _⟩
  all_goals
    refine far_mk ?_ ?_ ?_ ?_ ?_ ?_ ?_ <;> unfold inv <;> simp only [hs, Int.one_mul, Int.neg_mul, Int.neg_neg] <;> omega
theorem far_w {x : Af} (h : Far x) {v : Int} (hv : v ∈ x.l) : wrap64 v = v := by have := h v hv; exact w64 ⟨by omega, by omega⟩
theorem cmp_n {a b : Af} (ha : 1 ≤ a.n) (hb : 1 ≤ b.n) : 1 ≤ (cmp a b).n := by
  show 1 ≤ a.n * b.n
  have : 1 * 1 ≤ a.n * b.n := Int.mul_le_mul ha hb (by omega) (by omega)
  omega
theorem inv_n {x : Af} (h : det x ≠ 0) : 1 ≤ (inv x).n := by
  show 1 ≤ sgn x * det x
  rcases sgn_cases x with ⟨hs, _⟩ | ⟨hs, _⟩ <;> rw [hs] <;> omega
end Go.Proofs.Ytgipfcpkphmbpaa.F
