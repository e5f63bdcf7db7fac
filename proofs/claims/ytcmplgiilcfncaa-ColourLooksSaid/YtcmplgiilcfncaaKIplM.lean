/-
  What interpolation does: between the corners, and the colour of a grid point.
-/
import Derived.Test.YtcmplgiilcfncaaKIpl
namespace Go.Proofs.Ytcmplgiilcfncaa.K
open Go.RowKit

/-- the corner i of the cell a -/
def crn (n a0 a1 a2 : Int) (i : Nat) : Int := ((a0 + (i % 2 : Nat)) * n + a1 + (i / 2 % 2 : Nat)) * n + a2 + (i / 4 : Nat)
theorem crn_eq (n a0 a1 a2 : Int) (i : Nat) : crn n a0 a1 a2 i = a0 * (n * n) + a1 * n + a2 + (i % 2 : Nat) * (n * n) + (i / 2 % 2 : Nat) * n + (i / 4 : Nat) := by
  unfold crn
  generalize ((i % 2 : Nat) : Int) = x
  generalize ((i / 2 % 2 : Nat) : Int) = y
  generalize ((i / 4 : Nat) : Int) = z
  simp only [Int.add_mul, Int.mul_assoc]
  omega
/-- each corner that is visited is one of the eight -/
theorem q_crn (n : Int) (c : C3) : let a0 := cel n (clp 0 65535 c.r); let a1 := cel n (clp 0 65535 c.g); let a2 := cel n (clp 0 65535 c.b)
    (∃ i, i < 8 ∧ q0 n c = crn n a0 a1 a2 i) ∧ (∃ i, i < 8 ∧ q1 n c = crn n a0 a1 a2 i) ∧ (∃ i, i < 8 ∧ q2 n c = crn n a0 a1 a2 i) ∧ (∃ i, i < 8 ∧ q3 n c = crn n a0 a1 a2 i) := by
  intro a0 a1 a2
  have hp := (insO_perm (fo n c)).1
  have e : ax n c = insO (fo n c) 3 := rfl
  have ec : cor n c = a0 * (n * n) + a1 * n + a2 := rfl
  have C : ∀ i, crn n a0 a1 a2 i = cor n c + (i % 2 : Nat) * (n * n) + (i / 2 % 2 : Nat) * n + (i / 4 : Nat) := fun i => by rw [crn_eq, ec]
  have C0 := C 0; have C1 := C 1; have C2 := C 2; have C3' := C 3; have C4 := C 4; have C5 := C 5; have C6 := C 6; have C7 := C 7
  simp at C0 C1 C2 C3' C4 C5 C6 C7
  clear C
  unfold q3 q2 q1 q0
  rw [e]
  generalize insO (fo n c) 3 = t at hp ⊢
  rcases hp with rfl | rfl | rfl | rfl | rfl | rfl <;> simp only [strd, f3]
  · exact ⟨⟨0, by omega, by omega⟩, ⟨1, by omega, by omega⟩, ⟨3, by omega, by omega⟩, ⟨7, by omega, by omega⟩⟩
  · exact ⟨⟨0, by omega, by omega⟩, ⟨1, by omega, by omega⟩, ⟨5, by omega, by omega⟩, ⟨7, by omega, by omega⟩⟩
  · exact ⟨⟨0, by omega, by omega⟩, ⟨2, by omega, by omega⟩, ⟨3, by omega, by omega⟩, ⟨7, by omega, by omega⟩⟩
  · exact ⟨⟨0, by omega, by omega⟩, ⟨2, by omega, by omega⟩, ⟨6, by omega, by omega⟩, ⟨7, by omega, by omega⟩⟩
  · exact ⟨⟨0, by omega, by omega⟩, ⟨4, by omega, by omega⟩, ⟨5, by omega, by omega⟩, ⟨7, by omega, by omega⟩⟩
  · exact ⟨⟨0, by omega, by omega⟩, ⟨4, by omega, by omega⟩, ⟨6, by omega, by omega⟩, ⟨7, by omega, by omega⟩⟩
theorem mix4 {v0 v1 v2 v3 w0 w1 w2 w3 lo hi : Int} (h0 : lo ≤ v0 ∧ v0 ≤ hi) (h1 : lo ≤ v1 ∧ v1 ≤ hi) (h2 : lo ≤ v2 ∧ v2 ≤ hi) (h3 : lo ≤ v3 ∧ v3 ≤ hi) (p0 : 0 ≤ w0) (p1 : 0 ≤ w1) (p2 : 0 ≤ w2) (p3 : 0 ≤ w3) (hs : w0 + w1 + w2 + w3 = 65535) :
    lo ≤ (0 + v0 * w0 + v1 * w1 + v2 * w2 + v3 * w3 + 32767) / 65535 ∧ (0 + v0 * w0 + v1 * w1 + v2 * w2 + v3 * w3 + 32767) / 65535 ≤ hi := by
  have a0 := Int.mul_le_mul_of_nonneg_right h0.1 p0
  have a1 := Int.mul_le_mul_of_nonneg_right h1.1 p1
  have a2 := Int.mul_le_mul_of_nonneg_right h2.1 p2
  have a3 := Int.mul_le_mul_of_nonneg_right h3.1 p3
  have b0 := Int.mul_le_mul_of_nonneg_right h0.2 p0
  have b1 := Int.mul_le_mul_of_nonneg_right h1.2 p1
  have b2 := Int.mul_le_mul_of_nonneg_right h2.2 p2
  have b3 := Int.mul_le_mul_of_nonneg_right h3.2 p3
  have el : lo * w0 + lo * w1 + lo * w2 + lo * w3 = lo * 65535 := by rw [← hs]; simp only [Int.mul_add]
  have eh : hi * w0 + hi * w1 + hi * w2 + hi * w3 = hi * 65535 := by rw [← hs]; simp only [Int.mul_add]
  omega
theorem ipl_mid {n : Int} (h2 : 2 ≤ n) (h17 : n ≤ 17) (l : List C3) (c : C3) (f : C3 → Int) (hf : f = C3.r ∨ f = C3.g ∨ f = C3.b) (lo hi : Int)
    (h : ∀ i, i < 8 → lo ≤ f (c3n l (crn n (cel n (clp 0 65535 c.r)) (cel n (clp 0 65535 c.g)) (cel n (clp 0 65535 c.b)) i).toNat) ∧ f (c3n l (crn n (cel n (clp 0 65535 c.r)) (cel n (clp 0 65535 c.g)) (cel n (clp 0 65535 c.b)) i).toNat) ≤ hi) :
    lo ≤ f (ipl n l c) ∧ f (ipl n l c) ≤ hi := by
  obtain ⟨⟨i0, l0, e0⟩, ⟨i1, l1, e1⟩, ⟨i2, l2, e2⟩, ⟨i3, l3, e3⟩⟩ := q_crn n c
  have h0 := h i0 l0; have h1 := h i1 l1; have h2' := h i2 l2; have h3 := h i3 l3
  rw [← e0] at h0; rw [← e1] at h1; rw [← e2] at h2'; rw [← e3] at h3
  have hp := insO_perm (fo n c)
  have r0 := fo_rng h2 h17 c (ax n c).a
  have r3 := fo_rng h2 h17 c (ax n c).c
  have ea : ax n c = insO (fo n c) 3 := rfl
  rw [← ea] at hp
  have key := fun (v0 v1 v2 v3 : Int) k0 k1 k2 k3 => mix4 (v0 := v0) (v1 := v1) (v2 := v2) (v3 := v3) (lo := lo) (hi := hi) (w0 := 65535 - fo n c (ax n c).a) (w1 := fo n c (ax n c).a - fo n c (ax n c).b) (w2 := fo n c (ax n c).b - fo n c (ax n c).c) (w3 := fo n c (ax n c).c) k0 k1 k2 k3 (by omega) (by omega) (by omega) (by omega) (by omega)
  unfold ipl s3 s2 s1 s0 wsum c30
  rcases hf with rfl | rfl | rfl <;> exact key _ _ _ _ h0 h1 h2' h3
/-- a coordinate that is exact -/
theorem cel_exact {n s a : Int} (h2 : 2 ≤ n) (hs : s * (n - 1) = 65535) (h0 : 0 ≤ a) (h1 : a ≤ n - 2) : clp 0 65535 (s * a) = s * a ∧ cel n (s * a) = a ∧ ofs n (s * a) = 0 := by
  have e : s * a * (n - 1) = 65535 * a := by rw [Int.mul_right_comm, hs]
  have hs0 : 0 ≤ s := by
    by_cases h : 0 ≤ s
    · exact h
    · have := Int.mul_nonneg (show 0 ≤ -s by omega) (show 0 ≤ n - 1 by omega)
      rw [Int.neg_mul] at this; omega
  have p0 : 0 ≤ s * a := Int.mul_nonneg hs0 h0
  have p1 : s * a ≤ s * (n - 1) := Int.mul_le_mul_of_nonneg_left (by omega) hs0
  have hc : cel n (s * a) = a := by unfold cel; rw [e]; omega
  refine ⟨by unfold clp; omega, hc, ?_⟩
  unfold ofs
  rw [hc, e]; omega
theorem ipl_exact {n s a0 a1 a2 : Int} (h2 : 2 ≤ n) (hs : s * (n - 1) = 65535) (l : List C3) (b0 : 0 ≤ a0 ∧ a0 ≤ n - 2) (b1 : 0 ≤ a1 ∧ a1 ≤ n - 2) (b2 : 0 ≤ a2 ∧ a2 ≤ n - 2) :
    ipl n l ⟨s * a0, s * a1, s * a2⟩ = c3n l (crn n a0 a1 a2 0).toNat := by
  obtain ⟨x0, x1, x2⟩ := cel_exact h2 hs b0.1 b0.2
  obtain ⟨y0, y1, y2⟩ := cel_exact h2 hs b1.1 b1.2
  obtain ⟨z0, z1, z2⟩ := cel_exact h2 hs b2.1 b2.2
  have hf : ∀ k, fo n ⟨s * a0, s * a1, s * a2⟩ k = 0 := fun k => by
    unfold fo; rw [x0, y0, z0, x2, y2, z2]; unfold f3; split <;> rfl
  have hq : q0 n ⟨s * a0, s * a1, s * a2⟩ = crn n a0 a1 a2 0 := by
    rw [crn_eq]; unfold q0 cor; rw [x0, y0, z0, x1, y1, z1]; simp
  unfold ipl s3 s2 s1 s0 wsum c30
  simp only [hf, hq]
  generalize c3n l (crn n a0 a1 a2 0).toNat = d
  obtain ⟨d0, d1, d2⟩ := d
  simp only [C3.map, C3.mk.injEq]
  omega
end Go.Proofs.Ytcmplgiilcfncaa.K
