/-
  Interpolation in a grid, in plain mathematics.
-/
import Derived.Test.YtcmplgiilcfncaaKLoc
import Derived.Test.YtcmplgiilcfncaaKGrid
import Derived.Test.YtcmplgiilcfncaaKAdd
namespace Go.Proofs.Ytcmplgiilcfncaa.K
open Go.RowKit
variable {W w w' : World} {L : List (Nat × Obj)}

def fo (n : Int) (c : C3) : Nat → Int := f3 (ofs n (clp 0 65535 c.r)) (ofs n (clp 0 65535 c.g)) (ofs n (clp 0 65535 c.b))
def ax (n : Int) (c : C3) : T3 := insO (fo n c) 3
def strd (n : Int) : Nat → Int := f3 (n * n) n 1
def cor (n : Int) (c : C3) : Int := cel n (clp 0 65535 c.r) * (n * n) + cel n (clp 0 65535 c.g) * n + cel n (clp 0 65535 c.b)
def wsum (s x : C3) (m : Int) : C3 := ⟨s.r + x.r * m, s.g + x.g * m, s.b + x.b * m⟩
/-- the four corners that are visited -/
def q0 (n : Int) (c : C3) : Int := cor n c
def q1 (n : Int) (c : C3) : Int := q0 n c + strd n (ax n c).a
def q2 (n : Int) (c : C3) : Int := q1 n c + strd n (ax n c).b
def q3 (n : Int) (c : C3) : Int := q2 n c + strd n (ax n c).c
def s0 (n : Int) (l : List C3) (c : C3) : C3 := wsum c30 (c3n l (q0 n c).toNat) (65535 - fo n c (ax n c).a)
def s1 (n : Int) (l : List C3) (c : C3) : C3 := wsum (s0 n l c) (c3n l (q1 n c).toNat) (fo n c (ax n c).a - fo n c (ax n c).b)
def s2 (n : Int) (l : List C3) (c : C3) : C3 := wsum (s1 n l c) (c3n l (q2 n c).toNat) (fo n c (ax n c).b - fo n c (ax n c).c)
def s3 (n : Int) (l : List C3) (c : C3) : C3 := wsum (s2 n l c) (c3n l (q3 n c).toNat) (fo n c (ax n c).c)
def ipl (n : Int) (l : List C3) (c : C3) : C3 := (s3 n l c).map fun v => (v + 32767) / 65535
/-- the order of the axes -/
def Perm3 (t : T3) : Prop := t = ⟨0, 1, 2⟩ ∨ t = ⟨0, 2, 1⟩ ∨ t = ⟨1, 0, 2⟩ ∨ t = ⟨1, 2, 0⟩ ∨ t = ⟨2, 0, 1⟩ ∨ t = ⟨2, 1, 0⟩
theorem insO_perm (f : Nat → Int) : Perm3 (insO f 3) ∧ f (insO f 3).b ≤ f (insO f 3).a ∧ f (insO f 3).c ≤ f (insO f 3).b := by
  unfold insO ins2 ins1 Perm3
  by_cases h1 : f 0 < f 1 <;> by_cases h2 : f 1 < f 2 <;> by_cases h3 : f 0 < f 2 <;> simp [h1, h2, h3] <;> omega
theorem Perm3.lt {t : T3} (h : Perm3 t) : t.a < 3 ∧ t.b < 3 ∧ t.c < 3 := by
  rcases h with rfl | rfl | rfl | rfl | rfl | rfl <;> decide
theorem fo_rng {n : Int} (h2 : 2 ≤ n) (h17 : n ≤ 17) (c : C3) (k : Nat) : 0 ≤ fo n c k ∧ fo n c k ≤ 65535 := by
  have h := fun v => cel_facts h2 h17 (show Gm (clp 0 65535 v) by unfold Gm clp; omega)
  unfold fo f3
  split
  · obtain ⟨p, a, f, _, _, _, _, _, _, _, _, _, hf, _, f0, f1⟩ := h c.r; rw [hf]; exact ⟨f0, f1⟩
  · obtain ⟨p, a, f, _, _, _, _, _, _, _, _, _, hf, _, f0, f1⟩ := h c.g; rw [hf]; exact ⟨f0, f1⟩
  · obtain ⟨p, a, f, _, _, _, _, _, _, _, _, _, hf, _, f0, f1⟩ := h c.b; rw [hf]; exact ⟨f0, f1⟩
theorem cel_rng {n : Int} (h2 : 2 ≤ n) (h17 : n ≤ 17) (v : Int) : 0 ≤ cel n (clp 0 65535 v) ∧ cel n (clp 0 65535 v) ≤ n - 2 := by
  obtain ⟨p, a, f, _, _, _, _, _, ha, _, a0, a1, _⟩ := cel_facts h2 h17 (show Gm (clp 0 65535 v) by unfold Gm clp; omega)
  rw [ha]; exact ⟨a0, a1⟩
/-- a corner's place in the grid -/
theorem place_lt {n x y z : Int} (h2 : 2 ≤ n) (x0 : 0 ≤ x) (x1 : x ≤ n - 1) (y0 : 0 ≤ y) (y1 : y ≤ n - 1) (z0 : 0 ≤ z) (z1 : z ≤ n - 1) : 0 ≤ x * (n * n) + y * n + z ∧ x * (n * n) + y * n + z < n * n * n := by
  have a1 := Int.mul_nonneg x0 (Int.mul_nonneg (by omega : (0 : Int) ≤ n) (by omega : (0 : Int) ≤ n))
  have a2 := Int.mul_nonneg y0 (by omega : (0 : Int) ≤ n)
  have b1 := Int.mul_le_mul_of_nonneg_right x1 (Int.mul_nonneg (by omega : (0 : Int) ≤ n) (by omega : (0 : Int) ≤ n))
  have b2 := Int.mul_le_mul_of_nonneg_right y1 (by omega : (0 : Int) ≤ n)
  rw [Int.sub_mul] at b1 b2
  have e : n * (n * n) = n * n * n := (Int.mul_assoc n n n).symm
  rw [e] at b1
  constructor <;> omega
theorem cor_bd {n : Int} (h2 : 2 ≤ n) (h17 : n ≤ 17) (c : C3) : (0 ≤ q0 n c ∧ q0 n c < n * n * n) ∧ (0 ≤ q1 n c ∧ q1 n c < n * n * n) ∧ (0 ≤ q2 n c ∧ q2 n c < n * n * n) ∧ (0 ≤ q3 n c ∧ q3 n c < n * n * n) := by
  obtain ⟨x0, x1⟩ := cel_rng h2 h17 c.r
  obtain ⟨y0, y1⟩ := cel_rng h2 h17 c.g
  obtain ⟨z0, z1⟩ := cel_rng h2 h17 c.b
  have hp := (insO_perm (fo n c)).1
  have P := fun (i j k : Int) (hi : 0 ≤ i ∧ i ≤ 1) (hj : 0 ≤ j ∧ j ≤ 1) (hk : 0 ≤ k ∧ k ≤ 1) => place_lt (n := n) (x := cel n (clp 0 65535 c.r) + i) (y := cel n (clp 0 65535 c.g) + j) (z := cel n (clp 0 65535 c.b) + k) h2 (by omega) (by omega) (by omega) (by omega) (by omega) (by omega)
  simp only [Int.add_mul] at P
  have P000 := P 0 0 0 (by omega) (by omega) (by omega)
  have P100 := P 1 0 0 (by omega) (by omega) (by omega)
  have P010 := P 0 1 0 (by omega) (by omega) (by omega)
  have P001 := P 0 0 1 (by omega) (by omega) (by omega)
  have P110 := P 1 1 0 (by omega) (by omega) (by omega)
  have P101 := P 1 0 1 (by omega) (by omega) (by omega)
  have P011 := P 0 1 1 (by omega) (by omega) (by omega)
  have P111 := P 1 1 1 (by omega) (by omega) (by omega)
  simp only [Int.zero_mul, Int.one_mul] at P000 P100 P010 P001 P110 P101 P011 P111
  have e : ax n c = insO (fo n c) 3 := rfl
  unfold q3 q2 q1 q0 cor
  rw [e]
  generalize insO (fo n c) 3 = t at hp ⊢
  rcases hp with rfl | rfl | rfl | rfl | rfl | rfl <;> simp only [strd, f3] <;> omega
theorem sum_bd {s x : C3} {m B : Int} (hx : InG x) (m0 : 0 ≤ m) (m1 : m ≤ 65535) (hs : (0 ≤ s.r ∧ s.r ≤ B) ∧ (0 ≤ s.g ∧ s.g ≤ B) ∧ (0 ≤ s.b ∧ s.b ≤ B)) :
    (0 ≤ (wsum s x m).r ∧ (wsum s x m).r ≤ B + 4294836225) ∧ (0 ≤ (wsum s x m).g ∧ (wsum s x m).g ≤ B + 4294836225) ∧ (0 ≤ (wsum s x m).b ∧ (wsum s x m).b ≤ B + 4294836225) := by
  have a := mul_bd hx.1.1 hx.1.2 m0 m1
  have b := mul_bd hx.2.1.1 hx.2.1.2 m0 m1
  have c := mul_bd hx.2.2.1 hx.2.2.2 m0 m1
  unfold wsum
  simp only []
  omega
end Go.Proofs.Ytcmplgiilcfncaa.K
