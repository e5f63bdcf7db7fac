/-
  The reference's Made in plain mathematics: a valid curve of whatever numbers.
-/
import Derived.Test.YtbodmeiecdomfaaGreatPow
namespace Go.Proofs.YtbodmeiecdomfaaGreat

/-- the sum of the first k numbers, each modulo 65536 -/
def sm (l : List Int) : Nat → Int
  | 0 => 0
  | k + 1 => sm l k + cg l k % 65536
theorem sm_bd (l : List Int) : ∀ k, 0 ≤ sm l k ∧ sm l k ≤ 65535 * k
  | 0 => by simp [sm]
  | k + 1 => by have := sm_bd l k; unfold sm; omega
theorem sm_mono (l : List Int) {i j : Nat} (h : i ≤ j) : sm l i ≤ sm l j := by
  induction j with
  | zero => rw [show i = 0 by omega]; exact Int.le_refl _
  | succ j ih =>
    by_cases he : i = j + 1
    · rw [he]; exact Int.le_refl _
    · have h1 := ih (by omega)
      have h2 : sm l (j + 1) = sm l j + cg l j % 65536 := rfl
      omega
/-- where the values begin -/
def lw (l : List Int) : Int := if 2 < l.length ∧ cg l 0 % 8 = 3 then cg l 1 % 4096 else 0
theorem lw_bd (l : List Int) : 0 ≤ lw l ∧ lw l ≤ 4095 := by unfold lw; split <;> omega
def md (l : List Int) : Nat := min l.length 256
/-- a sum, scaled -/
def scal (l : List Int) (i : Nat) : Int := lw l + sm l i * (65535 - lw l) / sm l (md l)
def madeL (l : List Int) : List Int := if md l = 0 then [0, 65535] else (List.range (md l + 1)).map fun i => if 0 < sm l (md l) then scal l i else sm l i
theorem quo_bd {x y t : Int} (hx : 0 ≤ x) (hxt : x ≤ t) (hy : 0 ≤ y) (ht : 0 < t) : 0 ≤ x * y / t ∧ x * y / t ≤ y := by
  refine ⟨Int.ediv_nonneg (Int.mul_nonneg hx hy) (Int.le_of_lt ht), ?_⟩
  have : x * y ≤ t * y := Int.mul_le_mul_of_nonneg_right hxt hy
  have h2 := Int.ediv_le_ediv ht this
  rwa [Int.mul_ediv_cancel_left _ (by omega)] at h2
theorem scal_bd {l : List Int} {i : Nat} (h : 0 < sm l (md l)) (hi : i ≤ md l) : 0 ≤ scal l i ∧ scal l i ≤ 65535 := by
  have hb := lw_bd l
  have := quo_bd (y := 65535 - lw l) (sm_bd l i).1 (sm_mono l hi) (by omega) h
  unfold scal; omega
theorem made_len (l : List Int) : (madeL l).length = (if md l = 0 then 2 else md l + 1) := by unfold madeL; split <;> simp
theorem made_cv (l : List Int) : Cv (madeL l) := by
  have hmd : md l ≤ 256 := by unfold md; omega
  by_cases hm : md l = 0
  · have : madeL l = [0, 65535] := by unfold madeL; rw [if_pos hm]
    rw [this]
    refine ⟨by simp, by simp, fun i hi => ?_, fun i hi => ?_⟩
    · simp at hi
      obtain rfl | rfl : i = 0 ∨ i = 1 := by omega
      · simp [cg]
      · simp [cg]
    · simp at hi
      obtain rfl : i = 0 := by omega
      simp [cg]
  · have hl : (madeL l).length = md l + 1 := by rw [made_len, if_neg hm]
    have hg : ∀ i, i < md l + 1 → cg (madeL l) i = if 0 < sm l (md l) then scal l i else sm l i := fun i hi => by unfold madeL; rw [if_neg hm, cg_map hi]
    refine ⟨by omega, by omega, fun i hi => ?_, fun i hi => ?_⟩
    · rw [hl] at hi
      rw [hg i hi]
      split
      · rename_i h; exact scal_bd h (by omega)
      · rename_i h
        have h1 := sm_mono l (i := i) (j := md l) (by omega)
        have := sm_bd l i
        omega
    · rw [hl] at hi
      rw [hg i (by omega), hg (i + 1) hi]
      have h1 := sm_mono l (i := i) (j := i + 1) (by omega)
      have hb := lw_bd l
      split
      · rename_i h
        unfold scal
        have : sm l i * (65535 - lw l) ≤ sm l (i + 1) * (65535 - lw l) := Int.mul_le_mul_of_nonneg_right h1 (by omega)
        have := Int.ediv_le_ediv h this
        omega
      · exact h1
end Go.Proofs.YtbodmeiecdomfaaGreat
