/-
  Products of channel values and the blend functions, of pixel and of the reference (contracts).
-/
import Derived.Test.YtfncldaodbfakaaGreatSt
namespace Go.Proofs.YtfncldaodbfakaaGreat
open Go.RowKit

def scr (b s : Int) : Int := b + s - pr b s
def hrd (b s : Int) : Int := if s < 128 then pr b (2 * s) else scr b (2 * s - 255)
def dod (b s : Int) : Int := if b = 0 then 0 else if s = 255 then 255 else min 255 (255 * b / (255 - s))
def brn (b s : Int) : Int := if b = 255 then 255 else if s = 0 then 0 else 255 - min 255 (255 * (255 - b) / s)
def sft (b s : Int) : Int := min 255 (pr (255 - b) (pr b s) + pr b (scr b s))
def dst (x y : Int) : Int := if x < y then y - x else x - y
def exc (b s : Int) : Int := max 0 (b + s - 2 * pr b s)
def bl (m b s : Int) : Int :=
  if m = 1 then pr b s else if m = 2 then scr b s else if m = 3 then hrd s b else if m = 4 then min b s else if m = 5 then max b s
  else if m = 6 then dod b s else if m = 7 then brn b s else if m = 8 then hrd b s else if m = 9 then sft b s else if m = 10 then dst b s
  else if m = 11 then exc b s else if m = 12 then min 255 (b + s) else if m = 13 then max 0 (b - s) else if m = 14 then rd (b + s) 2
  else if m = 15 then 255 - dst 255 (b + s) else s

theorem pr_facts {a b : Int} (ha : Ch a) (hb : Ch b) : 0 ≤ a * b ∧ a * b ≤ 255 * a ∧ a * b ≤ 255 * b ∧ 255 * a + 255 * b - 65025 ≤ a * b := by
  have h1 := Int.mul_nonneg ha.1 hb.1
  have h2 := Int.mul_nonneg ha.1 (show 0 ≤ 255 - b by omega)
  have h3 := Int.mul_nonneg (show 0 ≤ 255 - a by omega) hb.1
  have h4 := Int.mul_nonneg (show 0 ≤ 255 - a by omega) (show 0 ≤ 255 - b by omega)
  rw [Int.mul_sub] at h2 h4
  rw [Int.sub_mul] at h3 h4
  rw [Int.sub_mul] at h4
  omega
theorem pr_le {a b : Int} (ha : Ch a) (hb : Ch b) : 0 ≤ pr a b ∧ pr a b ≤ a ∧ pr a b ≤ b ∧ a + b - 255 ≤ pr a b := by
  have := pr_facts ha hb; unfold pr rd; generalize a * b = x at *; omega
theorem scr_ch {a b : Int} (ha : Ch a) (hb : Ch b) : Ch (scr a b) := by have := pr_le ha hb; unfold scr; constructor <;> omega
theorem hrd_ch {a b : Int} (ha : Ch a) (hb : Ch b) : Ch (hrd a b) := by
  unfold hrd; split
  · exact pr_ch ha ⟨by omega, by omega⟩
  · exact scr_ch ha ⟨by omega, by omega⟩
theorem div_nn {x y : Int} (hx : 0 ≤ x) (hy : 0 ≤ y) : 0 ≤ x / y := Int.ediv_nonneg hx hy
theorem dod_ch {a b : Int} (ha : Ch a) (hb : Ch b) : Ch (dod a b) := by
  have h := div_nn (show 0 ≤ 255 * a by omega) (show 0 ≤ 255 - b by omega)
  unfold dod; generalize 255 * a / (255 - b) = q at *; constructor <;> (split <;> (try split)) <;> omega
theorem brn_ch {a b : Int} (ha : Ch a) (hb : Ch b) : Ch (brn a b) := by
  have h := div_nn (show 0 ≤ 255 * (255 - a) by omega) hb.1
  unfold brn; generalize 255 * (255 - a) / b = q at *; constructor <;> (split <;> (try split)) <;> omega
theorem sft_ch {a b : Int} (ha : Ch a) (hb : Ch b) : Ch (sft a b) := by
  have h1 := pr_ch (a := 255 - a) (b := pr a b) ⟨by omega, by omega⟩ (pr_ch ha hb)
  have h2 := pr_ch ha (scr_ch ha hb)
  unfold sft; constructor <;> omega
theorem dst_ch {a b : Int} (ha : Ch a) (hb : Ch b) : Ch (dst a b) := by unfold dst; constructor <;> split <;> omega
theorem exc_ch {a b : Int} (ha : Ch a) (hb : Ch b) : Ch (exc a b) := by have := pr_le ha hb; unfold exc; constructor <;> omega
theorem bl_ch (m : Int) {a b : Int} (ha : Ch a) (hb : Ch b) : Ch (bl m a b) := by
  unfold bl
  by_cases h1 : m = 1; · rw [if_pos h1]; exact pr_ch ha hb
  rw [if_neg h1]
  by_cases h2 : m = 2; · rw [if_pos h2]; exact scr_ch ha hb
  rw [if_neg h2]
  by_cases h3 : m = 3; · rw [if_pos h3]; exact hrd_ch hb ha
  rw [if_neg h3]
  by_cases h4 : m = 4; · rw [if_pos h4]; constructor <;> omega
  rw [if_neg h4]
  by_cases h5 : m = 5; · rw [if_pos h5]; constructor <;> omega
  rw [if_neg h5]
  by_cases h6 : m = 6; · rw [if_pos h6]; exact dod_ch ha hb
  rw [if_neg h6]
  by_cases h7 : m = 7; · rw [if_pos h7]; exact brn_ch ha hb
  rw [if_neg h7]
  by_cases h8 : m = 8; · rw [if_pos h8]; exact hrd_ch ha hb
  rw [if_neg h8]
  by_cases h9 : m = 9; · rw [if_pos h9]; exact sft_ch ha hb
  rw [if_neg h9]
  by_cases h10 : m = 10; · rw [if_pos h10]; exact dst_ch ha hb
  rw [if_neg h10]
  by_cases h11 : m = 11; · rw [if_pos h11]; exact exc_ch ha hb
  rw [if_neg h11]
  by_cases h12 : m = 12; · rw [if_pos h12]; constructor <;> omega
  rw [if_neg h12]
  by_cases h13 : m = 13; · rw [if_pos h13]; constructor <;> omega
  rw [if_neg h13]
  by_cases h14 : m = 14; · rw [if_pos h14]; unfold rd; constructor <;> omega
  rw [if_neg h14]
  by_cases h15 : m = 15; · rw [if_pos h15]; unfold dst; constructor <;> split <;> omega
  rw [if_neg h15]; exact hb

theorem dst_sub (b s : Int) : dst (b - s) 0 = dst b s := by unfold dst; split <;> split <;> omega
theorem dst_255 (b s : Int) : dst (255 - b - s) 0 = dst 255 (b + s) := by unfold dst; split <;> split <;> omega
end Go.Proofs.YtfncldaodbfakaaGreat
