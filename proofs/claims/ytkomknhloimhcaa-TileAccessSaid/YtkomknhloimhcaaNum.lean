/-
  Products of channel values and the blend functions, of pixel and of the reference (contracts).
-/
import Derived.Test.YtkomknhloimhcaaSt
namespace Go.Proofs.Ytkomknhloimhcaa
open Go.RowKit

theorem product_any (a b : Int) (w : World) (ha : Ch a) (hb : Ch b) : Calls Try.prog 71 #[.int .i64 a, .int .i64 b] w fun e w' => e = .returned (.int .i64 (pr a b)) ∧ Below w.heap.size w w' := by
  have hs := sq_ch ha hb
  go_enter Try.func71, Try.ntmps71
  go_wp2_with (first
    | (go_at_call 61; (with_reducible refine (near_any _ _).mono ?_); rintro e w1 ⟨rfl, rfl⟩)
    | (go_at_call 89; (refine (near1_any _ 255 w.heap.size _ hs.1 (by omega) (by decide) (by decide) (cell_alloc _ _ _)).mono ?_); rintro e w1 ⟨rfl, rfl⟩))
  go_ret
  exact ⟨rfl, below1⟩
theorem mul_any (a b : Int) (w : World) : Calls Try.prog 59 #[.int .i64 a, .int .i64 b] w fun e w' => e = .returned (.int .i64 (mul a b)) ∧ Below w.heap.size w w' := by
  go_enter Try.func59, Try.ntmps59
  go_wp2_with (first
    | (go_at_call 72; (with_reducible refine (clamp_any _ _).mono ?_); rintro e w1 ⟨rfl, rfl⟩)
    | (go_at_call 71; (with_reducible refine (product_any _ _ _ (cl_ch _) (cl_ch _)).mono ?_); rintro e w1 ⟨rfl, hb⟩))
  go_ret
  exact ⟨rfl, hb⟩
theorem refMul_any (a b : Int) (w : World) : Calls Try.prog 65 #[.int .i64 a, .int .i64 b] w fun e w' => e = .returned (.int .i64 (mul a b)) ∧ w = w' := by
  have hs := sq_ch (cl_ch a) (cl_ch b)
  go_enter Try.func65, Try.ntmps65
  go_wp2_with (first
    | (go_at_call 90; (with_reducible refine (refClamp_any _ _).mono ?_); rintro e w1 ⟨rfl, rfl⟩)
    | (go_at_call 67; (refine (refRound_any _ 255 _ hs.1 (by omega) (by decide) (by decide)).mono ?_); rintro e w1 ⟨rfl, rfl⟩))
  go_ret
  exact ⟨rfl, rfl⟩
theorem refMul_in (a b : Int) (w : World) (ha : Ch a) (hb : Ch b) : Calls Try.prog 65 #[.int .i64 a, .int .i64 b] w fun e w' => e = .returned (.int .i64 (pr a b)) ∧ w = w' := by
  have h := refMul_any a b w
  rw [show mul a b = pr a b by unfold mul; rw [cl_of ha, cl_of hb]] at h; exact h

def scr (b s : Int) : Int := b + s - pr b s
def hrd (b s : Int) : Int := if s < 128 then pr b (2 * s) else scr b (2 * s - 255)
def dod (b s : Int) : Int := if b = 0 then 0 else if s = 255 then 255 else min 255 (255 * b / (255 - s))
def brn (b s : Int) : Int := if b = 255 then 255 else if s = 0 then 0 else 255 - min 255 (255 * (255 - b) / s)
def sft (b s : Int) : Int := min 255 (pr (255 - b) (pr b s) + pr b (scr b s))
def dst (x y : Int) : Int := if x < y then y - x else x - y
def exc (b s : Int) : Int := max 0 (b + s - 2 * pr b s)
def bl (m b s : Int) : Int :=
  if m = 1 then pr b s else if m = 2 then scr b s else if m = 3 then hrd s b else if m = 4 then min b s else if m = 5 then max b s
  else if m = 6 then dod b s else if m = 7 then brn b s else if m = 8 then hrd b s else if m = 9 then sft b s else if m = 10 then dst b s
  else if m = 11 then exc b s else if m = 12 then min 255 (b + s) else if m = 13 then max 0 (b - s) else if m = 14 then rd (b + s) 2
  else if m = 15 then 255 - dst 255 (b + s) else s

theorem pr_facts {a b : Int} (ha : Ch a) (hb : Ch b) : 0 ≤ a * b ∧ a * b ≤ 255 * a ∧ a * b ≤ 255 * b ∧ 255 * a + 255 * b - 65025 ≤ a * b := by
  have h1 := Int.mul_nonneg ha.1 hb.1
  have h2 := Int.mul_nonneg ha.1 (show 0 ≤ 255 - b by omega)
  have h3 := Int.mul_nonneg (show 0 ≤ 255 - a by omega) hb.1
  have h4 := Int.mul_nonneg (show 0 ≤ 255 - a by omega) (show 0 ≤ 255 - b by omega)
  rw [Int.mul_sub] at h2 h4
  rw [Int.sub_mul] at h3 h4
  rw [Int.sub_mul] at h4
  omega
theorem pr_le {a b : Int} (ha : Ch a) (hb : Ch b) : 0 ≤ pr a b ∧ pr a b ≤ a ∧ pr a b ≤ b ∧ a + b - 255 ≤ pr a b := by
  have := pr_facts ha hb; unfold pr rd; generalize a * b = x at *; omega
theorem scr_ch {a b : Int} (ha : Ch a) (hb : Ch b) : Ch (scr a b) := by have := pr_le ha hb; unfold scr; constructor <;> omega
theorem hrd_ch {a b : Int} (ha : Ch a) (hb : Ch b) : Ch (hrd a b) := by
  unfold hrd; split
  · exact pr_ch ha ⟨by omega, by omega⟩
  · exact scr_ch ha ⟨by omega, by omega⟩
theorem div_nn {x y : Int} (hx : 0 ≤ x) (hy : 0 ≤ y) : 0 ≤ x / y := Int.ediv_nonneg hx hy
theorem dod_ch {a b : Int} (ha : Ch a) (hb : Ch b) : Ch (dod a b) := by
  have h := div_nn (show 0 ≤ 255 * a by omega) (show 0 ≤ 255 - b by omega)
  unfold dod; generalize 255 * a / (255 - b) = q at *; constructor <;> (split <;> (try split)) <;> omega
theorem brn_ch {a b : Int} (ha : Ch a) (hb : Ch b) : Ch (brn a b) := by
  have h := div_nn (show 0 ≤ 255 * (255 - a) by omega) hb.1
  unfold brn; generalize 255 * (255 - a) / b = q at *; constructor <;> (split <;> (try split)) <;> omega
theorem sft_ch {a b : Int} (ha : Ch a) (hb : Ch b) : Ch (sft a b) := by
  have h1 := pr_ch (a := 255 - a) (b := pr a b) ⟨by omega, by omega⟩ (pr_ch ha hb)
  have h2 := pr_ch ha (scr_ch ha hb)
  unfold sft; constructor <;> omega
theorem dst_ch {a b : Int} (ha : Ch a) (hb : Ch b) : Ch (dst a b) := by unfold dst; constructor <;> split <;> omega
theorem exc_ch {a b : Int} (ha : Ch a) (hb : Ch b) : Ch (exc a b) := by have := pr_le ha hb; unfold exc; constructor <;> omega
theorem bl_ch (m : Int) {a b : Int} (ha : Ch a) (hb : Ch b) : Ch (bl m a b) := by
  unfold bl
  by_cases h1 : m = 1; · rw [if_pos h1]; exact pr_ch ha hb
  rw [if_neg h1]
  by_cases h2 : m = 2; · rw [if_pos h2]; exact scr_ch ha hb
  rw [if_neg h2]
  by_cases h3 : m = 3; · rw [if_pos h3]; exact hrd_ch hb ha
  rw [if_neg h3]
  by_cases h4 : m = 4; · rw [if_pos h4]; constructor <;> omega
  rw [if_neg h4]
  by_cases h5 : m = 5; · rw [if_pos h5]; constructor <;> omega
  rw [if_neg h5]
  by_cases h6 : m = 6; · rw [if_pos h6]; exact dod_ch ha hb
  rw [if_neg h6]
  by_cases h7 : m = 7; · rw [if_pos h7]; exact brn_ch ha hb
  rw [if_neg h7]
  by_cases h8 : m = 8; · rw [if_pos h8]; exact hrd_ch ha hb
  rw [if_neg h8]
  by_cases h9 : m = 9; · rw [if_pos h9]; exact sft_ch ha hb
  rw [if_neg h9]
  by_cases h10 : m = 10; · rw [if_pos h10]; exact dst_ch ha hb
  rw [if_neg h10]
  by_cases h11 : m = 11; · rw [if_pos h11]; exact exc_ch ha hb
  rw [if_neg h11]
  by_cases h12 : m = 12; · rw [if_pos h12]; constructor <;> omega
  rw [if_neg h12]
  by_cases h13 : m = 13; · rw [if_pos h13]; constructor <;> omega
  rw [if_neg h13]
  by_cases h14 : m = 14; · rw [if_pos h14]; unfold rd; constructor <;> omega
  rw [if_neg h14]
  by_cases h15 : m = 15; · rw [if_pos h15]; unfold dst; constructor <;> split <;> omega
  rw [if_neg h15]; exact hb

theorem Screen_any (b s : Int) (w : World) (hb : Ch b) (hs : Ch s) : Calls Try.prog 75 #[.int .i64 b, .int .i64 s] w fun e w' => e = .returned (.int .i64 (scr b s)) ∧ Below w.heap.size w w' := by
  have hp := pr_le hb hs
  have hq : Ch (pr b s) := pr_ch hb hs
  go_enter Try.func75, Try.ntmps75
  go_wp2_with (first
    | (go_at_call 71; (refine (Below.call (w0 := w) ?_ (product_any _ _ _ (by first | assumption | exact ⟨by omega, by omega⟩) (by first | assumption | exact ⟨by omega, by omega⟩))).mono ?_); (first | (focus assumption) | (focus exact Below.refl _ _)); rintro e w1 ⟨rfl, hz, _⟩))
  all_goals go_ret
  all_goals exact ⟨ret_int (by first | rfl | (unfold scr; omega) | (unfold scr; (try split) <;> (try split) <;> omega)), by first | assumption | exact Below.refl _ _⟩
theorem Hard_any (b s : Int) (w : World) (hb : Ch b) (hs : Ch s) : Calls Try.prog 77 #[.int .i64 b, .int .i64 s] w fun e w' => e = .returned (.int .i64 (hrd b s)) ∧ Below w.heap.size w w' := by
  go_enter Try.func77, Try.ntmps77
  go_wp2_with (first
    | (go_at_call 71; (refine (Below.call (w0 := w) ?_ (product_any _ _ _ (by first | assumption | exact ⟨by omega, by omega⟩) (by first | assumption | exact ⟨by omega, by omega⟩))).mono ?_); (first | (focus assumption) | (focus exact Below.refl _ _)); rintro e w1 ⟨rfl, hz, _⟩)
    | (go_at_call 75; (refine (Below.call (w0 := w) ?_ (Screen_any _ _ _ (by first | assumption | exact ⟨by omega, by omega⟩) (by first | assumption | exact ⟨by omega, by omega⟩))).mono ?_); (first | (focus assumption) | (focus exact Below.refl _ _)); rintro e w1 ⟨rfl, hz, _⟩))
  all_goals go_ret
  all_goals exact ⟨ret_int (by first | rfl | (unfold hrd; omega) | (unfold hrd; (try split) <;> (try split) <;> omega)), by first | assumption | exact Below.refl _ _⟩
theorem Dodge_any (b s : Int) (w : World) (hb : Ch b) (hs : Ch s) : Calls Try.prog 80 #[.int .i64 b, .int .i64 s] w fun e w' => e = .returned (.int .i64 (dod b s)) ∧ Below w.heap.size w w' := by
  by_cases h0 : b = 0
  · subst h0
    go_enter Try.func80, Try.ntmps80
    go_wp2
    all_goals go_ret
    all_goals exact ⟨ret_int (by unfold dod; simp), Below.refl _ _⟩
  by_cases h1 : s = 255
  · subst h1
    go_enter Try.func80, Try.ntmps80
    go_wp2
    all_goals go_ret
    all_goals exact ⟨ret_int (by unfold dod; first | rfl | (rw [if_neg h0]; rfl)), Below.refl _ _⟩
  have hz : ¬ 255 - s = 0 := by omega
  have hw : wrap64 ((255 * b).tdiv (255 - s)) = 255 * b / (255 - s) := by
    rw [Int.tdiv_eq_ediv_of_nonneg (by omega)]
    have h3 := Int.ediv_le_self (255 - s) (show 0 ≤ 255 * b by omega)
    have h4 := div_nn (show 0 ≤ 255 * b by omega) (show 0 ≤ (255 - s) by omega)
    generalize 255 * b / (255 - s) = q at *; unfold wrap64; omega
  · have hq : 0 ≤ 255 * b / (255 - s) := div_nn (by omega) (by omega)
    go_enter Try.func80, Try.ntmps80
    go_wp2
    all_goals go_ret
    all_goals exact ⟨ret_int (by unfold dod; rw [if_neg h0, if_neg h1]; simp only [hw] at *; generalize 255 * b / (255 - s) = q at *; first | omega | (unfold wrap64; omega)), Below.refl _ _⟩
theorem Burn_any (b s : Int) (w : World) (hb : Ch b) (hs : Ch s) : Calls Try.prog 81 #[.int .i64 b, .int .i64 s] w fun e w' => e = .returned (.int .i64 (brn b s)) ∧ Below w.heap.size w w' := by
  by_cases h0 : b = 255
  · subst h0
    go_enter Try.func81, Try.ntmps81
    go_wp2
    all_goals go_ret
    all_goals exact ⟨ret_int (by unfold brn; simp), Below.refl _ _⟩
  by_cases h1 : s = 0
  · subst h1
    go_enter Try.func81, Try.ntmps81
    go_wp2
    all_goals go_ret
    all_goals exact ⟨ret_int (by unfold brn; first | rfl | (rw [if_neg h0]; rfl)), Below.refl _ _⟩
  have hz : ¬ s = 0 := by omega
  have hw : wrap64 ((255 * (255 - b)).tdiv s) = 255 * (255 - b) / s := by
    rw [Int.tdiv_eq_ediv_of_nonneg (by omega)]
    have h3 := Int.ediv_le_self s (show 0 ≤ 255 * (255 - b) by omega)
    have h4 := div_nn (show 0 ≤ 255 * (255 - b) by omega) (show 0 ≤ s by omega)
    generalize 255 * (255 - b) / s = q at *; unfold wrap64; omega
  · have hq : 0 ≤ 255 * (255 - b) / s := div_nn (by omega) (by omega)
    go_enter Try.func81, Try.ntmps81
    go_wp2
    all_goals go_ret
    all_goals exact ⟨ret_int (by unfold brn; rw [if_neg h0, if_neg h1]; simp only [hw] at *; generalize 255 * (255 - b) / s = q at *; first | omega | (unfold wrap64; omega)), Below.refl _ _⟩
theorem refScreen_any (b s : Int) (w : World) (hb : Ch b) (hs : Ch s) : Calls Try.prog 92 #[.int .i64 b, .int .i64 s] w fun e w' => e = .returned (.int .i64 (scr b s)) ∧ w = w' := by
  have hp := pr_le hb hs
  have hq : Ch (pr b s) := pr_ch hb hs
  go_enter Try.func92, Try.ntmps92
  go_wp2_with (first
    | (go_at_call 65; (refine (refMul_in _ _ _ (by first | assumption | exact ⟨by omega, by omega⟩) (by first | assumption | exact ⟨by omega, by omega⟩)).mono ?_); rintro e w1 ⟨rfl, rfl⟩))
  all_goals go_ret
  all_goals exact ⟨ret_int (by first | rfl | (unfold scr; omega) | (unfold scr; (try split) <;> (try split) <;> omega)), rfl⟩
theorem refHard_any (b s : Int) (w : World) (hb : Ch b) (hs : Ch s) : Calls Try.prog 93 #[.int .i64 b, .int .i64 s] w fun e w' => e = .returned (.int .i64 (hrd b s)) ∧ w = w' := by
  go_enter Try.func93, Try.ntmps93
  go_wp2_with (first
    | (go_at_call 65; (refine (refMul_in _ _ _ (by first | assumption | exact ⟨by omega, by omega⟩) (by first | assumption | exact ⟨by omega, by omega⟩)).mono ?_); rintro e w1 ⟨rfl, rfl⟩)
    | (go_at_call 92; (refine (refScreen_any _ _ _ (by first | assumption | exact ⟨by omega, by omega⟩) (by first | assumption | exact ⟨by omega, by omega⟩)).mono ?_); rintro e w1 ⟨rfl, rfl⟩))
  all_goals go_ret
  all_goals exact ⟨ret_int (by first | rfl | (unfold hrd; omega) | (unfold hrd; (try split) <;> (try split) <;> omega)), rfl⟩
theorem refDodge_any (b s : Int) (w : World) (hb : Ch b) (hs : Ch s) : Calls Try.prog 94 #[.int .i64 b, .int .i64 s] w fun e w' => e = .returned (.int .i64 (dod b s)) ∧ w = w' := by
  by_cases h0 : b = 0
  · subst h0
    go_enter Try.func94, Try.ntmps94
    go_wp2
    all_goals go_ret
    all_goals exact ⟨ret_int (by unfold dod; simp), rfl⟩
  by_cases h1 : s = 255
  · subst h1
    go_enter Try.func94, Try.ntmps94
    go_wp2
    all_goals go_ret
    all_goals exact ⟨ret_int (by unfold dod; first | rfl | (rw [if_neg h0]; rfl)), rfl⟩
  have hz : ¬ 255 - s = 0 := by omega
  have hw : wrap64 ((255 * b).tdiv (255 - s)) = 255 * b / (255 - s) := by
    rw [Int.tdiv_eq_ediv_of_nonneg (by omega)]
    have h3 := Int.ediv_le_self (255 - s) (show 0 ≤ 255 * b by omega)
    have h4 := div_nn (show 0 ≤ 255 * b by omega) (show 0 ≤ (255 - s) by omega)
    generalize 255 * b / (255 - s) = q at *; unfold wrap64; omega
  · have hq : 0 ≤ 255 * b / (255 - s) := div_nn (by omega) (by omega)
    go_enter Try.func94, Try.ntmps94
    go_wp2
    all_goals go_ret
    all_goals exact ⟨ret_int (by unfold dod; rw [if_neg h0, if_neg h1]; simp only [hw] at *; generalize 255 * b / (255 - s) = q at *; first | omega | (unfold wrap64; omega)), rfl⟩
theorem refBurn_any (b s : Int) (w : World) (hb : Ch b) (hs : Ch s) : Calls Try.prog 95 #[.int .i64 b, .int .i64 s] w fun e w' => e = .returned (.int .i64 (brn b s)) ∧ w = w' := by
  by_cases h0 : b = 255
  · subst h0
    go_enter Try.func95, Try.ntmps95
    go_wp2
    all_goals go_ret
    all_goals exact ⟨ret_int (by unfold brn; simp), rfl⟩
  by_cases h1 : s = 0
  · subst h1
    go_enter Try.func95, Try.ntmps95
    go_wp2
    all_goals go_ret
    all_goals exact ⟨ret_int (by unfold brn; first | rfl | (rw [if_neg h0]; rfl)), rfl⟩
  have hz : ¬ s = 0 := by omega
  have hw : wrap64 ((255 * (255 - b)).tdiv s) = 255 * (255 - b) / s := by
    rw [Int.tdiv_eq_ediv_of_nonneg (by omega)]
    have h3 := Int.ediv_le_self s (show 0 ≤ 255 * (255 - b) by omega)
    have h4 := div_nn (show 0 ≤ 255 * (255 - b) by omega) (show 0 ≤ s by omega)
    generalize 255 * (255 - b) / s = q at *; unfold wrap64; omega
  · have hq : 0 ≤ 255 * (255 - b) / s := div_nn (by omega) (by omega)
    go_enter Try.func95, Try.ntmps95
    go_wp2
    all_goals go_ret
    all_goals exact ⟨ret_int (by unfold brn; rw [if_neg h0, if_neg h1]; simp only [hw] at *; generalize 255 * (255 - b) / s = q at *; first | omega | (unfold wrap64; omega)), rfl⟩
theorem distance_any (b s : Int) (w : World) (hb : 0 ≤ b ∧ b ≤ 510) (hs : 0 ≤ s ∧ s ≤ 510) : Calls Try.prog 83 #[.int .i64 b, .int .i64 s] w fun e w' => e = .returned (.int .i64 (dst b s)) ∧ Below w.heap.size w w' := by
  go_enter Try.func83, Try.ntmps83
  go_wp2
  all_goals go_ret
  all_goals exact ⟨ret_int (by first | rfl | (unfold dst; omega) | (unfold dst; (try split) <;> (try split) <;> omega)), by first | assumption | exact Below.refl _ _⟩
theorem refAbs_any (b : Int) (w : World) (hb : -510 ≤ b ∧ b ≤ 255) : Calls Try.prog 96 #[.int .i64 b] w fun e w' => e = .returned (.int .i64 (dst b 0)) ∧ w = w' := by
  go_enter Try.func96, Try.ntmps96
  go_wp2
  all_goals go_ret
  all_goals exact ⟨ret_int (by first | rfl | (unfold dst; omega) | (unfold dst; (try split) <;> (try split) <;> omega)), rfl⟩
theorem dst_sub (b s : Int) : dst (b - s) 0 = dst b s := by unfold dst; split <;> split <;> omega
theorem dst_255 (b s : Int) : dst (255 - b - s) 0 = dst 255 (b + s) := by unfold dst; split <;> split <;> omega
theorem soft_any (b s : Int) (w : World) (hb : Ch b) (hs : Ch s) : Calls Try.prog 82 #[.int .i64 b, .int .i64 s] w fun e w' => e = .returned (.int .i64 (sft b s)) ∧ Below w.heap.size w w' := by
  have hp := pr_le hb hs
  have hq : Ch (pr b s) := pr_ch hb hs
  have hr : Ch (scr b s) := scr_ch hb hs
  go_enter Try.func82, Try.ntmps82
  go_wp2_with (first
    | (go_at_call 75; (refine (Below.call (w0 := w) ?_ (Screen_any b s _ hb hs)).mono ?_); (focus assumption); rintro e w1 ⟨rfl, hz, _⟩; have h5 := pr_ch hb hr; have h6 := pr_ch (a := 255 - b) ⟨by omega, by omega⟩ hq)
    | (go_at_call 71; (refine (Below.call (w0 := w) ?_ (product_any _ _ _ (by first | assumption | exact ⟨by omega, by omega⟩) (by first | assumption | exact ⟨by omega, by omega⟩))).mono ?_); (first | (focus assumption) | (focus exact Below.refl _ _)); rintro e w1 ⟨rfl, hz, _⟩))
  all_goals go_ret
  all_goals exact ⟨ret_int (by first | rfl | (unfold sft; omega) | (unfold sft; (try split) <;> (try split) <;> omega)), by first | assumption | exact Below.refl _ _⟩
theorem b1_any (b s : Int) (w : World) : Calls Try.prog 74 #[.int .i64 b, .int .i64 s] w fun e w' => e = .returned (.int .i64 (s)) ∧ Below w.heap.size w w' := by
  go_enter Try.func74, Try.ntmps74
  go_wp2
  all_goals go_ret
  all_goals exact ⟨ret_int (by first | rfl | (skip; omega) | (skip; (try split) <;> (try split) <;> omega)), by first | assumption | exact Below.refl _ _⟩
theorem b2_any (b s : Int) (w : World) (hb : Ch b) (hs : Ch s) : Calls Try.prog 76 #[.int .i64 b, .int .i64 s] w fun e w' => e = .returned (.int .i64 (hrd s b)) ∧ Below w.heap.size w w' := by
  go_enter Try.func76, Try.ntmps76
  go_wp2_with (first
    | (go_at_call 77; (refine (Below.call (w0 := w) ?_ (Hard_any _ _ _ (by assumption) (by assumption))).mono ?_); (first | (focus assumption) | (focus exact Below.refl _ _)); rintro e w1 ⟨rfl, hz, _⟩))
  all_goals go_ret
  all_goals exact ⟨ret_int (by first | rfl | (skip; omega) | (skip; (try split) <;> (try split) <;> omega)), by first | assumption | exact Below.refl _ _⟩
theorem b3_any (b s : Int) (w : World) : Calls Try.prog 78 #[.int .i64 b, .int .i64 s] w fun e w' => e = .returned (.int .i64 (min b s)) ∧ Below w.heap.size w w' := by
  go_enter Try.func78, Try.ntmps78
  go_wp2
  all_goals go_ret
  all_goals exact ⟨ret_int (by first | rfl | (skip; omega) | (skip; (try split) <;> (try split) <;> omega)), by first | assumption | exact Below.refl _ _⟩
theorem b4_any (b s : Int) (w : World) : Calls Try.prog 79 #[.int .i64 b, .int .i64 s] w fun e w' => e = .returned (.int .i64 (max b s)) ∧ Below w.heap.size w w' := by
  go_enter Try.func79, Try.ntmps79
  go_wp2
  all_goals go_ret
  all_goals exact ⟨ret_int (by first | rfl | (skip; omega) | (skip; (try split) <;> (try split) <;> omega)), by first | assumption | exact Below.refl _ _⟩
theorem b5_any (b s : Int) (w : World) (hb : Ch b) (hs : Ch s) : Calls Try.prog 84 #[.int .i64 b, .int .i64 s] w fun e w' => e = .returned (.int .i64 (exc b s)) ∧ Below w.heap.size w w' := by
  have hp := pr_le hb hs
  go_enter Try.func84, Try.ntmps84
  go_wp2_with (first
    | (go_at_call 71; (refine (Below.call (w0 := w) ?_ (product_any _ _ _ (by first | assumption | exact ⟨by omega, by omega⟩) (by first | assumption | exact ⟨by omega, by omega⟩))).mono ?_); (first | (focus assumption) | (focus exact Below.refl _ _)); rintro e w1 ⟨rfl, hz, _⟩))
  all_goals go_ret
  all_goals exact ⟨ret_int (by first | rfl | (unfold exc; omega) | (unfold exc; (try split) <;> (try split) <;> omega)), by first | assumption | exact Below.refl _ _⟩
theorem b6_any (b s : Int) (w : World) (hb : Ch b) (hs : Ch s) : Calls Try.prog 85 #[.int .i64 b, .int .i64 s] w fun e w' => e = .returned (.int .i64 (min 255 (b + s))) ∧ Below w.heap.size w w' := by
  go_enter Try.func85, Try.ntmps85
  go_wp2
  all_goals go_ret
  all_goals exact ⟨ret_int (by first | rfl | (skip; omega) | (skip; (try split) <;> (try split) <;> omega)), by first | assumption | exact Below.refl _ _⟩
theorem b7_any (b s : Int) (w : World) (hb : Ch b) (hs : Ch s) : Calls Try.prog 86 #[.int .i64 b, .int .i64 s] w fun e w' => e = .returned (.int .i64 (max 0 (b - s))) ∧ Below w.heap.size w w' := by
  go_enter Try.func86, Try.ntmps86
  go_wp2
  all_goals go_ret
  all_goals exact ⟨ret_int (by first | rfl | (skip; omega) | (skip; (try split) <;> (try split) <;> omega)), by first | assumption | exact Below.refl _ _⟩
theorem b8_any (b s : Int) (w : World) (hb : Ch b) (hs : Ch s) : Calls Try.prog 87 #[.int .i64 b, .int .i64 s] w fun e w' => e = .returned (.int .i64 (rd (b + s) 2)) ∧ Below w.heap.size w w' := by
  go_enter Try.func87, Try.ntmps87
  go_wp2_with (first
    | (go_at_call 61; (with_reducible refine (near_any _ _).mono ?_); rintro e w1 ⟨rfl, rfl⟩)
    | (go_at_call 89; (refine (near1_any _ 2 w.heap.size _ (by omega) (by omega) (by decide) (by decide) (cell_alloc _ _ _)).mono ?_); rintro e w1 ⟨rfl, rfl⟩; have hz : Below w.heap.size w (w.alloc (.cells #[.int .i64 2] 3)) := below1))
  all_goals go_ret
  all_goals exact ⟨ret_int (by first | rfl | (skip; omega) | (skip; (try split) <;> (try split) <;> omega)), by first | assumption | exact Below.refl _ _⟩
theorem b9_any (b s : Int) (w : World) (hb : Ch b) (hs : Ch s) : Calls Try.prog 88 #[.int .i64 b, .int .i64 s] w fun e w' => e = .returned (.int .i64 (255 - dst 255 (b + s))) ∧ Below w.heap.size w w' := by
  have hd : Ch (255 - dst 255 (b + s)) := by unfold dst; constructor <;> split <;> omega
  go_enter Try.func88, Try.ntmps88
  go_wp2_with (first
    | (go_at_call 83; (refine (Below.call (w0 := w) ?_ (distance_any _ _ _ ⟨by omega, by omega⟩ ⟨by omega, by omega⟩)).mono ?_); (first | (focus assumption) | (focus exact Below.refl _ _)); rintro e w1 ⟨rfl, hz, _⟩))
  all_goals go_ret
  all_goals exact ⟨ret_int (by first | rfl | (skip; omega) | (skip; (try split) <;> (try split) <;> omega)), by first | assumption | exact Below.refl _ _⟩
end Go.Proofs.Ytkomknhloimhcaa
