/-
  The reference's Need and Spread, Local and Clear. limitedQuotient.
-/
import Derived.Test.YtbodmeiecdomfaaGreatWReach
import Derived.Test.YtbodmeiecdomfaaGreatWPix
import Derived.Test.YtbodmeiecdomfaaGreatENum
namespace Go.Proofs.YtbodmeiecdomfaaGreat.W
open Go.RowKit
set_option maxRecDepth 100000
variable {W w w' : World} {L : List (Nat × Obj)}

/-- the kinds with a window -/
def win (k : Int) : Bool := decide (1 ≤ k) && decide (k ≤ 4)
/-- the reference's Need and Spread -/
def rfa (s : Int) (b e : Bool) (k r v q0 q1 q2 q3 : Int) : R.Rc := if b then (if e then ⟨0, 0, 0, 0⟩ else if win k then R.gro q0 q1 q2 q3 r else if k = 8 then R.mov q0 q1 q2 q3 (wrap64 (s * r)) (wrap64 (s * v)) else ⟨q0, q1, q2, q3⟩) else ⟨0, 0, 0, 0⟩
end Go.Proofs.YtbodmeiecdomfaaGreat.W

namespace Go.Proofs.YtbodmeiecdomfaaGreat.W
open Go.RowKit
set_option maxRecDepth 100000
variable {W w w' : World}

theorem flo_ediv {n d : Int} (hd : 0 < d) (hn : -1000000000000000000 ≤ n ∧ n ≤ 1000000000000000000) : R.flo n d = n / d ∧ -1000000000000000000 ≤ n / d ∧ n / d ≤ 1000000000000000000 := by
  have hq : -1000000000000000000 ≤ n / d ∧ n / d ≤ 1000000000000000000 := by
    refine ⟨Int.le_ediv_of_mul_le hd ?_, Int.ediv_le_of_le_mul hd ?_⟩
    · have : (-1000000000000000000 : Int) * d ≤ -1000000000000000000 * 1 := Int.mul_le_mul_of_nonpos_left (by omega) (by omega)
      omega
    · have : (1000000000000000000 : Int) * 1 ≤ 1000000000000000000 * d := Int.mul_le_mul_of_nonneg_left (by omega) (by omega)
      omega
  refine ⟨?_, hq⟩
  have h1 := Int.tdiv_eq_ediv (a := n) (b := d)
  have hz : (d == 0) = false := by simp; omega
  have hdf : R.dif n d = decide (n < 0) := by unfold R.dif; simp [show ¬ d < 0 by omega]
  have hdv : d ∣ n ↔ n.tmod d = 0 := ⟨Int.tmod_eq_zero_of_dvd, Int.dvd_of_tmod_eq_zero⟩
  unfold R.flo
  rw [hz, hdf]
  have hs : d.sign = 1 := Int.sign_eq_one_of_pos hd
  rw [hs] at h1
  simp only [Bool.false_eq_true, if_false, Bool.and_eq_true, bne_iff_ne, decide_eq_true_eq]
  by_cases hm : n.tmod d = 0
  · rw [if_neg (by simp [hm]), h1, if_pos (Or.inr (hdv.2 hm)), wrap_in (by omega)]; omega
  · by_cases h0 : n < 0
    · rw [if_pos ⟨hm, h0⟩, h1, if_neg (by rintro (h | h); · omega
                                          · exact hm (hdv.1 h)), wrap_in (x := n / d + 1) (by omega), wrap_in (by omega)]; omega
    · rw [if_neg (by simp [h0]), h1, if_pos (Or.inl (by omega)), wrap_in (by omega)]; omega
/-- n / d, rounded, within a channel -/
def lim (n d : Int) : Int := min (max ((2 * n + d) / (2 * d)) 0) 255
theorem lim_ch (n d : Int) : Ch (lim n d) := by unfold lim Ch; omega
set_option maxHeartbeats 2000000 in
theorem lim_any (n d : Int) (w : World) (hn : -1000000000000 ≤ n ∧ n ≤ 1000000000000) (hd : 1 ≤ d ∧ d ≤ 1000000000000) : Calls Tryz.prog 61 #[.int .i64 n, .int .i64 d] w fun e w' => e = .returned (.int .u8 (lim n d)) ∧ w = w' := by
  have HF : Hid (∀ V, Calls Tryz.prog 79 #[.int .i64 (2 * n + d), .int .i64 (2 * d)] V fun e w' => e = .returned (.int .i64 ((2 * n + d) / (2 * d))) ∧ V = w') := fun V => by
    rw [← (flo_ediv (n := 2 * n + d) (d := 2 * d) (by omega) (by omega)).1]; exact R.floor_any _ _ _
  have hq := (flo_ediv (n := 2 * n + d) (d := 2 * d) (by omega) (by omega)).2
  have HL : Hid (lim n d = min (max ((2 * n + d) / (2 * d)) 0) 255) := rfl
  generalize (2 * n + d) / (2 * d) = q at *
  generalize lim n d = z at *
  go_enter Tryz.func61, Tryz.ntmps61
  go_wp2_with (go_at_call 79; (with_reducible refine (HF.out _).mono ?_); rintro e w' ⟨rfl, rfl⟩)
  all_goals go_ret
  all_goals exact ⟨ret_int (by rw [HL.out]; (first | omega | (rename_i hx _; split at hx <;> omega))), rfl⟩
end Go.Proofs.YtbodmeiecdomfaaGreat.W
