/-
  What the functions on single numbers return: division, zoom levels.
-/
import Derived.Test.YtbodmeiecdomfaaGreatEPure
import Derived.Laws.BitsAllLaws
namespace Go.Proofs.YtbodmeiecdomfaaGreat.R
open Go.RowKit

def dif (a b : Int) : Bool := !decide (a < 0) == decide (b < 0)
def zok (z : Int) : Bool := decide (0 ≤ z) && decide (z ≤ 4)
def flo (a b : Int) : Int := if (b == 0) then 0 else if (a.tmod b != 0) && dif a b then wrap64 (wrap64 (a.tdiv b) - 1) else wrap64 (a.tdiv b)
def cei (a b : Int) : Int := if (b == 0) then 0 else if (a.tmod b != 0) && !dif a b then wrap64 (wrap64 (a.tdiv b) + 1) else wrap64 (a.tdiv b)
theorem dif_not (a b : Int) : (decide (a < 0) == decide (b < 0)) = !dif a b := by unfold dif; cases decide (a < 0) <;> cases decide (b < 0) <;> rfl

theorem dif_any (a b : Int) (w : World) : Calls Tryz.prog 86 #[.int .i64 a, .int .i64 b] w fun e w' => e = .returned (.bool (dif a b)) ∧ w = w' := by
  go_enter Tryz.func86, Tryz.ntmps86
  go_wp2
  all_goals go_ret
  all_goals exact ⟨ret_bool (by first | (simp [dif, *]; done) | (simp [dif, *]; omega)), rfl⟩

theorem floor_any (a b : Int) (w : World) : Calls Tryz.prog 79 #[.int .i64 a, .int .i64 b] w fun e w' => e = .returned (.int .i64 (flo a b)) ∧ w = w' := by
  by_cases hz : b = 0
  · subst hz
    go_enter Tryz.func79, Tryz.ntmps79
    go_wp2
    go_ret
    exact ⟨ret_int (by simp [flo]), rfl⟩
  have hz' : (b == 0) = false := by simpa using hz
  by_cases hm : a.tmod b = 0
  · have hm' : (a.tmod b != 0) = false := by simpa using hm
    go_enter Tryz.func79, Tryz.ntmps79
    go_wp2
    go_ret
    exact ⟨ret_int (by simp [flo, hz', hm']), rfl⟩
  · have hm' : (a.tmod b != 0) = true := by simpa using hm
    cases hd : dif a b
    all_goals
      go_enter Tryz.func79, Tryz.ntmps79
      go_wp2_with (first | (go_at_call 86; (with_reducible refine (dif_any _ _ _).mono ?_); rintro e w' ⟨rfl, rfl⟩))
      go_ret
      exact ⟨ret_int (by simp [flo, hz', hm', hd]), rfl⟩

theorem rest_mod (a b : Int) (h0 : 1 ≤ b) (h1 : b ≤ 1000) : (wrap64 (a.tmod b + b)).tmod b = a % b := by
  have e1 : a.tmod b < b := Int.tmod_lt_of_pos a (by omega)
  have e2 : -b < a.tmod b := by have := Int.lt_tmod_of_pos a (show (0:Int) < b by omega); omega
  rw [IntWalk.wrap64_in _ ⟨by omega, by omega⟩, Int.tmod_eq_emod_of_nonneg (by omega), Int.add_emod_right]
  have h2 := Int.tmod_add_tdiv_mul a b
  have : a % b = (a.tmod b + a.tdiv b * b) % b := by rw [h2]
  rw [this, Int.add_mul_emod_self_right]
end Go.Proofs.YtbodmeiecdomfaaGreat.R
