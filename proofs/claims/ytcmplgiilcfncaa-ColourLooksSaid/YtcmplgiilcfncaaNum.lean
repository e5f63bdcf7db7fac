/-
  What the functions on single numbers return, of curve, of the reference and of the library.
-/
import Derived.Test.YtcmplgiilcfncaaSt
namespace Go.Proofs.Ytcmplgiilcfncaa
open Go.RowKit

/-- a valid number of points -/
def vc (n : Int) : Bool := decide (2 ≤ n) && decide (n ≤ 257)
/-- a valid part of an exponent -/
def vp (n : Int) : Bool := decide (1 ≤ n) && decide (n ≤ 8)
theorem vc_iff (n : Int) : vc n = true ↔ 2 ≤ n ∧ n ≤ 257 := by simp [vc]
theorem vp_iff (n : Int) : vp n = true ↔ 1 ≤ n ∧ n ≤ 8 := by simp [vp]
theorem count_any (n : Int) (w : World) : Calls Try.prog 40 #[.int .i64 n] w fun e w' => e = .returned (.bool (vc n)) ∧ w = w' := by
  go_enter Try.func40, Try.ntmps40
  go_wp2
  all_goals go_ret
  all_goals exact ⟨ret_bool (by first | (simp [vc, *]; done) | (simp [vc, *]; omega)), rfl⟩
theorem nearest_any (n d : Int) (w : World) (h0 : 0 ≤ n) (h1 : n ≤ 1152921504606846976) (h2 : 1 ≤ d) (h3 : d ≤ 1152921504606846976) :
    Calls Try.prog 71 #[.int .i64 n, .int .i64 d] w fun e w' => e = .returned (.int .i64 ((2 * n + d) / (2 * d))) ∧ w = w' := by
  have hz : ((2 * d : Int) == 0) = false := by simp; omega
  go_enter Try.func71, Try.ntmps71
  go_wp2
  go_ret
  exact ⟨rfl, rfl⟩
/-- the program's spelling of the argument -/
theorem arg_near2 (i n : Nat) : (2 * (65535 * (i : Int)) + ((n : Int) - 1)) / (2 * ((n : Int) - 1)) = arg i n := by
  unfold arg; rw [show 2 * (65535 * (i : Int)) + ((n : Int) - 1) = 131070 * i + n - 1 by omega, show 2 * ((n : Int) - 1) = 2 * n - 2 by omega]
theorem nan_any (n : Int) (w : World) : Calls Try.prog 63 #[.int .i64 n] w fun e w' => e = .returned (.bool false) ∧ w = w' := by
  go_enter Try.func63, Try.ntmps63
  go_wp2
  all_goals go_ret
  all_goals exact ⟨ret_bool (by simp), rfl⟩
theorem less_any (a b : Int) (w : World) : Calls Try.prog 74 #[.int .i64 a, .int .i64 b] w fun e w' => e = .returned (.bool (decide (a < b))) ∧ w = w' := by
  go_enter Try.func74, Try.ntmps74
  go_wp2_with (go_at_call 63; (with_reducible refine (nan_any _ _).mono ?_); rintro e w' ⟨rfl, rfl⟩)
  all_goals go_ret
  all_goals exact ⟨ret_bool (by simp [*]), rfl⟩
def cmpI (a b : Int) : Int := if a < b then -1 else if b < a then 1 else 0
end Go.Proofs.Ytcmplgiilcfncaa
