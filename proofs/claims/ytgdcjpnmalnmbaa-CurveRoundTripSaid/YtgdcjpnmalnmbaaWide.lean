/-
  Words of 64 bits: the product of two, the sum with a carry; a slice of three words from its end.
-/
import Derived.Test.YtgdcjpnmalnmbaaArgs
import Derived.Test.YtgdcjpnmalnmbaaValues
import Derived.Shelf.Bits.Mul64
import Derived.Laws.Bits64b
import Derived.Laws.Externs
namespace Go.Proofs.Ytgdcjpnmalnmbaa
open Go.RowKit
variable {w : World}

/-- what the school's method needs of the four products of halves: none of its sums wraps -/
theorem no_wrap {x y : Nat} (hx : x < 18446744073709551616) (hy : y < 18446744073709551616) :
    ∀ xl xh yl yh, x % 4294967296 = xl → x / 4294967296 = xh → y % 4294967296 = yl → y / 4294967296 = yh →
    (xl * yl < 18446744073709551616 ∧ xh * yl < 18446744073709551616 ∧ xl * yh < 18446744073709551616 ∧ xh * yh < 18446744073709551616) ∧
    xh * yl + xl * yl / 4294967296 < 18446744073709551616 ∧ (xh * yl + xl * yl / 4294967296) % 4294967296 + xl * yh < 18446744073709551616 ∧
    xh * yh + (xh * yl + xl * yl / 4294967296) / 4294967296 < 18446744073709551616 ∧
    xh * yh + (xh * yl + xl * yl / 4294967296) / 4294967296 + ((xh * yl + xl * yl / 4294967296) % 4294967296 + xl * yh) / 4294967296 < 18446744073709551616 ∧
    xh * yh + (xh * yl + xl * yl / 4294967296) / 4294967296 + ((xh * yl + xl * yl / 4294967296) % 4294967296 + xl * yh) / 4294967296 = x * y / 18446744073709551616 := by
  rintro xl xh yl yh rfl rfl rfl rfl
  have hi := (Lib.mul64_hi x y hx hy).2.2.2
  have p1 := Lib.half_mul_le (a := x % 4294967296) (b := y % 4294967296) (by omega) (by omega)
  have p2 := Lib.half_mul_le (a := x / 4294967296) (b := y % 4294967296) (by omega) (by omega)
  have p3 := Lib.half_mul_le (a := x % 4294967296) (b := y / 4294967296) (by omega) (by omega)
  have p4 := Lib.half_mul_le (a := x / 4294967296) (b := y / 4294967296) (by omega) (by omega)
  refine ⟨⟨by omega, by omega, by omega, by omega⟩, by omega, by omega, by omega, by omega, hi⟩
set_option maxHeartbeats 2000000 in
theorem mul64_any (x y : Nat) (hx : x < 18446744073709551616) (hy : y < 18446744073709551616) (w : World) :
    Calls Try.prog 114 #[.int .u64 x, .int .u64 y] w fun e w' => e = .returned (.tuple #[.int .u64 ((x * y / 18446744073709551616 : Nat) : Int), .int .u64 ((x * y % 18446744073709551616 : Nat) : Int)]) ∧ w = w' := by
  obtain ⟨⟨n1, n2, n3, n4⟩, n5, n6, n7, n8, hi⟩ := no_wrap hx hy _ _ _ _ rfl rfl rfl rfl
  go_enter Try.func114, Try.ntmps114
  go_wp2
  simp only [Mul64.maskN x hx, Mul64.maskN y hy, Mul64.maskN _ n5, Mul64.divN, Mul64.mulN, Mul64.addN, Mul64.wrapN _ n1, Mul64.wrapN _ n2, Mul64.wrapN _ n3, Mul64.wrapN _ n4, Mul64.wrapN _ n5, Mul64.wrapN _ n6, Mul64.wrapN _ n7, Mul64.wrapN _ n8, Mul64.wrapM (x * y)]
  rw [hi]
  go_ret2
  exact ⟨rfl, rfl⟩
theorem add64_run (x y : Nat) (w : World) : (callFunc 115 #[.int .u64 x, .int .u64 y, .int .u64 0]).run Try.prog w =
    .ok (.value (.tuple #[.int .u64 (((x + y) % 18446744073709551616 : Nat) : Int), .int .u64 (((x + y) / 18446744073709551616 : Nat) : Int)])) w := by
  rw [run_callFunc_extern Try.func115 (by kernel_rfl) (by kernel_rfl) (by kernel_rfl) (e := add64Entry) (by kernel_rfl)]
  have := run_add64 (P := Try.prog) x y 0 (by omega) (by omega) (by omega) (by omega) w
  rw [this]
  simp only [Result.andThen]
  congr 5 <;> omega
end Go.Proofs.Ytgdcjpnmalnmbaa
