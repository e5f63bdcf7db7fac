/-
  Words: rotateRight, math/bits.RotateLeft32, the reference's turn.
-/
import Derived.Test.YtligojllbnahcaaDoorDLib
namespace Go.Proofs.YtligojllbnahcaaDoor.D
open Go.RowKit

theorem rot_val {x n : Nat} {p q : Int} (hx : x < 4294967296) (hp : p = ((2 ^ (32 - n) : Nat) : Int)) (hq : q = ((2 ^ n : Nat) : Int)) : bits BinOp.or IntKind.u32 ((x : Int) * p % 4294967296) ((x : Int) / q) = (Sha.rotr x n : Int) := by
  subst hp hq
  have e : bits BinOp.or IntKind.u32 ((x * 2 ^ (32 - n) % 4294967296 : Nat) : Int) ((x / 2 ^ n : Nat) : Int) = _ := u32_or_nat (x * 2 ^ (32 - n) % 4294967296) (x / 2 ^ n) (Nat.mod_lt _ (by decide)) (Nat.lt_of_le_of_lt (Nat.div_le_self _ _) hx)
  unfold Sha.rotr
  rw [Nat.or_comm, Nat.shiftRight_eq_div_pow, Nat.shiftLeft_eq, ← e]; congr 1
theorem turn_val {x n : Nat} {p q : Int} (hx : x < 4294967296) (hp : p = ((2 ^ (32 - n) : Nat) : Int)) (hq : q = ((2 ^ n : Nat) : Int)) : bits BinOp.or IntKind.u32 ((x : Int) / q) ((x : Int) * p % 4294967296) = (Sha.rotr x n : Int) := by
  subst hp hq
  have e : bits BinOp.or IntKind.u32 ((x / 2 ^ n : Nat) : Int) ((x * 2 ^ (32 - n) % 4294967296 : Nat) : Int) = _ := u32_or_nat (x / 2 ^ n) (x * 2 ^ (32 - n) % 4294967296) (Nat.lt_of_le_of_lt (Nat.div_le_self _ _) hx) (Nat.mod_lt _ (by decide))
  unfold Sha.rotr
  rw [Nat.shiftRight_eq_div_pow, Nat.shiftLeft_eq, ← e]; congr 1

theorem rotl_2 (x : Nat) (hx : x < 4294967296) (w : World) : Calls Tryd.prog 57 #[.int .u32 x, .int .i64 (-2)] w fun e w' => e = .returned (.int .u32 (Sha.rotr x 2 : Nat)) ∧ w = w' := by
  have h1 : bits BinOp.and IntKind.u64 (IntKind.u64.wrap (-2)) 31 = 30 := by decide
  go_enter Tryd.func57, Tryd.ntmps57
  go_wp2
  go_ret
  exact ⟨ret_int (rot_val hx (by decide) (by decide)), rfl⟩
theorem rotr_2 (x : Nat) (hx : x < 4294967296) (w : World) : Calls Tryd.prog 49 #[.int .u32 x, .int .i64 2] w fun e w' => e = .returned (.int .u32 (Sha.rotr x 2 : Nat)) ∧ w = w' := by
  go_enter Tryd.func49, Tryd.ntmps49
  go_wp2_with (go_at_call 57; (with_reducible refine (rotl_2 _ hx _).mono ?_); rintro e w' ⟨rfl, rfl⟩)
  go_ret
  exact ⟨rfl, rfl⟩
theorem turn_2 (x : Nat) (hx : x < 4294967296) (w : World) : Calls Tryd.prog 47 #[.int .u32 x, .int .i64 2] w fun e w' => e = .returned (.int .u32 (Sha.rotr x 2 : Nat)) ∧ w = w' := by
  go_enter Tryd.func47, Tryd.ntmps47
  go_wp2
  go_ret
  exact ⟨ret_int (turn_val hx (by decide) (by decide)), rfl⟩

theorem rotl_6 (x : Nat) (hx : x < 4294967296) (w : World) : Calls Tryd.prog 57 #[.int .u32 x, .int .i64 (-6)] w fun e w' => e = .returned (.int .u32 (Sha.rotr x 6 : Nat)) ∧ w = w' := by
  have h1 : bits BinOp.and IntKind.u64 (IntKind.u64.wrap (-6)) 31 = 26 := by decide
  go_enter Tryd.func57, Tryd.ntmps57
  go_wp2
  go_ret
  exact ⟨ret_int (rot_val hx (by decide) (by decide)), rfl⟩
theorem rotr_6 (x : Nat) (hx : x < 4294967296) (w : World) : Calls Tryd.prog 49 #[.int .u32 x, .int .i64 6] w fun e w' => e = .returned (.int .u32 (Sha.rotr x 6 : Nat)) ∧ w = w' := by
  go_enter Tryd.func49, Tryd.ntmps49
  go_wp2_with (go_at_call 57; (with_reducible refine (rotl_6 _ hx _).mono ?_); rintro e w' ⟨rfl, rfl⟩)
  go_ret
  exact ⟨rfl, rfl⟩
theorem turn_6 (x : Nat) (hx : x < 4294967296) (w : World) : Calls Tryd.prog 47 #[.int .u32 x, .int .i64 6] w fun e w' => e = .returned (.int .u32 (Sha.rotr x 6 : Nat)) ∧ w = w' := by
  go_enter Tryd.func47, Tryd.ntmps47
  go_wp2
  go_ret
  exact ⟨ret_int (turn_val hx (by decide) (by decide)), rfl⟩

theorem rotl_7 (x : Nat) (hx : x < 4294967296) (w : World) : Calls Tryd.prog 57 #[.int .u32 x, .int .i64 (-7)] w fun e w' => e = .returned (.int .u32 (Sha.rotr x 7 : Nat)) ∧ w = w' := by
  have h1 : bits BinOp.and IntKind.u64 (IntKind.u64.wrap (-7)) 31 = 25 := by decide
  go_enter Tryd.func57, Tryd.ntmps57
  go_wp2
  go_ret
  exact ⟨ret_int (rot_val hx (by decide) (by decide)), rfl⟩
theorem rotr_7 (x : Nat) (hx : x < 4294967296) (w : World) : Calls Tryd.prog 49 #[.int .u32 x, .int .i64 7] w fun e w' => e = .returned (.int .u32 (Sha.rotr x 7 : Nat)) ∧ w = w' := by
  go_enter Tryd.func49, Tryd.ntmps49
  go_wp2_with (go_at_call 57; (with_reducible refine (rotl_7 _ hx _).mono ?_); rintro e w' ⟨rfl, rfl⟩)
  go_ret
  exact ⟨rfl, rfl⟩
theorem turn_7 (x : Nat) (hx : x < 4294967296) (w : World) : Calls Tryd.prog 47 #[.int .u32 x, .int .i64 7] w fun e w' => e = .returned (.int .u32 (Sha.rotr x 7 : Nat)) ∧ w = w' := by
  go_enter Tryd.func47, Tryd.ntmps47
  go_wp2
  go_ret
  exact ⟨ret_int (turn_val hx (by decide) (by decide)), rfl⟩

theorem rotl_11 (x : Nat) (hx : x < 4294967296) (w : World) : Calls Tryd.prog 57 #[.int .u32 x, .int .i64 (-11)] w fun e w' => e = .returned (.int .u32 (Sha.rotr x 11 : Nat)) ∧ w = w' := by
  have h1 : bits BinOp.and IntKind.u64 (IntKind.u64.wrap (-11)) 31 = 21 := by decide
  go_enter Tryd.func57, Tryd.ntmps57
  go_wp2
  go_ret
  exact ⟨ret_int (rot_val hx (by decide) (by decide)), rfl⟩
theorem rotr_11 (x : Nat) (hx : x < 4294967296) (w : World) : Calls Tryd.prog 49 #[.int .u32 x, .int .i64 11] w fun e w' => e = .returned (.int .u32 (Sha.rotr x 11 : Nat)) ∧ w = w' := by
  go_enter Tryd.func49, Tryd.ntmps49
  go_wp2_with (go_at_call 57; (with_reducible refine (rotl_11 _ hx _).mono ?_); rintro e w' ⟨rfl, rfl⟩)
  go_ret
  exact ⟨rfl, rfl⟩
theorem turn_11 (x : Nat) (hx : x < 4294967296) (w : World) : Calls Tryd.prog 47 #[.int .u32 x, .int .i64 11] w fun e w' => e = .returned (.int .u32 (Sha.rotr x 11 : Nat)) ∧ w = w' := by
  go_enter Tryd.func47, Tryd.ntmps47
  go_wp2
  go_ret
  exact ⟨ret_int (turn_val hx (by decide) (by decide)), rfl⟩

theorem rotl_13 (x : Nat) (hx : x < 4294967296) (w : World) : Calls Tryd.prog 57 #[.int .u32 x, .int .i64 (-13)] w fun e w' => e = .returned (.int .u32 (Sha.rotr x 13 : Nat)) ∧ w = w' := by
  have h1 : bits BinOp.and IntKind.u64 (IntKind.u64.wrap (-13)) 31 = 19 := by decide
  go_enter Tryd.func57, Tryd.ntmps57
  go_wp2
  go_ret
  exact ⟨ret_int (rot_val hx (by decide) (by decide)), rfl⟩
theorem rotr_13 (x : Nat) (hx : x < 4294967296) (w : World) : Calls Tryd.prog 49 #[.int .u32 x, .int .i64 13] w fun e w' => e = .returned (.int .u32 (Sha.rotr x 13 : Nat)) ∧ w = w' := by
  go_enter Tryd.func49, Tryd.ntmps49
  go_wp2_with (go_at_call 57; (with_reducible refine (rotl_13 _ hx _).mono ?_); rintro e w' ⟨rfl, rfl⟩)
  go_ret
  exact ⟨rfl, rfl⟩
theorem turn_13 (x : Nat) (hx : x < 4294967296) (w : World) : Calls Tryd.prog 47 #[.int .u32 x, .int .i64 13] w fun e w' => e = .returned (.int .u32 (Sha.rotr x 13 : Nat)) ∧ w = w' := by
  go_enter Tryd.func47, Tryd.ntmps47
  go_wp2
  go_ret
  exact ⟨ret_int (turn_val hx (by decide) (by decide)), rfl⟩

theorem rotl_17 (x : Nat) (hx : x < 4294967296) (w : World) : Calls Tryd.prog 57 #[.int .u32 x, .int .i64 (-17)] w fun e w' => e = .returned (.int .u32 (Sha.rotr x 17 : Nat)) ∧ w = w' := by
  have h1 : bits BinOp.and IntKind.u64 (IntKind.u64.wrap (-17)) 31 = 15 := by decide
  go_enter Tryd.func57, Tryd.ntmps57
  go_wp2
  go_ret
  exact ⟨ret_int (rot_val hx (by decide) (by decide)), rfl⟩
theorem rotr_17 (x : Nat) (hx : x < 4294967296) (w : World) : Calls Tryd.prog 49 #[.int .u32 x, .int .i64 17] w fun e w' => e = .returned (.int .u32 (Sha.rotr x 17 : Nat)) ∧ w = w' := by
  go_enter Tryd.func49, Tryd.ntmps49
  go_wp2_with (go_at_call 57; (with_reducible refine (rotl_17 _ hx _).mono ?_); rintro e w' ⟨rfl, rfl⟩)
  go_ret
  exact ⟨rfl, rfl⟩
theorem turn_17 (x : Nat) (hx : x < 4294967296) (w : World) : Calls Tryd.prog 47 #[.int .u32 x, .int .i64 17] w fun e w' => e = .returned (.int .u32 (Sha.rotr x 17 : Nat)) ∧ w = w' := by
  go_enter Tryd.func47, Tryd.ntmps47
  go_wp2
  go_ret
  exact ⟨ret_int (turn_val hx (by decide) (by decide)), rfl⟩

theorem rotl_18 (x : Nat) (hx : x < 4294967296) (w : World) : Calls Tryd.prog 57 #[.int .u32 x, .int .i64 (-18)] w fun e w' => e = .returned (.int .u32 (Sha.rotr x 18 : Nat)) ∧ w = w' := by
  have h1 : bits BinOp.and IntKind.u64 (IntKind.u64.wrap (-18)) 31 = 14 := by decide
  go_enter Tryd.func57, Tryd.ntmps57
  go_wp2
  go_ret
  exact ⟨ret_int (rot_val hx (by decide) (by decide)), rfl⟩
theorem rotr_18 (x : Nat) (hx : x < 4294967296) (w : World) : Calls Tryd.prog 49 #[.int .u32 x, .int .i64 18] w fun e w' => e = .returned (.int .u32 (Sha.rotr x 18 : Nat)) ∧ w = w' := by
  go_enter Tryd.func49, Tryd.ntmps49
  go_wp2_with (go_at_call 57; (with_reducible refine (rotl_18 _ hx _).mono ?_); rintro e w' ⟨rfl, rfl⟩)
  go_ret
  exact ⟨rfl, rfl⟩
theorem turn_18 (x : Nat) (hx : x < 4294967296) (w : World) : Calls Tryd.prog 47 #[.int .u32 x, .int .i64 18] w fun e w' => e = .returned (.int .u32 (Sha.rotr x 18 : Nat)) ∧ w = w' := by
  go_enter Tryd.func47, Tryd.ntmps47
  go_wp2
  go_ret
  exact ⟨ret_int (turn_val hx (by decide) (by decide)), rfl⟩

theorem rotl_19 (x : Nat) (hx : x < 4294967296) (w : World) : Calls Tryd.prog 57 #[.int .u32 x, .int .i64 (-19)] w fun e w' => e = .returned (.int .u32 (Sha.rotr x 19 : Nat)) ∧ w = w' := by
  have h1 : bits BinOp.and IntKind.u64 (IntKind.u64.wrap (-19)) 31 = 13 := by decide
  go_enter Tryd.func57, Tryd.ntmps57
  go_wp2
  go_ret
  exact ⟨ret_int (rot_val hx (by decide) (by decide)), rfl⟩
theorem rotr_19 (x : Nat) (hx : x < 4294967296) (w : World) : Calls Tryd.prog 49 #[.int .u32 x, .int .i64 19] w fun e w' => e = .returned (.int .u32 (Sha.rotr x 19 : Nat)) ∧ w = w' := by
  go_enter Tryd.func49, Tryd.ntmps49
  go_wp2_with (go_at_call 57; (with_reducible refine (rotl_19 _ hx _).mono ?_); rintro e w' ⟨rfl, rfl⟩)
  go_ret
  exact ⟨rfl, rfl⟩
theorem turn_19 (x : Nat) (hx : x < 4294967296) (w : World) : Calls Tryd.prog 47 #[.int .u32 x, .int .i64 19] w fun e w' => e = .returned (.int .u32 (Sha.rotr x 19 : Nat)) ∧ w = w' := by
  go_enter Tryd.func47, Tryd.ntmps47
  go_wp2
  go_ret
  exact ⟨ret_int (turn_val hx (by decide) (by decide)), rfl⟩

theorem rotl_22 (x : Nat) (hx : x < 4294967296) (w : World) : Calls Tryd.prog 57 #[.int .u32 x, .int .i64 (-22)] w fun e w' => e = .returned (.int .u32 (Sha.rotr x 22 : Nat)) ∧ w = w' := by
  have h1 : bits BinOp.and IntKind.u64 (IntKind.u64.wrap (-22)) 31 = 10 := by decide
  go_enter Tryd.func57, Tryd.ntmps57
  go_wp2
  go_ret
  exact ⟨ret_int (rot_val hx (by decide) (by decide)), rfl⟩
theorem rotr_22 (x : Nat) (hx : x < 4294967296) (w : World) : Calls Tryd.prog 49 #[.int .u32 x, .int .i64 22] w fun e w' => e = .returned (.int .u32 (Sha.rotr x 22 : Nat)) ∧ w = w' := by
  go_enter Tryd.func49, Tryd.ntmps49
  go_wp2_with (go_at_call 57; (with_reducible refine (rotl_22 _ hx _).mono ?_); rintro e w' ⟨rfl, rfl⟩)
  go_ret
  exact ⟨rfl, rfl⟩
theorem turn_22 (x : Nat) (hx : x < 4294967296) (w : World) : Calls Tryd.prog 47 #[.int .u32 x, .int .i64 22] w fun e w' => e = .returned (.int .u32 (Sha.rotr x 22 : Nat)) ∧ w = w' := by
  go_enter Tryd.func47, Tryd.ntmps47
  go_wp2
  go_ret
  exact ⟨ret_int (turn_val hx (by decide) (by decide)), rfl⟩

theorem rotl_25 (x : Nat) (hx : x < 4294967296) (w : World) : Calls Tryd.prog 57 #[.int .u32 x, .int .i64 (-25)] w fun e w' => e = .returned (.int .u32 (Sha.rotr x 25 : Nat)) ∧ w = w' := by
  have h1 : bits BinOp.and IntKind.u64 (IntKind.u64.wrap (-25)) 31 = 7 := by decide
  go_enter Tryd.func57, Tryd.ntmps57
  go_wp2
  go_ret
  exact ⟨ret_int (rot_val hx (by decide) (by decide)), rfl⟩
theorem rotr_25 (x : Nat) (hx : x < 4294967296) (w : World) : Calls Tryd.prog 49 #[.int .u32 x, .int .i64 25] w fun e w' => e = .returned (.int .u32 (Sha.rotr x 25 : Nat)) ∧ w = w' := by
  go_enter Tryd.func49, Tryd.ntmps49
  go_wp2_with (go_at_call 57; (with_reducible refine (rotl_25 _ hx _).mono ?_); rintro e w' ⟨rfl, rfl⟩)
  go_ret
  exact ⟨rfl, rfl⟩
theorem turn_25 (x : Nat) (hx : x < 4294967296) (w : World) : Calls Tryd.prog 47 #[.int .u32 x, .int .i64 25] w fun e w' => e = .returned (.int .u32 (Sha.rotr x 25 : Nat)) ∧ w = w' := by
  go_enter Tryd.func47, Tryd.ntmps47
  go_wp2
  go_ret
  exact ⟨ret_int (turn_val hx (by decide) (by decide)), rfl⟩
end Go.Proofs.YtligojllbnahcaaDoor.D
