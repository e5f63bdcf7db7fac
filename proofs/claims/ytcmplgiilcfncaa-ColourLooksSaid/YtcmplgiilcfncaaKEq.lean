/-
  Equality of two arrays of three numbers.
-/
import Derived.Test.YtcmplgiilcfncaaKRow
import Derived.Laws.StructEq
namespace Go.Proofs.Ytcmplgiilcfncaa.K
open Go.RowKit
variable {W w w' : World} {L : List (Nat × Obj)}
theorem eq1 (d : Nat) (a b : Int) (w : World) : (Op.equalIn (d + 1) 3 (.int .i64 a) (.int .i64 b)).run Try.prog w = .ok (a == b) w := run_equalIn_int w d _ _ _ a b Try.underlying3
set_option maxRecDepth 100000 in
theorem eql_col (a b c d e f : Int) (w : World) : (Go.binOp .eql 25 (ag a b c) (ag d e f)).run Try.prog w = .ok (.bool (a == d && (b == e && c == f))) w := by
  rw [run_eql_struct]
  have h : (Op.equalIn (9998 + 1 + 1) 25 (ag a b c) (ag d e f)).run Try.prog w = .ok (a == d && (b == e && c == f)) w := by
    rw [Op.equalIn]
    rw [Sem.run_bind, run_underlying Try.underlying25]
    simp only [Result.andThen_ok]
    have hsz : (sizeOf 3).run Try.prog w = .ok 1 w := by kernel_rfl
    rw [Sem.run_bind, hsz]
    simp only [Result.andThen_ok]
    rw [Std.Legacy.Range.forIn_eq_forIn_range', show List.range' [:3].start [:3].size [:3].step = [0, 1, 2] from rfl]
    have p0 : ∀ x y z : Int, ∀ V, (part 3 #[Value.int .i64 x, Value.int .i64 y, Value.int .i64 z] (0 * 1)).run Try.prog V = .ok (.int .i64 x) V := fun _ _ _ _ => rfl
    have p1 : ∀ x y z : Int, ∀ V, (part 3 #[Value.int .i64 x, Value.int .i64 y, Value.int .i64 z] (1 * 1)).run Try.prog V = .ok (.int .i64 y) V := fun _ _ _ _ => rfl
    have p2 : ∀ x y z : Int, ∀ V, (part 3 #[Value.int .i64 x, Value.int .i64 y, Value.int .i64 z] (2 * 1)).run Try.prog V = .ok (.int .i64 z) V := fun _ _ _ _ => rfl
    cases h1 : a == d <;> cases h2 : b == e <;> cases h3 : c == f <;> simp only [List.forIn_cons, List.forIn_nil, Sem.run_bind, p0, p1, p2, eq1, h1, h2, h3, Result.andThen_ok, Sem.run_ite, Sem.run_pure, Bool.not_true, Bool.not_false, Bool.false_eq_true, if_true, if_false, Bool.and_true, Bool.and_false]
  rw [show (10000 : Nat) = 9998 + 1 + 1 from rfl, h]
  rfl
end Go.Proofs.Ytcmplgiilcfncaa.K
