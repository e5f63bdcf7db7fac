/-
  The laws' small.
-/
import Derived.Test.YtihfpflnnhiikaaGreatWLcl
namespace Go.Proofs.YtihfpflnnhiikaaGreat.W
open Go.RowKit
set_option maxRecDepth 100000
/-- the laws' small -/
def sml (a b c d : Int) : R.Rc := ⟨wrap64 (bits BinOp.and IntKind.i64 a 31 - 16), wrap64 (bits BinOp.and IntKind.i64 b 31 - 16), wrap64 (wrap64 (wrap64 (bits BinOp.and IntKind.i64 a 31 - 16) + 1) + bits BinOp.and IntKind.i64 c 7), wrap64 (wrap64 (wrap64 (bits BinOp.and IntKind.i64 b 31 - 16) + 1) + bits BinOp.and IntKind.i64 d 7)⟩
theorem small_any (a b c d : Int) (w : World) : Calls Tryz.prog 6 #[.agg #[.int .i64 a, .int .i64 b, .int .i64 c, .int .i64 d]] w fun e w' => e = .returned (sml a b c d).v ∧ Below w.heap.size w w' := by
  go_enter Tryz.func6, Tryz.ntmps6
  go_wp2
  exact bodyPost_ret (v := (sml a b c d).v) (by simp [results, Tryz.results6, go_sem, sml]) rfl ⟨rfl, below2⟩
theorem wrap_I64 (x : Int) : -9223372036854775808 ≤ wrap64 x ∧ wrap64 x ≤ 9223372036854775807 := by
  unfold wrap64; omega
theorem sml_in (a b c d : Int) : I64 (sml a b c d).x0 ∧ I64 (sml a b c d).y0 ∧ I64 (sml a b c d).x1 ∧ I64 (sml a b c d).y1 := ⟨wrap_I64 _, wrap_I64 _, wrap_I64 _, wrap_I64 _⟩
end Go.Proofs.YtihfpflnnhiikaaGreat.W
