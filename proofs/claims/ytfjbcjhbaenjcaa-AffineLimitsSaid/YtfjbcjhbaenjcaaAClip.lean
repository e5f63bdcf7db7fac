/-
  clip.
-/
import Derived.Test.YtfjbcjhbaenjcaaAOps
namespace Go.Proofs.Ytfjbcjhbaenjcaa.F
open Go.RowKit
set_option maxRecDepth 100000

/-- clipped to the limits -/
def clp (x : Af) : Af := ⟨mn (mx x.a (-4096)) 4096, mn (mx x.b (-4096)) 4096, mn (mx x.c (-268435456)) 268435456, mn (mx x.d (-4096)) 4096, mn (mx x.e (-4096)) 4096, mn (mx x.f (-268435456)) 268435456, mn (mx x.n 1) 4096⟩
set_option maxHeartbeats 4000000 in
theorem clip_any (p0 p1 p2 p3 p4 p5 p6 : Int) (w : World) : Calls Try.prog 40 #[av p0 p1 p2 p3 p4 p5 p6] w fun en w' => en = .returned (clp ⟨p0, p1, p2, p3, p4, p5, p6⟩).v ∧ Below w.heap.size w w' := by
  have hmx := run_mx
  have hmn := run_mn
  go_enter Try.func40, Try.ntmps40
  go_wp2
  exact bodyPost_ret (v := (clp ⟨p0, p1, p2, p3, p4, p5, p6⟩).v) (by simp [results, Try.results40, go_sem, clp, *]) rfl ⟨rfl, below2⟩
end Go.Proofs.Ytfjbcjhbaenjcaa.F
