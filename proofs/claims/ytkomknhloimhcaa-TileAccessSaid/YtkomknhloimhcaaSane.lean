/-
  The statements' own 'sanity' returns true: the chapter's examples.
-/
import Derived.Test.YtkomknhloimhcaaOver
import Derived.Test.YtkomknhloimhcaaMix
namespace Go.Proofs.Ytkomknhloimhcaa
open Go.RowKit

abbrev p8 (a b c d : Int) : Prop := Ch a ∧ Ch b ∧ Ch c ∧ Ch d
theorem over_ex : ovr ⟨0, 0, 255, 255⟩ ⟨255, 0, 0, 255⟩ 0 51 = ⟨51, 0, 204, 255⟩ := by kernel_rfl
theorem mix_ex : mxx ⟨255, 0, 0, 255⟩ ⟨0, 0, 0, 0⟩ 51 = ⟨255, 0, 0, 204⟩ := by kernel_rfl
theorem over_px (p0 p1 p2 p3 q0 q1 q2 q3 m c : Int) (O : Px) (w : World) (hp0 : Ch p0) (hp1 : Ch p1) (hp2 : Ch p2) (hp3 : Ch p3) (hq0 : Ch q0) (hq1 : Ch q1) (hq2 : Ch q2) (hq3 : Ch q3) (hO : ovr ⟨p0, p1, p2, p3⟩ ⟨q0, q1, q2, q3⟩ m c = O) :
    Calls Try.prog 34 #[pv p0 p1 p2 p3, pv q0 q1 q2 q3, .int .i64 m, .int .i64 c] w fun e w' => e = .returned (pv O.r O.g O.b O.a) ∧ Below w.heap.size w w' := by
  subst hO; exact over_any _ _ _ _ _ _ _ _ _ _ w hp0 hp1 hp2 hp3 hq0 hq1 hq2 hq3
end Go.Proofs.Ytkomknhloimhcaa
