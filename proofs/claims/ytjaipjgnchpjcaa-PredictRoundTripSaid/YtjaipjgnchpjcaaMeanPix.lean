/-
  A Mean's Pixel, of pixel and of the reference (contracts).
-/
import Derived.Test.YtjaipjgnchpjcaaMean
namespace Go.Proofs.Ytjaipjgnchpjcaa
open Go.RowKit

def mpx (n a x y z : Int) : Px := if n = 0 then zp else if rd a n = 0 then zp else ⟨rd x a, rd y a, rd z a, rd a n⟩
theorem mean_ch {a x : Int} (h : 0 < a) (hx : 0 ≤ x ∧ x ≤ 255 * a) : Ch (rd x a) := rd_between h (by rw [Int.zero_mul]; exact hx.1) hx.2
theorem mpx_cases (n a x y z : Int) : (n = 0 → mpx n a x y z = zp) ∧ (n ≠ 0 → rd a n = 0 → mpx n a x y z = zp) ∧ (n ≠ 0 → rd a n ≠ 0 → mpx n a x y z = ⟨rd x a, rd y a, rd z a, rd a n⟩) :=
  ⟨fun h => if_pos h, fun h h2 => by unfold mpx; rw [if_neg h, if_pos h2], fun h h2 => by unfold mpx; rw [if_neg h, if_neg h2]⟩
end Go.Proofs.Ytjaipjgnchpjcaa
